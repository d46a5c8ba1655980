/- Walks of layer 4: Fence, Sync. -/
import Derived.Test.YtoboiahknapddaaWalkh
namespace Go.Proofs.Ytoboiahknapddaa
open Go.RowKit Go.Shelf
set_option linter.unusedVariables false

theorem kM_l2 {m : Mm} {zs : List (Pd × Bool)} (h : m.per.length ≤ 1000) : (kM m zs).per.length ≤ 1000 := by show (kPer _ _).length ≤ 1000; rw [kPer_length]; exact h
theorem kM_l3 {m : Mm} {bs : List Bool} (h : m.pend.length ≤ 1000) : (kM m (m.pend.zip bs)).pend.length ≤ 1000 := Nat.le_trans (kPend_length _) (by rw [List.length_zip]; omega)
theorem Below.sames {n : Nat} {W W' : World} (h : Below W.heap.size W W') : Same n W W' := ⟨h.size, fun j _ hj => h.block j hj⟩
theorem enter71 : ∀ args w, (callFunc 71 args).run Try.prog w = .ok (.enter 71 args) w := enters_of Try.func71 rfl rfl
theorem enter53 : ∀ args w, (callFunc 53 args).run Try.prog w = .ok (.enter 53 args) w := enters_of Try.func53 rfl rfl

theorem fence1_any (p : Pd) (w : World) : Calls Try.prog 71 #[.agg #[.int .i64 p.a, .int .i64 p.v, .bool p.f]] w fun e w' => e = .returned (.bool p.f) ∧ Below w.heap.size w w' := by
  go_enter Try.func71, Try.ntmps71
  go_wp2
  go_ret
  exact ⟨rfl, (Below.refl _ _).alloc (Nat.le_refl _) _⟩
theorem tells_fence (m : Mm) (n : Nat) : Tells m (m.pend.map (·.f)) 71 #[] n n (fun _ _ => True) := by
  refine ⟨enter71, by simp, fun _ _ _ _ _ => trivial, ?_⟩
  intro k p b W hp hb _ hn
  rw [List.getElem?_map, hp] at hb
  cases hb
  refine (fence1_any p W).mono ?_
  rintro e W' ⟨rfl, hb⟩
  exact ⟨rfl, trivial, hb.mono hn, Below.sames hb⟩

set_option maxRecDepth 100000 in
set_option maxHeartbeats 4000000 in
theorem fence_any (va vb vc : Value) (m : Mm) (w : World) (hR : RdM w va vb vc m) : Calls Try.prog 68 #[.agg #[va, vb, vc]] w fun e w' => ∃ va' vb' vc', e = .returned (.tuple #[.agg #[va', vb', vc'], .int .i64 (okE m)]) ∧ RdM w' va' vb' vc' (fenM m) ∧ Below w.heap.size w w' := by
  obtain ⟨l1, l2, l3⟩ := hR.lens
  obtain ⟨a1, c1, a2, c2, a3, c3, rfl, rfl, rfl⟩ := hR.forms
  have HB : Hid (Below w.heap.size w ((w.alloc (.cells #[.slice a1 m.vol.length c1, .slice a2 m.per.length c2, .slice a3 m.pend.length c3] 41)).alloc (.cells #[.slice none 0 0, .slice none 0 0, .slice none 0 0] 41))) := ((Below.refl _ _).alloc (Nat.le_refl _) _).alloc (by simp) _
  have X0 : Hid (Bx ((w.alloc (.cells #[.slice a1 m.vol.length c1, .slice a2 m.per.length c2, .slice a3 m.pend.length c3] 41)).alloc (.cells #[.slice none 0 0, .slice none 0 0, .slice none 0 0] 41)) w.heap.size (.slice a1 m.vol.length c1) (.slice a2 m.per.length c2) (.slice a3 m.pend.length c3)) := by (show Bx _ _ _ _ _; simp [Bx])
  have Y0 : Hid (Bx ((w.alloc (.cells #[.slice a1 m.vol.length c1, .slice a2 m.per.length c2, .slice a3 m.pend.length c3] 41)).alloc (.cells #[.slice none 0 0, .slice none 0 0, .slice none 0 0] 41)) (w.heap.size + 1) (.slice none 0 0) (.slice none 0 0) (.slice none 0 0)) := by (show Bx _ _ _ _ _; simp [Bx])
  have Hs : Hid (w.heap.size + 2 = ((w.alloc (.cells #[.slice a1 m.vol.length c1, .slice a2 m.per.length c2, .slice a3 m.pend.length c3] 41)).alloc (.cells #[.slice none 0 0, .slice none 0 0, .slice none 0 0] 41)).heap.size) := by (show _ = _; simp)
  have HR : Hid (RdM w (.slice a1 m.vol.length c1) (.slice a2 m.per.length c2) (.slice a3 m.pend.length c3) m) := hR
  clear hR
  cases e1 : ok m
  · have HE : Hid (okE m = 40) := by (show okE m = _; unfold okE; rw [e1]; rfl)
    have HM : Hid (fenM m = m) := by (show fenM m = _; unfold fenM; rw [e1]; rfl)
    go_enter Try.func68, Try.ntmps68
    go_wp2_with (first
      | (go_at_call 50; refine (check_any _ _ _ m _ (HR.out.below HB.out)).mono ?_; rintro e w1 ⟨rfl, hb1⟩; have HB1 : Hid (Below w.heap.size w w1) := bstep HB.out hb1; have HY1 : Hid (Bx w1 (w.heap.size + 1) (.slice none 0 0) (.slice none 0 0) (.slice none 0 0)) := Y0.out.below hb1; obtain ⟨⟨x0, x1, x2⟩, _⟩ := X0.out.below hb1; have Hs1 : Hid (w.heap.size + 2 ≤ w1.heap.size) := by (have := hb1.size; have := Hs.out; show _ ≤ _; omega))
      | (go_at_call 61; refine (clone_any _ _ _ m _ (HR.out.below HB1.out)).mono ?_; rintro e w2 ⟨v1, v2, v3, rfl, O2, hb2⟩; obtain ⟨b1, d1, b2, d2, b3, d3, rfl, rfl, rfl⟩ := (O2.rd l1 l2 l3).forms; obtain ⟨⟨y0, y1, y2⟩, yf0, yf1, yf2⟩ := HY1.out.below hb2))
    obtain ⟨f1, f2, f3⟩ := finish3 O2 l1 l2 l3 (HY1.out.below hb2) (by have := Hs1.out; omega) (bstep HB1.out hb2) (Nat.le_succ _)
    exact bodyPost_ret (ret_cell2 (p := 2) (u := 3) Try.results68 rfl f1) rfl ⟨_, _, _, by rw [HE.out]; rfl, by rw [HM.out]; exact f2, f3⟩
  · have HE : Hid (okE m = 0) := by (show okE m = _; unfold okE; rw [e1]; rfl)
    have HM : Hid (fenM m = kM m (m.pend.zip (m.pend.map (·.f)))) := by (show fenM m = _; unfold fenM; rw [e1]; rfl)
    go_enter Try.func68, Try.ntmps68
    go_wp2_with (first
      | (go_at_call 50; refine (check_any _ _ _ m _ (HR.out.below HB.out)).mono ?_; rintro e w1 ⟨rfl, hb1⟩; have HB1 : Hid (Below w.heap.size w w1) := bstep HB.out hb1; have HY1 : Hid (Bx w1 (w.heap.size + 1) (.slice none 0 0) (.slice none 0 0) (.slice none 0 0)) := Y0.out.below hb1; obtain ⟨⟨x0, x1, x2⟩, _⟩ := X0.out.below hb1; have Hs1 : Hid (w.heap.size + 2 ≤ w1.heap.size) := by (have := hb1.size; have := Hs.out; show _ ≤ _; omega))
      | (go_at_call 52; refine (withKept_any _ _ _ m (m.pend.map (·.f)) 71 #[] w1.heap.size (fun _ _ => True) w1 (HR.out.below HB1.out) (fun W' h => (HR.out.below HB1.out).below h) (Nat.le_refl _) (ok_in e1) (tells_fence m _) trivial).mono ?_; rintro e w2 ⟨v1, v2, v3, rfl, O2, hb2⟩; obtain ⟨b1, d1, b2, d2, b3, d3, rfl, rfl, rfl⟩ := (O2.rd l1 (kM_l2 l2) (kM_l3 l3)).forms; obtain ⟨⟨y0, y1, y2⟩, yf0, yf1, yf2⟩ := HY1.out.below hb2))
    obtain ⟨f1, f2, f3⟩ := finish3 O2 l1 (kM_l2 l2) (kM_l3 l3) (HY1.out.below hb2) (by have := Hs1.out; omega) (bstep HB1.out hb2) (Nat.le_succ _)
    exact bodyPost_ret (ret_cell2 (p := 2) (u := 3) Try.results68 rfl f1) rfl ⟨_, _, _, by rw [HE.out]; rfl, by rw [HM.out]; exact f2, f3⟩


end Go.Proofs.Ytoboiahknapddaa
