/- Walks of layer 5: mayRun, Run, Do, Crash. -/
import Derived.Test.YtmhojhpfkieioaaStepf
namespace Go.Proofs.Ytmhojhpfkieioaa
open Go.RowKit Go.Shelf
set_option linter.unusedVariables false

set_option maxRecDepth 100000 in
set_option maxHeartbeats 4000000 in
theorem mayRun_any (va vb vc v : Value) (m : Mm) (l : List Mi) (w : World) (hR : RdM w va vb vc m) (hS : RdS w v l) : Calls Try.prog 33 #[.agg #[va, vb, vc], v] w fun e w' => e = .returned (.bool (mrB m l)) ∧ Below w.heap.size w w' := by
  obtain ⟨l1, l2, l3⟩ := hR.lens
  obtain ⟨a1, c1, a2, c2, a3, c3, rfl, rfl, rfl⟩ := hR.forms
  obtain ⟨ll, a, cap, rfl⟩ := hS.form
  have HS : Hid (RdS w (.slice a l.length cap) l) := hS
  have HR : Hid (RdM w (.slice a1 m.vol.length c1) (.slice a2 m.per.length c2) (.slice a3 m.pend.length c3) m) := hR
  have HB : Hid (Below w.heap.size w (w.alloc (.cells #[.slice a1 m.vol.length c1, .slice a2 m.per.length c2, .slice a3 m.pend.length c3] 40))) := (Below.refl _ _).alloc (Nat.le_refl _) _
  have HX : Hid (Bo (w.alloc (.cells #[.slice a1 m.vol.length c1, .slice a2 m.per.length c2, .slice a3 m.pend.length c3] 40)) w.heap.size (.slice a1 m.vol.length c1) (.slice a2 m.per.length c2) (.slice a3 m.pend.length c3)) := Bo.new w _ _ _
  clear hR hS
  cases e1 : ok m
  · have H : Hid (mrB m l = false) := by (show mrB m l = _; unfold mrB; rw [e1]; rfl)
    go_enter Try.func33, Try.ntmps33
    go_wp2_with (first
      | (go_at_call 42; refine (check_any _ _ _ m _ (HR.out.below HB.out)).mono ?_; rintro e w1 ⟨rfl, hb1⟩; have HB1 : Hid (Below w.heap.size w w1) := bstep HB.out hb1; clear hb1))
    go_ret
    exact ⟨ret_bool H.out.symm, HB1.out⟩
  · have H : Hid (mrB m l = chB l (m.vol.length : Int)) := by (show mrB m l = _; unfold mrB; rw [e1]; rfl)
    go_enter Try.func33, Try.ntmps33
    go_wp2_with (first
      | (go_at_call 42; refine (check_any _ _ _ m _ (HR.out.below HB.out)).mono ?_; rintro e w1 ⟨rfl, hb1⟩; have HB1 : Hid (Below w.heap.size w w1) := bstep HB.out hb1; obtain ⟨⟨x0, x1, x2⟩, -⟩ := (HX.out.below hb1).bx; clear hb1)
      | (go_at_call 43; refine (chk_any _ l _ _ (HS.out.below HB1.out)).mono ?_; rintro e w2 ⟨rfl, hb2⟩; have HB2 : Hid (Below w.heap.size w w2) := bstep HB1.out hb2; clear hb2))
    go_ret
    exact ⟨ret_bool H.out.symm, HB2.out⟩

set_option maxRecDepth 100000 in
set_option maxHeartbeats 4000000 in
theorem run_any (va vb vc v : Value) (m : Mm) (l : List Mi) (w : World) (hR : RdM w va vb vc m) (hS : RdS w v l) (hp : m.pend.length + l.length ≤ 900) : Calls Try.prog 20 #[.agg #[va, vb, vc], v] w fun e w' => ∃ va' vb' vc', e = .returned (.tuple #[.agg #[va', vb', vc'], .int .i64 (ruE m l)]) ∧ RdM w' va' vb' vc' (ruM m l) ∧ Below w.heap.size w w' := by
  obtain ⟨l1, l2, l3⟩ := hR.lens
  obtain ⟨a1, c1, a2, c2, a3, c3, rfl, rfl, rfl⟩ := hR.forms
  obtain ⟨ll, a, cap, rfl⟩ := hS.form
  have HS : Hid (RdS w (.slice a l.length cap) l) := hS
  have HR : Hid (RdM w (.slice a1 m.vol.length c1) (.slice a2 m.per.length c2) (.slice a3 m.pend.length c3) m) := hR
  have HB : Hid (Below w.heap.size w ((w.alloc (.cells #[.slice a1 m.vol.length c1, .slice a2 m.per.length c2, .slice a3 m.pend.length c3] 40)).alloc (.cells #[.slice none 0 0, .slice none 0 0, .slice none 0 0] 40))) := ((Below.refl _ _).alloc (Nat.le_refl _) _).alloc (by simp) _
  have HX : Hid (Bo ((w.alloc (.cells #[.slice a1 m.vol.length c1, .slice a2 m.per.length c2, .slice a3 m.pend.length c3] 40)).alloc (.cells #[.slice none 0 0, .slice none 0 0, .slice none 0 0] 40)) w.heap.size (.slice a1 m.vol.length c1) (.slice a2 m.per.length c2) (.slice a3 m.pend.length c3)) := (Bo.new w _ _ _).below ((Below.refl _ _).alloc (Nat.le_refl _) _)
  have HY : Hid (Bo ((w.alloc (.cells #[.slice a1 m.vol.length c1, .slice a2 m.per.length c2, .slice a3 m.pend.length c3] 40)).alloc (.cells #[.slice none 0 0, .slice none 0 0, .slice none 0 0] 40)) (w.heap.size + 1) (.slice none 0 0) (.slice none 0 0) (.slice none 0 0)) := by (have := Bo.new (w.alloc (.cells #[.slice a1 m.vol.length c1, .slice a2 m.per.length c2, .slice a3 m.pend.length c3] 40)) (.slice none 0 0) (.slice none 0 0) (.slice none 0 0); rwa [World.size_alloc] at this)
  clear hR hS
  cases e1 : mrB m l
  · have HE : Hid (ruE m l = 40) := ruE_no e1
    have HM : Hid (ruM m l = m) := ruM_no e1
    go_enter Try.func20, Try.ntmps20
    go_wp2_with (first
      | (go_at_call 33; refine (mayRun_any _ _ _ _ m l _ (HR.out.below HB.out) (HS.out.below HB.out)).mono ?_; rintro e w1 ⟨rfl, hb1⟩; rw [e1]; have HB1 : Hid (Below w.heap.size w w1) := bstep HB.out hb1; have HY1 : Hid (Bo w1 (w.heap.size + 1) (.slice none 0 0) (.slice none 0 0) (.slice none 0 0)) := HY.out.below hb1; obtain ⟨⟨x0, x1, x2⟩, -⟩ := (HX.out.below hb1).bx; clear hb1)
      | (go_at_call 34; refine (cloneS_any _ _ _ m _ (HR.out.below HB1.out)).mono ?_; rintro e w2 ⟨v1, v2, v3, rfl, O2, hb2⟩; have R2 := O2.rd l1 l2 l3; obtain ⟨g1, gd1, g2, gd2, g3, gd3, rfl, rfl, rfl⟩ := R2.forms; have HR2 : Hid (RdM w2 (.slice g1 m.vol.length gd1) (.slice g2 m.per.length gd2) (.slice g3 m.pend.length gd3) m) := R2; have HB2 : Hid (Below w.heap.size w w2) := bstep HB1.out hb2; have HY2 : Hid (Bo w2 (w.heap.size + 1) (.slice none 0 0) (.slice none 0 0) (.slice none 0 0)) := HY1.out.below hb2; obtain ⟨⟨y0, y1, y2⟩, yf0, yf1, yf2⟩ := HY2.out.bx; clear O2 R2 hb2))
    obtain ⟨f1, f2, f3⟩ := finishR HR2.out HY2.out HB2.out (Nat.le_succ _)
    exact bodyPost_ret (ret_cell2 (p := 4) (u := 5) Try.results20 rfl f1) rfl ⟨_, _, _, by rw [HE.out]; rfl, by rw [HM.out]; exact f2, f3⟩
  · have HE : Hid (ruE m l = 0) := ruE_yes e1
    have HM : Hid (ruM m l = runM m (l.take (tkN (l.length : Int) l.length))) := by (show _ = _; rw [ruM_yes e1]; have e : tkN (l.length : Int) l.length = l.length := (by unfold tkN; omega); rw [e, List.take_length])
    have HK : Hid (∀ x ∈ l, x.k = 1 ∨ x.k = 2) := mrB_kinds e1
    go_enter Try.func20, Try.ntmps20
    go_wp2_with (first
      | (go_at_call 33; refine (mayRun_any _ _ _ _ m l _ (HR.out.below HB.out) (HS.out.below HB.out)).mono ?_; rintro e w1 ⟨rfl, hb1⟩; rw [e1]; have HB1 : Hid (Below w.heap.size w w1) := bstep HB.out hb1; have HY1 : Hid (Bo w1 (w.heap.size + 1) (.slice none 0 0) (.slice none 0 0) (.slice none 0 0)) := HY.out.below hb1; obtain ⟨⟨x0, x1, x2⟩, -⟩ := (HX.out.below hb1).bx; clear hb1)
      | (go_at_call 35; refine (behind_any _ _ _ _ m l (l.length : Int) _ (HR.out.below HB1.out) (HS.out.below HB1.out) HK.out hp).mono ?_; rintro e w2 ⟨v1, v2, v3, rfl, R2, hb2⟩; rw [← HM.out] at R2; obtain ⟨g1, gd1, g2, gd2, g3, gd3, rfl, rfl, rfl⟩ := R2.forms; have HR2 : Hid (RdM w2 (.slice g1 (ruM m l).vol.length gd1) (.slice g2 (ruM m l).per.length gd2) (.slice g3 (ruM m l).pend.length gd3) (ruM m l)) := R2; have HB2 : Hid (Below w.heap.size w w2) := bstep HB1.out hb2; have HY2 : Hid (Bo w2 (w.heap.size + 1) (.slice none 0 0) (.slice none 0 0) (.slice none 0 0)) := HY1.out.below hb2; obtain ⟨⟨y0, y1, y2⟩, yf0, yf1, yf2⟩ := HY2.out.bx; clear R2 hb2))
    obtain ⟨f1, f2, f3⟩ := finishR HR2.out HY2.out HB2.out (Nat.le_succ _)
    exact bodyPost_ret (ret_cell2 (p := 4) (u := 5) Try.results20 rfl f1) rfl ⟨_, _, _, by rw [HE.out]; rfl, f2, f3⟩

theorem rds_one (W : World) (x : Mi) {b : Nat} (hb : b = W.heap.size) : RdS (W.alloc (.cells #[.int .i64 x.k, .int .i64 x.a, .int .i64 x.v] 52)) (.slice (some ⟨b, 0, none⟩) 1 1) [x] := by
  subst hb
  refine ⟨rfl, by simp, _, _, rfl, Nat.le_refl _, .inr ⟨_, _, rfl, by simp, fun j u hj => ?_⟩⟩
  match j, hj with
  | 0, h => cases h; simp
  | 1, h => cases h; simp
  | 2, h => cases h; simp


end Go.Proofs.Ytmhojhpfkieioaa
