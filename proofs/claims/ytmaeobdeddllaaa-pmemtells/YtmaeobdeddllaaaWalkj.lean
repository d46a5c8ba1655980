/- Walks of layer 4: Evict. -/
import Derived.Test.YtmaeobdeddllaaaWalki
namespace Go.Proofs.Ytmaeobdeddllaaa
open Go.RowKit Go.Shelf
set_option linter.unusedVariables false

theorem bx_new (W : World) (x y z : Value) (t : TypeId) : Bx (W.alloc (.cells #[x, y, z] t)) W.heap.size x y z := by simp [Bx]
/-- What is held: what is pending, in its box, and a number. -/
def SL (w : World) (b lb : Nat) (x y z u : Value) (w2 : World) : Prop := (w2.cell? ⟨b, 0, none⟩ = some x ∧ w2.cell? ⟨b, 1, none⟩ = some y ∧ w2.cell? ⟨b, 2, none⟩ = some z) ∧ w2.cell? ⟨lb, 0, none⟩ = some u ∧ Below w.heap.size w w2
theorem SL.next {w W w2 : World} {b lb : Nat} {x y z u : Value} (hb : Below W.heap.size W w2) (h : SL w b lb x y z u W) : SL w b lb x y z u w2 := ⟨⟨cell_held h.1.1 hb, cell_held h.1.2.1 hb, cell_held h.1.2.2 hb⟩, cell_held h.2.1 hb, bstep h.2.2 hb⟩

set_option maxRecDepth 100000 in
set_option maxHeartbeats 1000000 in
theorem evict1_any (q l : Nat) (pv : Int) (pf : Bool) (n : Int) (lb : Nat) (w : World) (hql : q / 8 = l) (hq5 : q < 100000) (hc : w.cell? ⟨lb, 0, none⟩ = some (.int .i64 n)) :
    Calls Try.prog 37 #[.agg #[.int .i64 (q : Int), .int .i64 pv, .bool pf], .pointer (some ⟨lb, 0, none⟩)] w fun e w' => e = .returned (.bool ((l : Int) == n)) ∧ Below w.heap.size w w' := by
  have b0 : Below w.heap.size w (w.alloc (.cells #[.int .i64 (q : Int), .int .i64 pv, .bool pf] 41)) := (Below.refl _ _).alloc (Nat.le_refl _) _
  have HS : Hid (SL w w.heap.size lb (.int .i64 (q : Int)) (.int .i64 pv) (.bool pf) (.int .i64 n) (w.alloc (.cells #[.int .i64 (q : Int), .int .i64 pv, .bool pf] 41))) := ⟨by simp, cell_held hc b0, b0⟩
  clear b0
  go_enter Try.func37, Try.ntmps37
  go_wp2
  generalize w.alloc (.cells #[.int .i64 (q : Int), .int .i64 pv, .bool pf] 41) = W1 at HS ⊢
  have HS : Hid (SL w w.heap.size lb (.int .i64 (q : Int)) (.int .i64 pv) (.bool pf) (.int .i64 n) W1.drew) := HS.out.next (Below.refl _ _).drew
  go_region_held3 (fun w2 => (w2.cell? ⟨w.heap.size, 0, none⟩ = some (.int .i64 (q : Int)) ∧ w2.cell? ⟨w.heap.size, 1, none⟩ = some (.int .i64 pv) ∧ w2.cell? ⟨w.heap.size, 2, none⟩ = some (.bool pf)) ∧ w2.cell? ⟨lb, 0, none⟩ = some (.int .i64 n) ∧ Below w.heap.size w w2)
    (first | exact HS.out | exact SL.next (by assumption) (by assumption))
    (first | (go_at_call 38; refine (lineOf_nat q l _ _ _ hql hq5).mono ?_; rintro e w3 ⟨rfl, hb3⟩))
  go_wp2
  go_ret
  exact ⟨rfl, bstep HS.out.2.2 hb3⟩
theorem tells_evict (m : Mm) (n : Int) (lb N : Nat) (hI : InPl m.per.length m.pend) (hl : m.per.length ≤ 1000) (hlb : lb < N) : Tells m (m.pend.map fun p => decide (p.a / 8 = n)) 37 #[.pointer (some ⟨lb, 0, none⟩)] N N (fun _ W => W.cell? ⟨lb, 0, none⟩ = some (.int .i64 n)) := by
  refine ⟨enter37, by simp, fun k W W' h hb => (hb.cell (p := ⟨lb, 0, none⟩) hlb).trans h, ?_⟩
  intro k p b W hp hb hJ hn
  rw [List.getElem?_map, hp] at hb
  cases hb
  have hin := hI p (List.mem_of_getElem? hp)
  obtain ⟨pa, pv, pf⟩ := p
  dsimp only at hin
  obtain ⟨q, rfl⟩ := Int.eq_ofNat_of_zero_le hin.1
  refine (evict1_any q (q / 8) pv pf n lb W rfl (by omega) hJ).mono ?_
  rintro e W' ⟨rfl, hb⟩
  refine ⟨ret_bool ?_, cell_held hJ hb, hb.mono hn, Below.sames hb⟩
  rw [Bool.eq_iff_iff]
  simp

set_option maxRecDepth 100000 in
set_option maxHeartbeats 4000000 in
theorem evict_any (va vb vc : Value) (m : Mm) (n : Int) (w : World) (hR : RdM w va vb vc m) : Calls Try.prog 18 #[.agg #[va, vb, vc], .int .i64 n] w fun e w' => ∃ va' vb' vc', e = .returned (.tuple #[.agg #[va', vb', vc'], .int .i64 (lnE m n)]) ∧ RdM w' va' vb' vc' (eviM m n) ∧ Below w.heap.size w w' := by
  obtain ⟨l1, l2, l3⟩ := hR.lens
  obtain ⟨a1, c1, a2, c2, a3, c3, rfl, rfl, rfl⟩ := hR.forms
  have HB : Hid (Below w.heap.size w (((w.alloc (.cells #[.slice a1 m.vol.length c1, .slice a2 m.per.length c2, .slice a3 m.pend.length c3] 25)).alloc (.cells #[.int .i64 n] 3)).alloc (.cells #[.slice none 0 0, .slice none 0 0, .slice none 0 0] 25))) := (((Below.refl _ _).alloc (Nat.le_refl _) _).alloc (by simp) _).alloc (by simp; omega) _
  have X0 : Hid (Bx (((w.alloc (.cells #[.slice a1 m.vol.length c1, .slice a2 m.per.length c2, .slice a3 m.pend.length c3] 25)).alloc (.cells #[.int .i64 n] 3)).alloc (.cells #[.slice none 0 0, .slice none 0 0, .slice none 0 0] 25)) w.heap.size (.slice a1 m.vol.length c1) (.slice a2 m.per.length c2) (.slice a3 m.pend.length c3)) := ((bx_new w _ _ _ 25).below ((Below.refl _ _).alloc (Nat.le_refl _) _)).below ((Below.refl _ _).alloc (Nat.le_refl _) _)
  have L0 : Hid ((((w.alloc (.cells #[.slice a1 m.vol.length c1, .slice a2 m.per.length c2, .slice a3 m.pend.length c3] 25)).alloc (.cells #[.int .i64 n] 3)).alloc (.cells #[.slice none 0 0, .slice none 0 0, .slice none 0 0] 25)).cell? ⟨w.heap.size + 1, 0, none⟩ = some (.int .i64 n)) := cell_held (W := (w.alloc (.cells #[.slice a1 m.vol.length c1, .slice a2 m.per.length c2, .slice a3 m.pend.length c3] 25)).alloc (.cells #[.int .i64 n] 3)) (by simp) ((Below.refl _ _).alloc (Nat.le_refl _) _)
  have Y0 : Hid (Bx (((w.alloc (.cells #[.slice a1 m.vol.length c1, .slice a2 m.per.length c2, .slice a3 m.pend.length c3] 25)).alloc (.cells #[.int .i64 n] 3)).alloc (.cells #[.slice none 0 0, .slice none 0 0, .slice none 0 0] 25)) (w.heap.size + 2) (.slice none 0 0) (.slice none 0 0) (.slice none 0 0)) := by (have := bx_new ((w.alloc (.cells #[.slice a1 m.vol.length c1, .slice a2 m.per.length c2, .slice a3 m.pend.length c3] 25)).alloc (.cells #[.int .i64 n] 3)) (.slice none 0 0) (.slice none 0 0) (.slice none 0 0) 25; rw [show ((w.alloc (.cells #[.slice a1 m.vol.length c1, .slice a2 m.per.length c2, .slice a3 m.pend.length c3] 25)).alloc (.cells #[.int .i64 n] 3)).heap.size = w.heap.size + 2 from by simp] at this; exact this)
  have Hs : Hid (w.heap.size + 3 = (((w.alloc (.cells #[.slice a1 m.vol.length c1, .slice a2 m.per.length c2, .slice a3 m.pend.length c3] 25)).alloc (.cells #[.int .i64 n] 3)).alloc (.cells #[.slice none 0 0, .slice none 0 0, .slice none 0 0] 25)).heap.size) := by (show _ = _; simp)
  have HR : Hid (RdM w (.slice a1 m.vol.length c1) (.slice a2 m.per.length c2) (.slice a3 m.pend.length c3) m) := hR
  clear hR
  cases e1 : ok m
  · have HN : Hid (lnB m n = false) := lnB_no1 e1
    have HE : Hid (lnE m n = 40) := by (show lnE m n = _; unfold lnE; rw [HN.out]; rfl)
    have HM : Hid (eviM m n = m) := by (show eviM m n = _; unfold eviM; rw [HN.out]; rfl)
    go_enter Try.func18, Try.ntmps18
    go_wp2_with (first
      | (go_at_call 27; refine (check_any _ _ _ m _ (HR.out.below HB.out)).mono ?_; rintro e w1 ⟨rfl, hb1⟩; have HB0 : Hid (Below w.heap.size w w1) := bstep HB.out hb1; have HX0 : Hid (Bx w1 w.heap.size (.slice a1 m.vol.length c1) (.slice a2 m.per.length c2) (.slice a3 m.pend.length c3)) := X0.out.below hb1; have HL0 : Hid (w1.cell? ⟨w.heap.size + 1, 0, none⟩ = some (.int .i64 n)) := cell_held L0.out hb1; have HY0 : Hid (Bx w1 (w.heap.size + 2) (.slice none 0 0) (.slice none 0 0) (.slice none 0 0)) := Y0.out.below hb1; have hl0 := HL0.out; obtain ⟨⟨x0, x1, x2⟩, _⟩ := HX0.out; have Hs0 : Hid (w.heap.size + 3 ≤ w1.heap.size) := (by have := hb1.size; have := Hs.out; show _ ≤ _; omega); have HB1 := HB0; have HY1 := HY0; have Hs1 := Hs0)
      | (go_at_call 29; refine (clone_any _ _ _ m _ (HR.out.below HB1.out)).mono ?_; rintro e w2 ⟨v1, v2, v3, rfl, O2, hb2⟩; obtain ⟨b1, d1, b2, d2, b3, d3, rfl, rfl, rfl⟩ := (O2.rd l1 l2 l3).forms; obtain ⟨⟨y0, y1, y2⟩, yf0, yf1, yf2⟩ := HY1.out.below hb2))
    obtain ⟨f1, f2, f3⟩ := finish3 O2 l1 l2 l3 (HY1.out.below hb2) (by have := Hs1.out; omega) (bstep HB1.out hb2) (Nat.le_add_right _ 2)
    exact bodyPost_ret (ret_cell2 (p := 4) (u := 5) Try.results18 rfl f1) rfl ⟨_, _, _, by rw [HE.out]; rfl, by rw [HM.out]; exact f2, f3⟩
  · cases e2 : lineB m.vol.length n
    · have HN : Hid (lnB m n = false) := lnB_no2 e2
      have HE : Hid (lnE m n = 40) := by (show lnE m n = _; unfold lnE; rw [HN.out]; rfl)
      have HM : Hid (eviM m n = m) := by (show eviM m n = _; unfold eviM; rw [HN.out]; rfl)
      go_enter Try.func18, Try.ntmps18
      go_wp2_with (first
        | (go_at_call 27; refine (check_any _ _ _ m _ (HR.out.below HB.out)).mono ?_; rintro e w0 ⟨rfl, hb0⟩; have HB0 : Hid (Below w.heap.size w w0) := bstep HB.out hb0; have HX0 : Hid (Bx w0 w.heap.size (.slice a1 m.vol.length c1) (.slice a2 m.per.length c2) (.slice a3 m.pend.length c3)) := X0.out.below hb0; have HL0 : Hid (w0.cell? ⟨w.heap.size + 1, 0, none⟩ = some (.int .i64 n)) := cell_held L0.out hb0; have HY0 : Hid (Bx w0 (w.heap.size + 2) (.slice none 0 0) (.slice none 0 0) (.slice none 0 0)) := Y0.out.below hb0; have hl0 := HL0.out; obtain ⟨⟨x0, x1, x2⟩, _⟩ := HX0.out; have Hs0 : Hid (w.heap.size + 3 ≤ w0.heap.size) := (by have := hb0.size; have := Hs.out; show _ ≤ _; omega))
        | (go_at_call 31; refine (hasLine_any _ _ _ m n _ (HR.out.below HB0.out)).mono ?_; rintro e w1 ⟨rfl, hb1⟩; have HB1 : Hid (Below w.heap.size w w1) := bstep HB0.out hb1; have HY1 : Hid (Bx w1 (w.heap.size + 2) (.slice none 0 0) (.slice none 0 0) (.slice none 0 0)) := HY0.out.below hb1; have HL1 : Hid (w1.cell? ⟨w.heap.size + 1, 0, none⟩ = some (.int .i64 n)) := cell_held HL0.out hb1; obtain ⟨⟨q0, q1, q2⟩, _⟩ := HX0.out.below hb1; have Hs1 : Hid (w.heap.size + 3 ≤ w1.heap.size) := by (have := hb1.size; have := Hs0.out; show _ ≤ _; omega))
        | (go_at_call 29; refine (clone_any _ _ _ m _ (HR.out.below HB1.out)).mono ?_; rintro e w2 ⟨v1, v2, v3, rfl, O2, hb2⟩; obtain ⟨b1, d1, b2, d2, b3, d3, rfl, rfl, rfl⟩ := (O2.rd l1 l2 l3).forms; obtain ⟨⟨y0, y1, y2⟩, yf0, yf1, yf2⟩ := HY1.out.below hb2))
      obtain ⟨f1, f2, f3⟩ := finish3 O2 l1 l2 l3 (HY1.out.below hb2) (by have := Hs1.out; omega) (bstep HB1.out hb2) (Nat.le_add_right _ 2)
      exact bodyPost_ret (ret_cell2 (p := 4) (u := 5) Try.results18 rfl f1) rfl ⟨_, _, _, by rw [HE.out]; rfl, by rw [HM.out]; exact f2, f3⟩
    · have HN : Hid (lnB m n = true) := lnB_yes e1 e2
      have HE : Hid (lnE m n = 0) := by (show lnE m n = _; unfold lnE; rw [HN.out]; rfl)
      have HM : Hid (eviM m n = kM m (m.pend.zip (m.pend.map fun p => decide (p.a / 8 = n)))) := by (show eviM m n = _; unfold eviM; rw [HN.out]; rfl)
      have HI : Hid (InPl m.per.length m.pend) := ok_in e1
      go_enter Try.func18, Try.ntmps18
      go_wp2_with (first
        | (go_at_call 27; refine (check_any _ _ _ m _ (HR.out.below HB.out)).mono ?_; rintro e w0 ⟨rfl, hb0⟩; have HB0 : Hid (Below w.heap.size w w0) := bstep HB.out hb0; have HX0 : Hid (Bx w0 w.heap.size (.slice a1 m.vol.length c1) (.slice a2 m.per.length c2) (.slice a3 m.pend.length c3)) := X0.out.below hb0; have HL0 : Hid (w0.cell? ⟨w.heap.size + 1, 0, none⟩ = some (.int .i64 n)) := cell_held L0.out hb0; have HY0 : Hid (Bx w0 (w.heap.size + 2) (.slice none 0 0) (.slice none 0 0) (.slice none 0 0)) := Y0.out.below hb0; have hl0 := HL0.out; obtain ⟨⟨x0, x1, x2⟩, _⟩ := HX0.out; have Hs0 : Hid (w.heap.size + 3 ≤ w0.heap.size) := (by have := hb0.size; have := Hs.out; show _ ≤ _; omega))
        | (go_at_call 31; refine (hasLine_any _ _ _ m n _ (HR.out.below HB0.out)).mono ?_; rintro e w1 ⟨rfl, hb1⟩; have HB1 : Hid (Below w.heap.size w w1) := bstep HB0.out hb1; have HY1 : Hid (Bx w1 (w.heap.size + 2) (.slice none 0 0) (.slice none 0 0) (.slice none 0 0)) := HY0.out.below hb1; have HL1 : Hid (w1.cell? ⟨w.heap.size + 1, 0, none⟩ = some (.int .i64 n)) := cell_held HL0.out hb1; obtain ⟨⟨q0, q1, q2⟩, _⟩ := HX0.out.below hb1; have Hs1 : Hid (w.heap.size + 3 ≤ w1.heap.size) := by (have := hb1.size; have := Hs0.out; show _ ≤ _; omega))
        | (go_at_call 34; refine (withKept_any _ _ _ m (m.pend.map fun p => decide (p.a / 8 = n)) 37 #[.pointer (some ⟨w.heap.size + 1, 0, none⟩)] w1.heap.size (fun _ W => W.cell? ⟨w.heap.size + 1, 0, none⟩ = some (.int .i64 n)) w1 (HR.out.below HB1.out) (fun W' h => (HR.out.below HB1.out).below h) (Nat.le_refl _) (ok_in e1) (tells_evict m n (w.heap.size + 1) _ HI.out l2 (by have := Hs1.out; omega)) HL1.out).mono ?_; rintro e w2 ⟨v1, v2, v3, rfl, O2, hb2⟩; obtain ⟨b1, d1, b2, d2, b3, d3, rfl, rfl, rfl⟩ := (O2.rd l1 (kM_l2 l2) (kM_l3 l3)).forms; obtain ⟨⟨y0, y1, y2⟩, yf0, yf1, yf2⟩ := HY1.out.below hb2))
      obtain ⟨f1, f2, f3⟩ := finish3 O2 l1 (kM_l2 l2) (kM_l3 l3) (HY1.out.below hb2) (by have := Hs1.out; omega) (bstep HB1.out hb2) (Nat.le_add_right _ 2)
      exact bodyPost_ret (ret_cell2 (p := 4) (u := 5) Try.results18 rfl f1) rfl ⟨_, _, _, by rw [HE.out]; rfl, by rw [HM.out]; exact f2, f3⟩
end Go.Proofs.Ytmaeobdeddllaaa

