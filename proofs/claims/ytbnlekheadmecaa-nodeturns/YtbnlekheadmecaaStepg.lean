/- Walks of layer 5: mayRun, Run, Do, Crash. -/
import Derived.Test.YtbnlekheadmecaaStepf
namespace Go.Proofs.Ytbnlekheadmecaa
open Go.RowKit Go.Shelf
set_option linter.unusedVariables false

set_option maxRecDepth 100000 in
set_option maxHeartbeats 4000000 in
theorem mayRun_any (va vb vc v : Value) (m : Mm) (l : List Mi) (w : World) (hR : RdM w va vb vc m) (hS : RdS w v l) : Calls Try.prog 34 #[.agg #[va, vb, vc], v] w fun e w' => e = .returned (.bool (mrB m l)) ∧ Below w.heap.size w w' := by
  obtain ⟨l1, l2, l3⟩ := hR.lens
  obtain ⟨a1, c1, a2, c2, a3, c3, rfl, rfl, rfl⟩ := hR.forms
  obtain ⟨ll, a, cap, rfl⟩ := hS.form
  have HS : Hid (RdS w (.slice a l.length cap) l) := hS
  have HR : Hid (RdM w (.slice a1 m.vol.length c1) (.slice a2 m.per.length c2) (.slice a3 m.pend.length c3) m) := hR
  have HB : Hid (Below w.heap.size w (w.alloc (.cells #[.slice a1 m.vol.length c1, .slice a2 m.per.length c2, .slice a3 m.pend.length c3] 43))) := (Below.refl _ _).alloc (Nat.le_refl _) _
  have HX : Hid (Bo (w.alloc (.cells #[.slice a1 m.vol.length c1, .slice a2 m.per.length c2, .slice a3 m.pend.length c3] 43)) w.heap.size (.slice a1 m.vol.length c1) (.slice a2 m.per.length c2) (.slice a3 m.pend.length c3)) := Bo.new w _ _ _
  clear hR hS
  cases e1 : ok m
  · have H : Hid (mrB m l = false) := by (show mrB m l = _; unfold mrB; rw [e1]; rfl)
    go_enter Try.func34, Try.ntmps34
    go_wp2_with (first
      | (go_at_call 40; refine (check_any _ _ _ m _ (HR.out.below HB.out)).mono ?_; rintro e w1 ⟨rfl, hb1⟩; have HB1 : Hid (Below w.heap.size w w1) := bstep HB.out hb1; clear hb1))
    go_ret
    exact ⟨ret_bool H.out.symm, HB1.out⟩
  · have H : Hid (mrB m l = chB l (m.vol.length : Int)) := by (show mrB m l = _; unfold mrB; rw [e1]; rfl)
    go_enter Try.func34, Try.ntmps34
    go_wp2_with (first
      | (go_at_call 40; refine (check_any _ _ _ m _ (HR.out.below HB.out)).mono ?_; rintro e w1 ⟨rfl, hb1⟩; have HB1 : Hid (Below w.heap.size w w1) := bstep HB.out hb1; obtain ⟨⟨x0, x1, x2⟩, -⟩ := (HX.out.below hb1).bx; clear hb1)
      | (go_at_call 41; refine (chk_any _ l _ _ (HS.out.below HB1.out)).mono ?_; rintro e w2 ⟨rfl, hb2⟩; have HB2 : Hid (Below w.heap.size w w2) := bstep HB1.out hb2; clear hb2))
    go_ret
    exact ⟨ret_bool H.out.symm, HB2.out⟩


theorem rds_one (W : World) (x : Mi) {b : Nat} (hb : b = W.heap.size) : RdS (W.alloc (.cells #[.int .i64 x.k, .int .i64 x.a, .int .i64 x.v] 51)) (.slice (some ⟨b, 0, none⟩) 1 1) [x] := by
  subst hb
  refine ⟨rfl, by simp, _, _, rfl, Nat.le_refl _, .inr ⟨_, _, rfl, by simp, fun j u hj => ?_⟩⟩
  match j, hj with
  | 0, h => cases h; simp
  | 1, h => cases h; simp
  | 2, h => cases h; simp


end Go.Proofs.Ytbnlekheadmecaa
