/- Walks of layer 10: Give. -/
import Derived.Test.YtpfbnfnlbjjjoaaBs
import Derived.Test.YtpfbnfnlbjjjoaaIns
namespace Go.Proofs.Ytpfbnfnlbjjjoaa
open Go.RowKit
set_option linter.unusedVariables false

theorem ins_gv {zs : List Int} {x : Int} {i : Nat} (h : gvB zs x = true) (hA : Ah zs x i i) (hi : i ≤ zs.length) : ins zs i x = gvL zs x := by
  obtain ⟨h1, h2, h3⟩ := gvB_iff.1 h
  obtain ⟨e1, e2⟩ := cut_take h1.1 h3
  rw [hA.cnt hi] at e1 e2
  rw [(gv_yes h).2, ins, e1, e2]

set_option maxRecDepth 100000 in
set_option maxHeartbeats 1000000 in
theorem give_any (v : Value) (zs : List Int) (x : Int) (w : World) (hR : Rd w v zs) : Calls Try.prog 13 #[v, .int .i64 x] w fun e w' => ∃ v', e = .returned (.tuple #[v', .int .i64 (gvE zs x)]) ∧ Rd w' v' (gvL zs x) ∧ Below w.heap.size w w' := by
  have HR : Hid (Rd w v zs) := hR
  have k20 : Hid (∀ W, Below w.heap.size w W → Calls Try.prog 20 #[v] W fun e w' => ∃ v', e = .returned v' ∧ OwnI w' W.heap.size v' zs ∧ Below W.heap.size W w') := fun W hb => cloneI_any v zs W (hR.below hb)
  obtain ⟨hz, a, cap, rfl⟩ := hR.form
  clear hR
  cases hg : gvB zs x with
  | false =>
    obtain ⟨g1, g2⟩ := gv_no hg
    have G1 : Hid (gvE zs x = 1) := g1
    have G2 : Hid (gvL zs x = zs) := g2
    clear g1 g2
    cases hc : chk zs with
    | false =>
      go_enter Try.func13, Try.ntmps13
      go_wp2_with (first
        | (go_at_call 21; refine (bs_any _ zs x _ HR.out).mono ?_; rintro e w1 ⟨i, rfl, hi, hA, hb1⟩; have HB1 : Hid (Below w.heap.size w w1) := hb1; generalize decide (zs[i]? = some x) = bb at *; clear hi hA hb1)
        | (go_at_call 16; refine (check_any _ zs _ (HR.out.below HB1.out)).mono ?_; rintro e w' ⟨rfl, hw⟩; rw [hw, hc]; clear hw w')
        | (go_at_call 20; refine (k20.out _ HB1.out).mono ?_; rintro e w2 ⟨v2, rfl, o2, hb2⟩))
      refine bodyPost_ret (results_tmp2 Try.results13 _ _ _) rfl ?_
      exact ⟨_, by rw [G1.out]; rfl, by rw [G2.out]; exact o2.rd hz, bstep HB1.out hb2⟩
    | true =>
      cases hb : isB x with
      | false =>
        go_enter Try.func13, Try.ntmps13
        go_wp2_with (first
          | (go_at_call 21; refine (bs_any _ zs x _ HR.out).mono ?_; rintro e w1 ⟨i, rfl, hi, hA, hb1⟩; have HB1 : Hid (Below w.heap.size w w1) := hb1; generalize decide (zs[i]? = some x) = bb at *; clear hi hA hb1)
          | (go_at_call 16; refine (check_any _ zs _ (HR.out.below HB1.out)).mono ?_; rintro e w' ⟨rfl, hw⟩; rw [hw, hc]; clear hw w')
          | (go_at_call 19; refine (isBlock_any x _).mono ?_; rintro e w' ⟨rfl, hw⟩; rw [hw, hb]; clear hw w')
          | (go_at_call 20; refine (k20.out _ HB1.out).mono ?_; rintro e w2 ⟨v2, rfl, o2, hb2⟩))
        refine bodyPost_ret (results_tmp2 Try.results13 _ _ _) rfl ?_
        exact ⟨_, by rw [G1.out]; rfl, by rw [G2.out]; exact o2.rd hz, bstep HB1.out hb2⟩
      | true =>
        have HM : Hid (∀ i, (chk zs = true → Ah zs x i i) → decide (zs[i]? = some x) = true) := fun i hA => by
          rw [(hA hc).mem (chk_iff.1 hc).1]
          unfold gvB at hg
          rw [hc, hb] at hg
          simpa using hg
        go_enter Try.func13, Try.ntmps13
        go_wp2_with (first
          | (go_at_call 21; refine (bs_any _ zs x _ HR.out).mono ?_; rintro e w1 ⟨i, rfl, hi, hA, hb1⟩; have HB1 : Hid (Below w.heap.size w w1) := hb1; rw [HM.out i hA]; clear hi hA hb1)
          | (go_at_call 16; refine (check_any _ zs _ (HR.out.below HB1.out)).mono ?_; rintro e w' ⟨rfl, hw⟩; rw [hw, hc]; clear hw w')
          | (go_at_call 19; refine (isBlock_any x _).mono ?_; rintro e w' ⟨rfl, hw⟩; rw [hw, hb]; clear hw w')
          | (go_at_call 20; refine (k20.out _ HB1.out).mono ?_; rintro e w2 ⟨v2, rfl, o2, hb2⟩))
        refine bodyPost_ret (results_tmp2 Try.results13 _ _ _) rfl ?_
        exact ⟨_, by rw [G1.out]; rfl, by rw [G2.out]; exact o2.rd hz, bstep HB1.out hb2⟩
  | true =>
    obtain ⟨g1, g2⟩ := gv_yes hg
    have G1 : Hid (gvE zs x = 0) := g1
    have HG : Hid (gvB zs x = true) := hg
    obtain ⟨h1, h2, h3⟩ := gvB_iff.1 hg
    have hc : chk zs = true := chk_iff.2 h1
    have hb : isB x = true := isB_iff.2 h2
    have HM : Hid (∀ i, (chk zs = true → Ah zs x i i) → decide (zs[i]? = some x) = false) := fun i hA => by
      rw [(hA hc).mem (chk_iff.1 hc).1]
      exact decide_eq_false h3
    have HI : Hid (∀ i, (chk zs = true → Ah zs x i i) → i ≤ zs.length → ins zs i x = gvL zs x) := fun i hA hi => ins_gv HG.out (hA hc) hi
    have HL : Hid ((gvL zs x).length ≤ 1000) := (by show _ ≤ _; rw [gv_len HG.out]; have := ok_len h1; omega)
    clear g1 g2 h1 h2 h3 hg
    go_enter Try.func13, Try.ntmps13
    go_wp2_with (first
      | (go_at_call 21; refine (bs_any _ zs x _ HR.out).mono ?_; rintro e w1 ⟨i, rfl, hi, hA, hb1⟩; have HB1 : Hid (Below w.heap.size w w1) := hb1; rw [HM.out i hA]; have HE : Hid (ins zs i x = gvL zs x) := HI.out i hA hi; have Hi : Hid (i ≤ zs.length) := hi; clear hi hA hb1)
      | (go_at_call 16; refine (check_any _ zs _ (HR.out.below HB1.out)).mono ?_; rintro e w' ⟨rfl, hw⟩; rw [hw, hc]; clear hw w')
      | (go_at_call 19; refine (isBlock_any x _).mono ?_; rintro e w' ⟨rfl, hw⟩; rw [hw, hb]; clear hw w')
      | (go_at_call 20; refine (k20.out _ HB1.out).mono ?_; rintro e w2 ⟨v2, rfl, o2, hb2⟩; have O2 : Hid (OwnI w2 w1.heap.size v2 zs) := o2; have HB2 : Hid (Below w1.heap.size w1 w2) := hb2; clear o2 hb2)
      | (go_at_call 22; refine (insert_any v2 zs i x w1.heap.size w2.heap.size _ (O2.out.below ((Below.refl _ _).alloc (Nat.le_refl _) _)) Hi.out hz (heap_alloc_new _ _) (fun g hg => by have := (World.ownsRow.lt O2.out g hg).2; omega) (by have := HB2.out.size; simp; omega)).mono ?_; rintro e w3 ⟨v3, rfl, o3, hb3⟩; have HB3 : Hid (Below w1.heap.size w1 w3) := (HB2.out.alloc HB2.out.size _).trans hb3; clear hb3))
    refine bodyPost_ret (results_tmp2 Try.results13 _ _ _) rfl ?_
    rw [HE.out] at o3
    exact ⟨_, by rw [G1.out]; rfl, o3.rd HL.out, bstep HB1.out HB3.out⟩
end Go.Proofs.Ytpfbnfnlbjjjoaa
