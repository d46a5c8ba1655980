/- Walks of layer 9: Next, Turn, the document's own ones, Same. -/
import Derived.Test.YtbnlekheadmecaaNodg
namespace Go.Proofs.Ytbnlekheadmecaa
open Go.RowKit Go.Shelf Classical
set_option linter.unusedVariables false

theorem nil_rdS (w : World) : RdS w (.slice none 0 0) [] := ⟨rfl, by simp, none, 0, rfl, Nat.le_refl _, .inl ⟨rfl, fun _ => rfl⟩⟩
theorem Nb.set1 {W : World} {g : Nat} {lv tu nx lo : Int} {v : Value} (h : Nb W g lv tu nx lo v) (q : Int) : Nb (W.setCell ⟨g, 1, none⟩ (.int .i64 q)) g lv q nx lo v := by
  have h1 := heap_setCell_same W g 1 _ 24 (.int .i64 q) h
  unfold Nb
  rw [h1]
  simp
theorem Nb.set2 {W : World} {g : Nat} {lv tu nx lo : Int} {v : Value} (h : Nb W g lv tu nx lo v) (q : Int) : Nb (W.setCell ⟨g, 2, none⟩ (.int .i64 q)) g lv tu q lo v := by
  have h1 := heap_setCell_same W g 2 _ 24 (.int .i64 q) h
  unfold Nb
  rw [h1]
  simp
theorem sone {W : World} {b : Nat} (p : Mi) (hb : b = W.heap.size) : RdS (W.alloc (.cells #[.int .i64 p.k, .int .i64 p.a, .int .i64 p.v] 51)) (.slice (some ⟨b, 0, none⟩) 1 1) [p] := by
  subst hb
  refine ⟨rfl, by simp, _, _, rfl, Nat.le_refl _, .inr ⟨_, _, rfl, by simp, fun j u hj => ?_⟩⟩
  match j, hj with
  | 0, h => cases h; simp
  | 1, h => cases h; simp
  | 2, h => cases h; simp
  | j + 3, h => simp [mcs, mc1] at h

set_option maxRecDepth 100000 in
set_option maxHeartbeats 1000000 in
theorem next_any (b x : Int) (w : World) : Calls Try.prog 12 #[.int .i64 b, .int .i64 x] w fun e w' => ∃ v, e = .returned (.tuple #[v, .int .i64 (nxE b x)]) ∧ RdS w' v (nxL b x) ∧ Below w.heap.size w w' := by
  cases c1 : lkB b with
  | false =>
    have H := nx_no (b := b) (x := x) (by unfold nxB; rw [c1]; rfl)
    have H1 : Hid (nxE b x = 1) := H.2
    have H2 : Hid (nxL b x = []) := H.1
    have t1 : Hid (0 = 0) := rfl
    have t2 : Hid (0 = 0) := rfl
    clear H
    go_enter Try.func12, Try.ntmps12
    go_wp2_with (first
      | (clear t1; go_at_call 27; refine (mayBe2_any b _).mono ?_; rintro e w' ⟨rfl, hw⟩; rw [hw, c1]; clear hw w'))
    refine bodyPost_ret (results_tmp2 Try.results12 _ _ _) rfl ?_
    exact ⟨_, by rw [H1.out]; rfl, by rw [H2.out]; exact nil_rdS _, Below.refl _ _⟩
  | true =>
    cases c2 : lkB x with
    | false =>
      have H := nx_no (b := b) (x := x) (by unfold nxB; rw [c2, Bool.and_false])
      have H1 : Hid (nxE b x = 1) := H.2
      have H2 : Hid (nxL b x = []) := H.1
      have t1 : Hid (0 = 0) := rfl
      have t2 : Hid (0 = 0) := rfl
      clear H
      go_enter Try.func12, Try.ntmps12
      go_wp2_with (first
        | (clear t1; go_at_call 27; refine (mayBe2_any b _).mono ?_; rintro e w' ⟨rfl, hw⟩; rw [hw, c1]; clear hw w')
        | (clear t2; go_at_call 27; refine (mayBe2_any x _).mono ?_; rintro e w' ⟨rfl, hw⟩; rw [hw, c2]; clear hw w'))
      refine bodyPost_ret (results_tmp2 Try.results12 _ _ _) rfl ?_
      exact ⟨_, by rw [H1.out]; rfl, by rw [H2.out]; exact nil_rdS _, Below.refl _ _⟩
    | true =>
      have H := nx_yes (b := b) (x := x) (by unfold nxB; rw [c1, c2]; rfl)
      have H1 : Hid (nxE b x = 0) := H.2
      obtain ⟨b0, b9⟩ := lkB_iff.1 c1
      obtain ⟨bn, rfl⟩ : ∃ n : Nat, b = (n : Int) := ⟨b.toNat, by omega⟩
      have H2 : Hid (nxL (bn : Int) x = [⟨1, (bn : Int) * 16 + 1, x⟩, ⟨2, 2 * (bn : Int), 0⟩]) := (by show _ = _; rw [H.1, Int.mul_comm 16 (bn : Int)])
      have hd1 : ((bn : Int) * 16 + 1).tdiv 8 = 2 * (bn : Int) := (by rw [Int.tdiv_eq_ediv_of_nonneg (by omega)]; omega)
      have hd2 : ((bn : Int) * 16 + 1) / 8 = 2 * (bn : Int) := (by omega)
      have t1 : Hid (0 = 0) := rfl
      have t2 : Hid (0 = 0) := rfl
      clear H
      go_enter Try.func12, Try.ntmps12
      go_wp2_with (first
        | (clear t1; go_at_call 27; refine (mayBe2_any (bn : Int) _).mono ?_; rintro e w' ⟨rfl, hw⟩; rw [hw, c1]; clear hw w')
        | (clear t2; go_at_call 27; refine (mayBe2_any x _).mono ?_; rintro e w' ⟨rfl, hw⟩; rw [hw, c2]; clear hw w'))
      refine bodyPost_ret (results_tmp2 Try.results12 _ _ _) rfl ?_
      exact ⟨_, by rw [H1.out]; rfl, by rw [H2.out]; exact stwo ⟨1, (bn : Int) * 16 + 1, x⟩ ⟨2, 2 * (bn : Int), 0⟩ rfl, (Below.refl _ _).alloc (Nat.le_refl _) _⟩
set_option maxRecDepth 100000 in
set_option maxHeartbeats 1000000 in
theorem nextR_any (b x : Int) (w : World) : Calls Try.prog 13 #[.int .i64 b, .int .i64 x] w fun e w' => ∃ v, e = .returned (.tuple #[v, .int .i64 (nxE b x)]) ∧ RdS w' v (nxL b x) ∧ Below w.heap.size w w' := by
  cases c1 : lkB b with
  | false =>
    have H := nx_no (b := b) (x := x) (by unfold nxB; rw [c1]; rfl)
    have H1 : Hid (nxE b x = 1) := H.2
    have H2 : Hid (nxL b x = []) := H.1
    have t1 : Hid (0 = 0) := rfl
    have t2 : Hid (0 = 0) := rfl
    clear H
    go_enter Try.func13, Try.ntmps13
    go_wp2_with (first
      | (clear t1; go_at_call 28; refine (block_any b _).mono ?_; rintro e w' ⟨rfl, hw⟩; rw [hw, c1]; clear hw w'))
    refine bodyPost_ret (results_tmp2 Try.results13 _ _ _) rfl ?_
    exact ⟨_, by rw [H1.out]; rfl, by rw [H2.out]; exact nil_rdS _, Below.refl _ _⟩
  | true =>
    cases c2 : lkB x with
    | false =>
      have H := nx_no (b := b) (x := x) (by unfold nxB; rw [c2, Bool.and_false])
      have H1 : Hid (nxE b x = 1) := H.2
      have H2 : Hid (nxL b x = []) := H.1
      have t1 : Hid (0 = 0) := rfl
      have t2 : Hid (0 = 0) := rfl
      clear H
      go_enter Try.func13, Try.ntmps13
      go_wp2_with (first
        | (clear t1; go_at_call 28; refine (block_any b _).mono ?_; rintro e w' ⟨rfl, hw⟩; rw [hw, c1]; clear hw w')
        | (clear t2; go_at_call 28; refine (block_any x _).mono ?_; rintro e w' ⟨rfl, hw⟩; rw [hw, c2]; clear hw w'))
      refine bodyPost_ret (results_tmp2 Try.results13 _ _ _) rfl ?_
      exact ⟨_, by rw [H1.out]; rfl, by rw [H2.out]; exact nil_rdS _, Below.refl _ _⟩
    | true =>
      have H := nx_yes (b := b) (x := x) (by unfold nxB; rw [c1, c2]; rfl)
      have H1 : Hid (nxE b x = 0) := H.2
      obtain ⟨b0, b9⟩ := lkB_iff.1 c1
      obtain ⟨bn, rfl⟩ : ∃ n : Nat, b = (n : Int) := ⟨b.toNat, by omega⟩
      have H2 : Hid (nxL (bn : Int) x = [⟨1, 16 * (bn : Int) + 1, x⟩, ⟨2, 2 * (bn : Int), 0⟩]) := (by show _ = _; rw [H.1])
      have hd1 : ((bn : Int) * 16 + 1).tdiv 8 = 2 * (bn : Int) := (by rw [Int.tdiv_eq_ediv_of_nonneg (by omega)]; omega)
      have hd2 : ((bn : Int) * 16 + 1) / 8 = 2 * (bn : Int) := (by omega)
      have t1 : Hid (0 = 0) := rfl
      have t2 : Hid (0 = 0) := rfl
      clear H
      go_enter Try.func13, Try.ntmps13
      go_wp2_with (first
        | (clear t1; go_at_call 28; refine (block_any (bn : Int) _).mono ?_; rintro e w' ⟨rfl, hw⟩; rw [hw, c1]; clear hw w')
        | (clear t2; go_at_call 28; refine (block_any x _).mono ?_; rintro e w' ⟨rfl, hw⟩; rw [hw, c2]; clear hw w'))
      refine bodyPost_ret (results_tmp2 Try.results13 _ _ _) rfl ?_
      exact ⟨_, by rw [H1.out]; rfl, by rw [H2.out]; exact stwo ⟨1, 16 * (bn : Int) + 1, x⟩ ⟨2, 2 * (bn : Int), 0⟩ rfl, (Below.refl _ _).alloc (Nat.le_refl _) _⟩
set_option maxRecDepth 100000 in
set_option maxHeartbeats 1000000 in
theorem turn_any (b : Int) (n : Nd) (d : Bool) (v : Value) (w : World) (hR : Rd w v n.sl) : Calls Try.prog 19 #[.int .i64 b, .agg #[.int .i64 n.lv, .int .i64 n.tu, .int .i64 n.nx, .int .i64 n.lo, v], .bool d] w fun e w' => ∃ v', e = .returned v' ∧ RdS w' v' (tnL b n d) ∧ Below w.heap.size w w' := by
  obtain ⟨lv, tu, nx, lo, sl⟩ := n
  dsimp only at hR ⊢
  obtain ⟨hl, a, cap, rfl⟩ := hR.form
  have HR : Hid (Rd w (.slice a sl.length cap) sl) := hR
  have HB : Hid (Below w.heap.size w (w.alloc (.cells #[.int .i64 lv, .int .i64 tu, .int .i64 nx, .int .i64 lo, .slice a sl.length cap] 24))) := (Below.refl _ _).alloc (Nat.le_refl _) _
  have HN : Hid (Nb (w.alloc (.cells #[.int .i64 lv, .int .i64 tu, .int .i64 nx, .int .i64 lo, .slice a sl.length cap] 24)) w.heap.size lv tu nx lo (.slice a sl.length cap)) := nb_new w lv tu nx lo _
  clear hR
  have k17 : Hid (∀ W, Below w.heap.size w W → Calls Try.prog 17 #[.agg #[.int .i64 lv, .int .i64 tu, .int .i64 nx, .int .i64 lo, .slice a sl.length cap]] W fun e w' => e = .returned (.bool (nnB ⟨lv, tu, nx, lo, sl⟩)) ∧ Below W.heap.size W w') := fun W hb => check_node ⟨lv, tu, nx, lo, sl⟩ _ W (HR.out.below hb)
  cases c1 : lkB b with
  | false =>
    have H2 : Hid (tnL b ⟨lv, tu, nx, lo, sl⟩ d = []) := tn_no (by unfold tnB; rw [c1]; rfl)
    go_enter Try.func19, Try.ntmps19
    go_wp2_with (first
      | (go_at_call 27; refine (mayBe2_any b _).mono ?_; rintro e w' ⟨rfl, hw⟩; rw [hw, c1]; clear hw w'))
    go_ret
    exact ⟨_, rfl, by rw [H2.out]; exact nil_rdS _, HB.out⟩
  | true =>
    cases c2 : nnB ⟨lv, tu, nx, lo, sl⟩ with
    | false =>
      have H2 : Hid (tnL b ⟨lv, tu, nx, lo, sl⟩ d = []) := tn_no (by unfold tnB; rw [c2, Bool.false_and, Bool.and_false])
      rw [c2] at k17
      go_enter Try.func19, Try.ntmps19
      go_wp2_with (first
        | (go_at_call 27; refine (mayBe2_any b _).mono ?_; rintro e w' ⟨rfl, hw⟩; rw [hw, c1]; clear hw w')
        | (go_at_call 17; refine (k17.out _ HB.out).mono ?_; rintro e w1 ⟨rfl, hb1⟩))
      go_ret
      exact ⟨_, rfl, by rw [H2.out]; exact nil_rdS _, bstep HB.out hb1⟩
    | true =>
      have hM := nnB_iff.1 c2
      have m0 := hM.l0
      have m1 := hM.l9
      have m2 := hM.t0
      have m3 := hM.t9
      dsimp only at m0 m1 m2 m3
      rw [c2] at k17
      have k30 : Hid (∀ W, Calls Try.prog 30 #[.agg #[.int .i64 lv, .int .i64 tu, .int .i64 nx, .int .i64 lo, .slice a sl.length cap]] W fun e w' => e = .returned (.bool (decide (tu % 2 = 1))) ∧ Below W.heap.size W w') := fun W => isDown_any lv tu nx lo _ W m2 m3
      by_cases c3 : decide (tu % 2 = 1) = d
      · have H2 : Hid (tnL b ⟨lv, tu, nx, lo, sl⟩ d = []) := tn_no (by unfold tnB; dsimp only; rw [c3]; simp)
        have hbe : (d == d) = true := by simp
        rw [c3] at k30
        clear c3 m0 m1 m2 m3 hM
        go_enter Try.func19, Try.ntmps19
        go_wp2_with (first
          | (go_at_call 27; refine (mayBe2_any b _).mono ?_; rintro e w' ⟨rfl, hw⟩; rw [hw, c1]; clear hw w')
          | (go_at_call 17; refine (k17.out _ HB.out).mono ?_; rintro e w1 ⟨rfl, hb1⟩; obtain ⟨x0, x1, x2, x3, x4⟩ := (HN.out.below hb1).c)
          | (go_at_call 30; refine (k30.out _).mono ?_; rintro e w2 ⟨rfl, hb2⟩))
        go_ret
        exact ⟨_, rfl, by rw [H2.out]; exact nil_rdS _, bstep (bstep HB.out hb1) hb2⟩
      · have H2 : Hid (tnL b ⟨lv, tu, nx, lo, sl⟩ d = [⟨1, 16 * b, hdI (tnI tu) lv⟩]) := tn_yes (by unfold tnB; dsimp only; rw [c1, c2]; simpa using c3)
        obtain ⟨e, he⟩ : ∃ e, decide (tu % 2 = 1) = e := ⟨_, rfl⟩
        rw [he] at k30 c3
        have hbe : (e == d) = false := by simpa using c3
        obtain ⟨b0, b9⟩ := lkB_iff.1 c1
        have HE : Hid (b * 16 = 16 * b) := Int.mul_comm _ _
        obtain ⟨q, hq⟩ : ∃ q, tu.tmod 1099511627776 = q := ⟨_, rfl⟩
        have hqt : q + 1 = tnI tu := (by unfold tnI; rw [← hq, Int.tmod_eq_emod_of_nonneg m2])
        have q0 : 0 ≤ q + 1 := (by rw [← hq, Int.tmod_eq_emod_of_nonneg m2]; omega)
        have q9 : q + 1 ≤ 1099511627776 := (by rw [← hq, Int.tmod_eq_emod_of_nonneg m2]; omega)
        have HQ : Hid (q + 1 = tnI tu) := hqt
        clear c3 m2 m3 hM he hqt
        have k31 : Hid (∀ W, Calls Try.prog 31 #[.agg #[.int .i64 lv, .int .i64 (q + 1), .int .i64 nx, .int .i64 lo, .slice a sl.length cap]] W fun e w' => e = .returned (.int .i64 (hdI (q + 1) lv)) ∧ Below W.heap.size W w') := fun W => headOf_any lv (q + 1) nx lo _ W m0 m1 q0 q9
        have HF : Hid (tnL b ⟨lv, tu, nx, lo, sl⟩ d = [⟨1, b * 16, hdI (q + 1) lv⟩]) := (by show _ = _; rw [H2.out, HQ.out, HE.out])
        generalize hdI (q + 1) lv = hd at k31 HF
        clear H2 HQ HE
        go_enter Try.func19, Try.ntmps19
        go_wp2_with (first
          | (go_at_call 27; refine (mayBe2_any b _).mono ?_; rintro e w' ⟨rfl, hw⟩; rw [hw, c1]; clear hw w')
          | (go_at_call 17; refine (k17.out _ HB.out).mono ?_; rintro e w1 ⟨rfl, hb1⟩; obtain ⟨x0, x1, x2, x3, x4⟩ := (HN.out.below hb1).c)
          | (go_at_call 30; refine (k30.out _).mono ?_; rintro e w2 ⟨rfl, hb2⟩; have N2 := (HN.out.below hb1).below hb2; obtain ⟨y0, y1, y2, y3, y4⟩ := N2.c; have f1 := N2.free 1; have N3 := N2.set1 (q + 1); obtain ⟨z0, z1, z2, z3, z4⟩ := N3.c; have H3 : Hid (Below w.heap.size w (w2.setCell ⟨w.heap.size, 1, none⟩ (.int .i64 (q + 1)))) := (bstep (bstep HB.out hb1) hb2).setCell (p := ⟨w.heap.size, 1, none⟩) (Nat.le_refl _) _; clear N2 N3)
          | (go_at_call 31; refine (k31.out _).mono ?_; rintro e w4 ⟨rfl, hb4⟩; have H4 := bstep H3.out hb4))
        go_ret
        exact ⟨_, rfl, by rw [HF.out]; exact sone ⟨1, b * 16, hd⟩ rfl, H4.alloc H4.size _⟩
set_option maxRecDepth 100000 in
set_option maxHeartbeats 1000000 in
theorem turnR_any (b : Int) (n : Nd) (d : Bool) (v : Value) (w : World) (hR : Rd w v n.sl) : Calls Try.prog 20 #[.int .i64 b, .agg #[.int .i64 n.lv, .int .i64 n.tu, .int .i64 n.nx, .int .i64 n.lo, v], .bool d] w fun e w' => ∃ v', e = .returned v' ∧ RdS w' v' (tnL b n d) ∧ Below w.heap.size w w' := by
  obtain ⟨lv, tu, nx, lo, sl⟩ := n
  dsimp only at hR ⊢
  obtain ⟨hl, a, cap, rfl⟩ := hR.form
  have HR : Hid (Rd w (.slice a sl.length cap) sl) := hR
  have HB : Hid (Below w.heap.size w (w.alloc (.cells #[.int .i64 lv, .int .i64 tu, .int .i64 nx, .int .i64 lo, .slice a sl.length cap] 24))) := (Below.refl _ _).alloc (Nat.le_refl _) _
  have HN : Hid (Nb (w.alloc (.cells #[.int .i64 lv, .int .i64 tu, .int .i64 nx, .int .i64 lo, .slice a sl.length cap] 24)) w.heap.size lv tu nx lo (.slice a sl.length cap)) := nb_new w lv tu nx lo _
  clear hR
  have k18 : Hid (∀ W, Below w.heap.size w W → Calls Try.prog 18 #[.agg #[.int .i64 lv, .int .i64 tu, .int .i64 nx, .int .i64 lo, .slice a sl.length cap]] W fun e w' => e = .returned (.bool (nnB ⟨lv, tu, nx, lo, sl⟩)) ∧ Below W.heap.size W w') := fun W hb => checkR_node ⟨lv, tu, nx, lo, sl⟩ _ W (HR.out.below hb)
  cases c1 : lkB b with
  | false =>
    have H2 : Hid (tnL b ⟨lv, tu, nx, lo, sl⟩ d = []) := tn_no (by unfold tnB; rw [c1]; rfl)
    go_enter Try.func20, Try.ntmps20
    go_wp2_with (first
      | (go_at_call 18; refine (k18.out _ HB.out).mono ?_; rintro e w1 ⟨rfl, hb1⟩; have N1 := HN.out.below hb1; obtain ⟨x0, x1, x2, x3, x4⟩ := N1.c; have f1 := N1.free 1; have B1 := bstep HB.out hb1; clear hb1)
      | (go_at_call 28; refine (block_any b _).mono ?_; rintro e w' ⟨rfl, hw⟩; rw [hw, c1]; clear hw w'))
    go_ret
    exact ⟨_, rfl, by rw [H2.out]; exact nil_rdS _, B1⟩
  | true =>
    cases c2 : nnB ⟨lv, tu, nx, lo, sl⟩ with
    | false =>
      have H2 : Hid (tnL b ⟨lv, tu, nx, lo, sl⟩ d = []) := tn_no (by unfold tnB; rw [c2, Bool.false_and, Bool.and_false])
      rw [c2] at k18
      go_enter Try.func20, Try.ntmps20
      go_wp2_with (first
        | (go_at_call 18; refine (k18.out _ HB.out).mono ?_; rintro e w1 ⟨rfl, hb1⟩; have N1 := HN.out.below hb1; obtain ⟨x0, x1, x2, x3, x4⟩ := N1.c; have f1 := N1.free 1; have B1 := bstep HB.out hb1; clear hb1)
        | (go_at_call 28; refine (block_any b _).mono ?_; rintro e w' ⟨rfl, hw⟩; rw [hw, c1]; clear hw w'))
      go_ret
      exact ⟨_, rfl, by rw [H2.out]; exact nil_rdS _, B1⟩
    | true =>
      have hM := nnB_iff.1 c2
      have m0 := hM.l0
      have m1 := hM.l9
      have m2 := hM.t0
      have m3 := hM.t9
      dsimp only at m0 m1 m2 m3
      rw [c2] at k18
      obtain ⟨r, hr⟩ : ∃ r, tu.tmod 2 = r := ⟨_, rfl⟩
      have hrm : r = tu % 2 := (by rw [← hr, Int.tmod_eq_emod_of_nonneg m2])
      have r0 : 0 ≤ r ∧ r ≤ 1 := by omega
      obtain ⟨r0, r9⟩ := r0
      obtain ⟨e, he⟩ : ∃ e, (r == 1) = e := ⟨_, rfl⟩
      have hE : decide (tu % 2 = 1) = e := by
        rw [← he, hrm]
        by_cases h : tu % 2 = 1 <;> simp [h]
      by_cases c3 : e = d
      · have H2 : Hid (tnL b ⟨lv, tu, nx, lo, sl⟩ d = []) := tn_no (by unfold tnB; dsimp only; rw [hE, c3]; simp)
        have hbe : (e == d) = true := by simpa using c3
        clear c3 m0 m1 m2 m3 hM hrm hE
        go_enter Try.func20, Try.ntmps20
        go_wp2_with (first
          | (go_at_call 18; refine (k18.out _ HB.out).mono ?_; rintro e w1 ⟨rfl, hb1⟩; have N1 := HN.out.below hb1; obtain ⟨x0, x1, x2, x3, x4⟩ := N1.c; have f1 := N1.free 1; have B1 := bstep HB.out hb1; clear hb1)
          | (go_at_call 28; refine (block_any b _).mono ?_; rintro e w' ⟨rfl, hw⟩; rw [hw, c1]; clear hw w'))
        go_ret
        exact ⟨_, rfl, by rw [H2.out]; exact nil_rdS _, B1⟩
      · have H2 : Hid (tnL b ⟨lv, tu, nx, lo, sl⟩ d = [⟨1, 16 * b, hdI (tnI tu) lv⟩]) := tn_yes (by unfold tnB; dsimp only; rw [c1, c2, hE]; simpa using c3)
        have hbe : (e == d) = false := by simpa using c3
        obtain ⟨b0, b9⟩ := lkB_iff.1 c1
        by_cases c4 : tu = 1099511627776
        · subst c4
          have HF : Hid (tnL b ⟨lv, 1099511627776, nx, lo, sl⟩ d = [⟨1, 16 * b, hdI 1 lv⟩]) := H2
          have k25 : Hid (∀ W, Calls Try.prog 25 #[.agg #[.int .i64 lv, .int .i64 1, .int .i64 nx, .int .i64 lo, .slice a sl.length cap]] W fun e w' => e = .returned (.int .i64 (hdI 1 lv)) ∧ Below W.heap.size W w') := fun W => first_any lv 1 nx lo _ W m0 m1 (by omega) (by omega)
          generalize hdI 1 lv = hd at k25 HF
          have he0 : e = false := by rw [← hE]; rfl
          have hd1 : d = true := by
            cases d
            · exact absurd he0 c3
            · rfl
          subst he0
          subst hd1
          clear c3 m2 m3 hM hrm hE H2 hr he r0 r9 r hbe
          go_enter Try.func20, Try.ntmps20
          go_wp2_with (first
            | (go_at_call 18; refine (k18.out _ HB.out).mono ?_; rintro e w1 ⟨rfl, hb1⟩; have N1 := HN.out.below hb1; obtain ⟨x0, x1, x2, x3, x4⟩ := N1.c; have f1 := N1.free 1; have B1 := bstep HB.out hb1; have N2 := N1.set1 1099511627777; obtain ⟨y0, y1, y2, y3, y4⟩ := N2.c; have g1 := N2.free 1; have N3 := N2.set1 1; obtain ⟨z0, z1, z2, z3, z4⟩ := N3.c; have B2 : Hid (Below w.heap.size w ((w1.setCell ⟨w.heap.size, 1, none⟩ (.int .i64 1099511627777)).setCell ⟨w.heap.size, 1, none⟩ (.int .i64 1))) := (B1.setCell (p := ⟨w.heap.size, 1, none⟩) (Nat.le_refl _) _).setCell (p := ⟨w.heap.size, 1, none⟩) (Nat.le_refl _) _; clear hb1 N1 N2 N3)
            | (go_at_call 28; refine (block_any b _).mono ?_; rintro e w' ⟨rfl, hw⟩; rw [hw, c1]; clear hw w')
            | (go_at_call 25; refine (k25.out _).mono ?_; rintro e w4 ⟨rfl, hb4⟩; have H4 := bstep B2.out hb4))
          go_ret
          exact ⟨_, rfl, by rw [HF.out]; exact sone ⟨1, 16 * b, hd⟩ rfl, H4.alloc H4.size _⟩
        · have HQ : tnI tu = tu + 1 := (by unfold tnI; omega)
          have HF : Hid (tnL b ⟨lv, tu, nx, lo, sl⟩ d = [⟨1, 16 * b, hdI (tu + 1) lv⟩]) := (by show _ = _; rw [H2.out, HQ])
          have k25 : Hid (∀ W, Calls Try.prog 25 #[.agg #[.int .i64 lv, .int .i64 (tu + 1), .int .i64 nx, .int .i64 lo, .slice a sl.length cap]] W fun e w' => e = .returned (.int .i64 (hdI (tu + 1) lv)) ∧ Below W.heap.size W w') := fun W => first_any lv (tu + 1) nx lo _ W m0 m1 (by omega) (by omega)
          generalize hdI (tu + 1) lv = hd at k25 HF
          have hbq : (tu + 1 == 1099511627777) = false := by simp; omega
          clear c3 hM hrm hE H2 HQ
          go_enter Try.func20, Try.ntmps20
          go_wp2_with (first
            | (go_at_call 18; refine (k18.out _ HB.out).mono ?_; rintro e w1 ⟨rfl, hb1⟩; have N1 := HN.out.below hb1; obtain ⟨x0, x1, x2, x3, x4⟩ := N1.c; have f1 := N1.free 1; have B1 := bstep HB.out hb1; have N2 := N1.set1 (tu + 1); obtain ⟨y0, y1, y2, y3, y4⟩ := N2.c; have g1 := N2.free 1; have B2 : Hid (Below w.heap.size w (w1.setCell ⟨w.heap.size, 1, none⟩ (.int .i64 (tu + 1)))) := B1.setCell (p := ⟨w.heap.size, 1, none⟩) (Nat.le_refl _) _; clear hb1 N1 N2)
            | (go_at_call 28; refine (block_any b _).mono ?_; rintro e w' ⟨rfl, hw⟩; rw [hw, c1]; clear hw w')
            | (go_at_call 25; refine (k25.out _).mono ?_; rintro e w4 ⟨rfl, hb4⟩; have H4 := bstep B2.out hb4))
          go_ret
          exact ⟨_, rfl, by rw [HF.out]; exact sone ⟨1, 16 * b, hd⟩ rfl, H4.alloc H4.size _⟩
set_option maxRecDepth 100000 in
set_option maxHeartbeats 1000000 in
/-- Two nodes are the same. -/
theorem same_any (n n' : Nd) (v v' : Value) (w : World) (hR : Rd w v n.sl) (hR' : Rd w v' n'.sl) : Calls Try.prog 15 #[.agg #[.int .i64 n.lv, .int .i64 n.tu, .int .i64 n.nx, .int .i64 n.lo, v], .agg #[.int .i64 n'.lv, .int .i64 n'.tu, .int .i64 n'.nx, .int .i64 n'.lo, v']] w fun e w' => e = .returned (.bool (decide (n = n'))) ∧ Below w.heap.size w w' := by
  obtain ⟨lv, tu, nx, lo, sl⟩ := n
  obtain ⟨lv', tu', nx', lo', sl'⟩ := n'
  dsimp only at hR hR' ⊢
  obtain ⟨hl, a, cap, rfl⟩ := hR.form
  obtain ⟨hl', a', cap', rfl⟩ := hR'.form
  have HB : Hid (Below w.heap.size w ((w.alloc (.cells #[.int .i64 lv, .int .i64 tu, .int .i64 nx, .int .i64 lo, .slice a sl.length cap] 24)).alloc (.cells #[.int .i64 lv', .int .i64 tu', .int .i64 nx', .int .i64 lo', .slice a' sl'.length cap'] 24))) := ((Below.refl _ _).alloc (Nat.le_refl _) _).alloc (by simp) _
  have k14 : Hid (Calls Try.prog 14 #[.slice a sl.length cap, .slice a' sl'.length cap'] ((w.alloc (.cells #[.int .i64 lv, .int .i64 tu, .int .i64 nx, .int .i64 lo, .slice a sl.length cap] 24)).alloc (.cells #[.int .i64 lv', .int .i64 tu', .int .i64 nx', .int .i64 lo', .slice a' sl'.length cap'] 24)) fun e w' => e = .returned (.bool (decide (sl = sl'))) ∧ Below (((w.alloc (.cells #[.int .i64 lv, .int .i64 tu, .int .i64 nx, .int .i64 lo, .slice a sl.length cap] 24)).alloc (.cells #[.int .i64 lv', .int .i64 tu', .int .i64 nx', .int .i64 lo', .slice a' sl'.length cap'] 24))).heap.size ((w.alloc (.cells #[.int .i64 lv, .int .i64 tu, .int .i64 nx, .int .i64 lo, .slice a sl.length cap] 24)).alloc (.cells #[.int .i64 lv', .int .i64 tu', .int .i64 nx', .int .i64 lo', .slice a' sl'.length cap'] 24)) w') := numbers_any _ _ sl sl' _ (hR.below HB.out) (hR'.below HB.out)
  clear hR hR'
  by_cases c0 : lv = lv'
  case neg =>
    have H : Hid (decide ((⟨lv, tu, nx, lo, sl⟩ : Nd) = ⟨lv', tu', nx', lo', sl'⟩) = false) := decide_eq_false (fun e => c0 (congrArg Nd.lv e))
    have d0 : (lv == lv') = false := by simpa using c0
    clear k14 c0
    go_enter Try.func15, Try.ntmps15
    go_wp2
    go_ret
    exact ⟨ret_bool H.out.symm, HB.out⟩
  have d0 : (lv == lv') = true := by simpa using c0
  have C0 : Hid (lv = lv') := c0
  clear c0
  by_cases c1 : tu = tu'
  case neg =>
    have H : Hid (decide ((⟨lv, tu, nx, lo, sl⟩ : Nd) = ⟨lv', tu', nx', lo', sl'⟩) = false) := decide_eq_false (fun e => c1 (congrArg Nd.tu e))
    have d1 : (tu == tu') = false := by simpa using c1
    clear k14 c1
    go_enter Try.func15, Try.ntmps15
    go_wp2
    go_ret
    exact ⟨ret_bool H.out.symm, HB.out⟩
  have d1 : (tu == tu') = true := by simpa using c1
  have C1 : Hid (tu = tu') := c1
  clear c1
  by_cases c2 : nx = nx'
  case neg =>
    have H : Hid (decide ((⟨lv, tu, nx, lo, sl⟩ : Nd) = ⟨lv', tu', nx', lo', sl'⟩) = false) := decide_eq_false (fun e => c2 (congrArg Nd.nx e))
    have d2 : (nx == nx') = false := by simpa using c2
    clear k14 c2
    go_enter Try.func15, Try.ntmps15
    go_wp2
    go_ret
    exact ⟨ret_bool H.out.symm, HB.out⟩
  have d2 : (nx == nx') = true := by simpa using c2
  have C2 : Hid (nx = nx') := c2
  clear c2
  by_cases c3 : lo = lo'
  case neg =>
    have H : Hid (decide ((⟨lv, tu, nx, lo, sl⟩ : Nd) = ⟨lv', tu', nx', lo', sl'⟩) = false) := decide_eq_false (fun e => c3 (congrArg Nd.lo e))
    have d3 : (lo == lo') = false := by simpa using c3
    clear k14 c3
    go_enter Try.func15, Try.ntmps15
    go_wp2
    go_ret
    exact ⟨ret_bool H.out.symm, HB.out⟩
  have d3 : (lo == lo') = true := by simpa using c3
  have C3 : Hid (lo = lo') := c3
  clear c3
  have H : Hid (decide ((⟨lv, tu, nx, lo, sl⟩ : Nd) = ⟨lv', tu', nx', lo', sl'⟩) = decide (sl = sl')) := (by show _ = _; rw [C0.out, C1.out, C2.out, C3.out]; by_cases h : sl = sl' <;> simp [h])
  go_enter Try.func15, Try.ntmps15
  go_wp2_with (first
    | (go_at_call 14; refine k14.out.mono ?_; rintro e w1 ⟨rfl, hb1⟩))
  go_ret
  exact ⟨ret_bool H.out.symm, bstep HB.out hb1⟩
end Go.Proofs.Ytbnlekheadmecaa
