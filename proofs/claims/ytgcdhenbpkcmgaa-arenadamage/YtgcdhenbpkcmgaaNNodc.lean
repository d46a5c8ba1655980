/- Set over from a lower layer: Nodc. -/
import Derived.Test.YtgcdhenbpkcmgaaBase
import Derived.Test.YtgcdhenbpkcmgaaNNodz
namespace Go.Proofs.Ytgcdhenbpkcmgaa
open Go.RowKit Go.Shelf
set_option linter.unusedVariables false
/-- A node in a block of its own. -/
def Nb (W : World) (g : Nat) (lv tu nx lo : Int) (v : Value) : Prop := W.heap[g]? = some (.cells #[.int .i64 lv, .int .i64 tu, .int .i64 nx, .int .i64 lo, v] 37 (0, 0))
section
variable {W : World} {g : Nat} {lv tu nx lo : Int} {v : Value}
theorem Nb.lt (h : Nb W g lv tu nx lo v) : g < W.heap.size := (Array.getElem?_eq_some_iff.1 h).1
theorem Nb.belowN {W' : World} {n : Nat} (h : Nb W g lv tu nx lo v) (hb : Below n W W') (hg : g < n) : Nb W' g lv tu nx lo v := (hb.block g hg).trans h
theorem Nb.below {W' : World} (h : Nb W g lv tu nx lo v) (hb : Below W.heap.size W W') : Nb W' g lv tu nx lo v := h.belowN hb h.lt
theorem Nb.c (h : Nb W g lv tu nx lo v) : W.cell? ⟨g, 0, none⟩ = some (.int .i64 lv) ∧ W.cell? ⟨g, 1, none⟩ = some (.int .i64 tu) ∧ W.cell? ⟨g, 2, none⟩ = some (.int .i64 nx) ∧ W.cell? ⟨g, 3, none⟩ = some (.int .i64 lo) ∧ W.cell? ⟨g, 4, none⟩ = some v := by
  simp [World.cell?, show W.heap[g]? = _ from h]
theorem Nb.free (h : Nb W g lv tu nx lo v) (k : Nat) : W.frozen? ⟨g, k, none⟩ = false := by
  simp [World.frozen?, show W.heap[g]? = _ from h]
end
theorem nb_new (W : World) (lv tu nx lo : Int) (v : Value) : Nb (W.alloc (.cells #[.int .i64 lv, .int .i64 tu, .int .i64 nx, .int .i64 lo, v] 37)) W.heap.size lv tu nx lo v := Go.heap_alloc_new _ _
theorem bb_new (W : World) (s : Bool) : Bb (W.alloc (.cells #[.bool s] 4)) W.heap.size s := Go.heap_alloc_new _ _
theorem Bb.more {W : World} {g : Nat} {s : Bool} (h : Bb W g s) (b : Obj) : Bb (W.alloc b) g s := h.belowN ((Below.refl W.heap.size W).alloc (Nat.le_refl _) _) h.lt
set_option maxRecDepth 100000 in
set_option maxHeartbeats 1000000 in
theorem check_node (n : Nd) (v : Value) (w : World) (hR : Rd w v n.sl) : Calls Try.prog 33 #[.agg #[.int .i64 n.lv, .int .i64 n.tu, .int .i64 n.nx, .int .i64 n.lo, v]] w fun e w' => e = .returned (.bool (nnB n)) ∧ Below w.heap.size w w' := by
  obtain ⟨lv, tu, nx, lo, sl⟩ := n
  dsimp only at hR ⊢
  obtain ⟨hl, a, cap, rfl⟩ := hR.form
  have HR : Hid (Rd w (.slice a sl.length cap) sl) := hR
  have e29 := enter53
  clear hR
  by_cases h13 : (sl.length : Int) > 13
  · have H : Hid (nnB ⟨lv, tu, nx, lo, sl⟩ = false) := by (show _ = _; exact nnB_no fun h => by have := h.len; dsimp only at this; omega)
    go_enter Try.func33, Try.ntmps33
    go_wp2
    go_ret
    exact ⟨ret_bool H.out.symm, (Below.refl _ _).alloc (Nat.le_refl _) _⟩
  · have N0 : Hid (Nb ((w.alloc (.cells #[.int .i64 lv, .int .i64 tu, .int .i64 nx, .int .i64 lo, .slice a sl.length cap] 37)).alloc (.cells #[.bool true] 4)) w.heap.size lv tu nx lo (.slice a sl.length cap)) := (nb_new w lv tu nx lo _).below ((Below.refl _ _).alloc (Nat.le_refl _) _)
    have HB0 : Hid (Bb ((w.alloc (.cells #[.int .i64 lv, .int .i64 tu, .int .i64 nx, .int .i64 lo, .slice a sl.length cap] 37)).alloc (.cells #[.bool true] 4)) (w.heap.size + 1) true) := (by have := bb_new (w.alloc (.cells #[.int .i64 lv, .int .i64 tu, .int .i64 nx, .int .i64 lo, .slice a sl.length cap] 37)) true; rw [show (w.alloc (.cells #[.int .i64 lv, .int .i64 tu, .int .i64 nx, .int .i64 lo, .slice a sl.length cap] 37)).heap.size = w.heap.size + 1 by simp] at this; exact this)
    have H0 : Hid (Below w.heap.size w ((w.alloc (.cells #[.int .i64 lv, .int .i64 tu, .int .i64 nx, .int .i64 lo, .slice a sl.length cap] 37)).alloc (.cells #[.bool true] 4))) := ((Below.refl _ _).alloc (Nat.le_refl _) _).alloc (by simp) _
    have HE : Hid (((lvB lv && tuB tu) && (lkB nx && lkB lo) && sl.all slB) = nnB ⟨lv, tu, nx, lo, sl⟩) := by
      show _ = _
      unfold nnB
      dsimp only
      rw [decide_eq_true (show sl.length ≤ 13 by omega)]
      simp [Bool.and_assoc]
    have t1 : Hid (0 = 0) := rfl
    have t2 : Hid (0 = 0) := rfl
    have t3 : Hid (0 = 0) := rfl
    have t4 : Hid (0 = 0) := rfl
    go_enter Try.func33, Try.ntmps33
    go_wp2_with (first
      | (clear t1; go_at_fn 53; go_loud (refine (ask_any 0 lvB _ [lv] (w.heap.size + 1) (true) _ mayBe0_any (rd_lit [lv] (by simp) (by simp)) (Bb.more HB0.out _)).mono ?_; rintro e w1 ⟨rfl, hB1, hb1, -⟩; have HB1 : Hid (Bb w1 (w.heap.size + 1) (true && [lv].all lvB)) := hB1; have N1 : Hid (Nb w1 w.heap.size lv tu nx lo (.slice a sl.length cap)) := (N0.out.below ((Below.refl _ _).alloc (Nat.le_refl _) _)).belowN hb1 (Nat.lt_succ_self _); have H1 : Hid (Below w.heap.size w w1) := (H0.out.alloc (H0.out.size) _).trans (hb1.mono (Nat.le_succ _)); obtain ⟨x0, x1, x2, x3, x4⟩ := N1.out.c; have y := HB1.out.cell.1; clear hB1 hb1))
      | (clear t2; go_at_fn 53; go_loud (refine (ask_any 1 tuB _ [tu] (w.heap.size + 1) (true && [lv].all lvB) _ mayBe1_any (rd_lit [tu] (by simp) (by simp)) (Bb.more HB1.out _)).mono ?_; rintro e w2 ⟨rfl, hB2, hb2, -⟩; have HB2 : Hid (Bb w2 (w.heap.size + 1) (true && [lv].all lvB && [tu].all tuB)) := hB2; have N2 : Hid (Nb w2 w.heap.size lv tu nx lo (.slice a sl.length cap)) := (N1.out.below ((Below.refl _ _).alloc (Nat.le_refl _) _)).belowN hb2 (Nat.lt_succ_self _); have H2 : Hid (Below w.heap.size w w2) := (H1.out.alloc (H1.out.size) _).trans (hb2.mono (Nat.le_succ _)); obtain ⟨x0, x1, x2, x3, x4⟩ := N2.out.c; have y := HB2.out.cell.1; clear hB2 hb2))
      | (clear t3; go_at_fn 53; go_loud (refine (ask_any 2 lkB _ [nx, lo] (w.heap.size + 1) (true && [lv].all lvB && [tu].all tuB) _ mayBe2_any (rd_lit [nx, lo] (by simp) (by simp)) (Bb.more HB2.out _)).mono ?_; rintro e w3 ⟨rfl, hB3, hb3, -⟩; have HB3 : Hid (Bb w3 (w.heap.size + 1) (true && [lv].all lvB && [tu].all tuB && [nx, lo].all lkB)) := hB3; have N3 : Hid (Nb w3 w.heap.size lv tu nx lo (.slice a sl.length cap)) := (N2.out.below ((Below.refl _ _).alloc (Nat.le_refl _) _)).belowN hb3 (Nat.lt_succ_self _); have H3 : Hid (Below w.heap.size w w3) := (H2.out.alloc (H2.out.size) _).trans (hb3.mono (Nat.le_succ _)); obtain ⟨x0, x1, x2, x3, x4⟩ := N3.out.c; have y := HB3.out.cell.1; clear hB3 hb3))
      | (clear t4; go_at_fn 53; go_loud (refine (ask_any 3 slB _ sl (w.heap.size + 1) (true && [lv].all lvB && [tu].all tuB && [nx, lo].all lkB) _ mayBe3_any (HR.out.below H3.out) HB3.out).mono ?_; rintro e w4 ⟨rfl, hB4, hb4, -⟩; have HB4 : Hid (Bb w4 (w.heap.size + 1) (true && [lv].all lvB && [tu].all tuB && [nx, lo].all lkB && sl.all slB)) := hB4; have N4 : Hid (Nb w4 w.heap.size lv tu nx lo (.slice a sl.length cap)) := (N3.out).belowN hb4 (Nat.lt_succ_self _); have H4 : Hid (Below w.heap.size w w4) := H3.out.trans (hb4.mono (Nat.le_succ _)); obtain ⟨x0, x1, x2, x3, x4⟩ := N4.out.c; have y := HB4.out.cell.1; clear hB4 hb4)))
    go_ret
    exact ⟨ret_bool HE.out, H4.out⟩
end Go.Proofs.Ytgcdhenbpkcmgaa
