/- Walks of layer 9: Check, and the document's own one. -/
import Derived.Test.YtbnlekheadmecaaNodb
namespace Go.Proofs.Ytbnlekheadmecaa
open Go.RowKit Go.Shelf
set_option linter.unusedVariables false

/-- A node in a block of its own. -/
def Nb (W : World) (g : Nat) (lv tu nx lo : Int) (v : Value) : Prop := W.heap[g]? = some (.cells #[.int .i64 lv, .int .i64 tu, .int .i64 nx, .int .i64 lo, v] 24 (0, 0))
section
variable {W : World} {g : Nat} {lv tu nx lo : Int} {v : Value}
theorem Nb.lt (h : Nb W g lv tu nx lo v) : g < W.heap.size := (Array.getElem?_eq_some_iff.1 h).1
theorem Nb.belowN {W' : World} {n : Nat} (h : Nb W g lv tu nx lo v) (hb : Below n W W') (hg : g < n) : Nb W' g lv tu nx lo v := (hb.block g hg).trans h
theorem Nb.below {W' : World} (h : Nb W g lv tu nx lo v) (hb : Below W.heap.size W W') : Nb W' g lv tu nx lo v := h.belowN hb h.lt
theorem Nb.c (h : Nb W g lv tu nx lo v) : W.cell? ⟨g, 0, none⟩ = some (.int .i64 lv) ∧ W.cell? ⟨g, 1, none⟩ = some (.int .i64 tu) ∧ W.cell? ⟨g, 2, none⟩ = some (.int .i64 nx) ∧ W.cell? ⟨g, 3, none⟩ = some (.int .i64 lo) ∧ W.cell? ⟨g, 4, none⟩ = some v := by
  simp [World.cell?, show W.heap[g]? = _ from h]
theorem Nb.free (h : Nb W g lv tu nx lo v) (k : Nat) : W.frozen? ⟨g, k, none⟩ = false := by
  simp [World.frozen?, show W.heap[g]? = _ from h]
end
theorem nb_new (W : World) (lv tu nx lo : Int) (v : Value) : Nb (W.alloc (.cells #[.int .i64 lv, .int .i64 tu, .int .i64 nx, .int .i64 lo, v] 24)) W.heap.size lv tu nx lo v := Go.heap_alloc_new _ _
theorem bb_new (W : World) (s : Bool) : Bb (W.alloc (.cells #[.bool s] 4)) W.heap.size s := Go.heap_alloc_new _ _
theorem Bb.more {W : World} {g : Nat} {s : Bool} (h : Bb W g s) (b : Obj) : Bb (W.alloc b) g s := h.belowN ((Below.refl W.heap.size W).alloc (Nat.le_refl _) _) h.lt

set_option maxRecDepth 100000 in
set_option maxHeartbeats 1000000 in
theorem check_node (n : Nd) (v : Value) (w : World) (hR : Rd w v n.sl) : Calls Try.prog 17 #[.agg #[.int .i64 n.lv, .int .i64 n.tu, .int .i64 n.nx, .int .i64 n.lo, v]] w fun e w' => e = .returned (.bool (nnB n)) ∧ Below w.heap.size w w' := by
  obtain ⟨lv, tu, nx, lo, sl⟩ := n
  dsimp only at hR ⊢
  obtain ⟨hl, a, cap, rfl⟩ := hR.form
  have HR : Hid (Rd w (.slice a sl.length cap) sl) := hR
  have e29 := enter29
  clear hR
  by_cases h13 : (sl.length : Int) > 13
  · have H : Hid (nnB ⟨lv, tu, nx, lo, sl⟩ = false) := by (show _ = _; exact nnB_no fun h => by have := h.len; dsimp only at this; omega)
    go_enter Try.func17, Try.ntmps17
    go_wp2
    go_ret
    exact ⟨ret_bool H.out.symm, (Below.refl _ _).alloc (Nat.le_refl _) _⟩
  · have N0 : Hid (Nb ((w.alloc (.cells #[.int .i64 lv, .int .i64 tu, .int .i64 nx, .int .i64 lo, .slice a sl.length cap] 24)).alloc (.cells #[.bool true] 4)) w.heap.size lv tu nx lo (.slice a sl.length cap)) := (nb_new w lv tu nx lo _).below ((Below.refl _ _).alloc (Nat.le_refl _) _)
    have HB0 : Hid (Bb ((w.alloc (.cells #[.int .i64 lv, .int .i64 tu, .int .i64 nx, .int .i64 lo, .slice a sl.length cap] 24)).alloc (.cells #[.bool true] 4)) (w.heap.size + 1) true) := (by have := bb_new (w.alloc (.cells #[.int .i64 lv, .int .i64 tu, .int .i64 nx, .int .i64 lo, .slice a sl.length cap] 24)) true; rw [show (w.alloc (.cells #[.int .i64 lv, .int .i64 tu, .int .i64 nx, .int .i64 lo, .slice a sl.length cap] 24)).heap.size = w.heap.size + 1 by simp] at this; exact this)
    have H0 : Hid (Below w.heap.size w ((w.alloc (.cells #[.int .i64 lv, .int .i64 tu, .int .i64 nx, .int .i64 lo, .slice a sl.length cap] 24)).alloc (.cells #[.bool true] 4))) := ((Below.refl _ _).alloc (Nat.le_refl _) _).alloc (by simp) _
    have HE : Hid (((lvB lv && tuB tu) && (lkB nx && lkB lo) && sl.all slB) = nnB ⟨lv, tu, nx, lo, sl⟩) := by
      show _ = _
      unfold nnB
      dsimp only
      rw [decide_eq_true (show sl.length ≤ 13 by omega)]
      simp [Bool.and_assoc]
    have t1 : Hid (0 = 0) := rfl
    have t2 : Hid (0 = 0) := rfl
    have t3 : Hid (0 = 0) := rfl
    have t4 : Hid (0 = 0) := rfl
    go_enter Try.func17, Try.ntmps17
    go_wp2_with (first
      | (clear t1; go_at_fn 29; go_loud (refine (ask_any 0 lvB _ [lv] (w.heap.size + 1) (true) _ mayBe0_any (rd_lit [lv] (by simp) (by simp)) (Bb.more HB0.out _)).mono ?_; rintro e w1 ⟨rfl, hB1, hb1, -⟩; have HB1 : Hid (Bb w1 (w.heap.size + 1) (true && [lv].all lvB)) := hB1; have N1 : Hid (Nb w1 w.heap.size lv tu nx lo (.slice a sl.length cap)) := (N0.out.below ((Below.refl _ _).alloc (Nat.le_refl _) _)).belowN hb1 (Nat.lt_succ_self _); have H1 : Hid (Below w.heap.size w w1) := (H0.out.alloc (H0.out.size) _).trans (hb1.mono (Nat.le_succ _)); obtain ⟨x0, x1, x2, x3, x4⟩ := N1.out.c; have y := HB1.out.cell.1; clear hB1 hb1))
      | (clear t2; go_at_fn 29; go_loud (refine (ask_any 1 tuB _ [tu] (w.heap.size + 1) (true && [lv].all lvB) _ mayBe1_any (rd_lit [tu] (by simp) (by simp)) (Bb.more HB1.out _)).mono ?_; rintro e w2 ⟨rfl, hB2, hb2, -⟩; have HB2 : Hid (Bb w2 (w.heap.size + 1) (true && [lv].all lvB && [tu].all tuB)) := hB2; have N2 : Hid (Nb w2 w.heap.size lv tu nx lo (.slice a sl.length cap)) := (N1.out.below ((Below.refl _ _).alloc (Nat.le_refl _) _)).belowN hb2 (Nat.lt_succ_self _); have H2 : Hid (Below w.heap.size w w2) := (H1.out.alloc (H1.out.size) _).trans (hb2.mono (Nat.le_succ _)); obtain ⟨x0, x1, x2, x3, x4⟩ := N2.out.c; have y := HB2.out.cell.1; clear hB2 hb2))
      | (clear t3; go_at_fn 29; go_loud (refine (ask_any 2 lkB _ [nx, lo] (w.heap.size + 1) (true && [lv].all lvB && [tu].all tuB) _ mayBe2_any (rd_lit [nx, lo] (by simp) (by simp)) (Bb.more HB2.out _)).mono ?_; rintro e w3 ⟨rfl, hB3, hb3, -⟩; have HB3 : Hid (Bb w3 (w.heap.size + 1) (true && [lv].all lvB && [tu].all tuB && [nx, lo].all lkB)) := hB3; have N3 : Hid (Nb w3 w.heap.size lv tu nx lo (.slice a sl.length cap)) := (N2.out.below ((Below.refl _ _).alloc (Nat.le_refl _) _)).belowN hb3 (Nat.lt_succ_self _); have H3 : Hid (Below w.heap.size w w3) := (H2.out.alloc (H2.out.size) _).trans (hb3.mono (Nat.le_succ _)); obtain ⟨x0, x1, x2, x3, x4⟩ := N3.out.c; have y := HB3.out.cell.1; clear hB3 hb3))
      | (clear t4; go_at_fn 29; go_loud (refine (ask_any 3 slB _ sl (w.heap.size + 1) (true && [lv].all lvB && [tu].all tuB && [nx, lo].all lkB) _ mayBe3_any (HR.out.below H3.out) HB3.out).mono ?_; rintro e w4 ⟨rfl, hB4, hb4, -⟩; have HB4 : Hid (Bb w4 (w.heap.size + 1) (true && [lv].all lvB && [tu].all tuB && [nx, lo].all lkB && sl.all slB)) := hB4; have N4 : Hid (Nb w4 w.heap.size lv tu nx lo (.slice a sl.length cap)) := (N3.out).belowN hb4 (Nat.lt_succ_self _); have H4 : Hid (Below w.heap.size w w4) := H3.out.trans (hb4.mono (Nat.le_succ _)); obtain ⟨x0, x1, x2, x3, x4⟩ := N4.out.c; have y := HB4.out.cell.1; clear hB4 hb4)))
    go_ret
    exact ⟨ret_bool HE.out, H4.out⟩

set_option maxRecDepth 100000 in
set_option maxHeartbeats 1000000 in
/-- The document's own Check, ahead of its loop: what fails there. -/
theorem checkR_loop (lv tu nx lo : Int) (sl : List Int) (a : Option Addr) (cap : Nat) (w : World) (hR : Rd w (.slice a sl.length cap) sl) (h0 : 0 ≤ lv) (h1 : lv ≤ 9) (h2 : 0 ≤ tu) (h3 : tu ≤ 1099511627776) (h4 : lkB nx = true) (h5 : lkB lo = true) (h13 : ¬ (sl.length : Int) > 13) :
    Calls Try.prog 18 #[.agg #[.int .i64 lv, .int .i64 tu, .int .i64 nx, .int .i64 lo, .slice a sl.length cap]] w fun e w' => e = .returned (.bool (sl.all slB)) ∧ Below w.heap.size w w' := by
  have HR : Hid (Rd w (.slice a sl.length cap) sl) := hR
  have N0 : Hid (Nb (w.alloc (.cells #[.int .i64 lv, .int .i64 tu, .int .i64 nx, .int .i64 lo, .slice a sl.length cap] 24)) w.heap.size lv tu nx lo (.slice a sl.length cap)) := nb_new w lv tu nx lo _
  have H0 : Hid (Below w.heap.size w (w.alloc (.cells #[.int .i64 lv, .int .i64 tu, .int .i64 nx, .int .i64 lo, .slice a sl.length cap] 24))) := (Below.refl _ _).alloc (Nat.le_refl _) _
  clear hR
  go_enter Try.func18, Try.ntmps18
  go_wp2_with (first
    | (go_at_call 28; refine (block_any nx _).mono ?_; rintro e w' ⟨rfl, hw⟩; rw [hw, h4]; clear hw w')
    | (go_at_call 28; refine (block_any lo _).mono ?_; rintro e w' ⟨rfl, hw⟩; rw [hw, h5]; clear hw w'))
  generalize w.alloc (.cells #[.int .i64 lv, .int .i64 tu, .int .i64 nx, .int .i64 lo, .slice a sl.length cap] 24) = W at N0 H0 ⊢
  go_loop [3] (fun i => ∃ k : Nat, k ≤ sl.length ∧ i = .int .i64 (k : Int) ∧ (sl.take k).all slB = true) (fun i => sl.length - (intOf i).toNat)
  case atStart => exact ⟨0, Nat.zero_le _, rfl, rfl⟩
  case round =>
    obtain ⟨k, hk, rfl, ha⟩ := hrel
    have Ha : Hid ((sl.take k).all slB = true) := ha
    clear ha
    obtain ⟨x0, x1, x2, x3, x4⟩ := N0.out.c
    by_cases hlt : k < sl.length
    · have hltI : (k : Int) < (sl.length : Int) := by omega
      have Hx : Hid (sl[k]? = some sl[k]) := List.getElem?_eq_getElem hlt
      obtain ⟨b, off, rfl, hc⟩ := (HR.out.below H0.out).at k hlt
      generalize sl[k] = x at *
      have Hn : Hid ((sl.take (k + 1)).all slB = slB x) := by (show _ = _; rw [all_next Hx.out, Ha.out, Bool.true_and])
      by_cases hb : 0 ≤ x ∧ x ≤ 255
      · have hb1 : lkB x = true := lkB_iff.2 hb
        by_cases h00 : x = 0
        · have hd : (x == 0) = true := by simpa using h00
          have Hf : Hid (sl.all slB = false) := by
            show _ = _
            rw [List.all_eq_false]
            exact ⟨x, List.mem_of_getElem? Hx.out, by simp [slB, h00]⟩
          clear h00 hb
          go_wp2_with (first
            | (go_at_call 28; refine (block_any x _).mono ?_; rintro e w' ⟨rfl, hw⟩; rw [hw, hb1]; clear hw w'))
          go_ret
          exact ⟨ret_bool Hf.out.symm, H0.out⟩
        · have hd : (x == 0) = false := by simpa using h00
          have Hs : Hid (slB x = true) := slB_iff.2 (by omega)
          clear h00 hb
          go_wp2_with (first
            | (go_at_call 28; refine (block_any x _).mono ?_; rintro e w' ⟨rfl, hw⟩; rw [hw, hb1]; clear hw w'))
          go_round
          case rel => exact ⟨k + 1, by omega, by go_num, by rw [Hn.out, Hs.out]⟩
          case measure => simp [intOf]; omega
      · have hb1 : lkB x = false := decide_eq_false hb
        have Hf : Hid (sl.all slB = false) := by
          show _ = _
          rw [List.all_eq_false]
          exact ⟨x, List.mem_of_getElem? Hx.out, by simp [slB]; omega⟩
        clear hb
        go_wp2_with (first
          | (go_at_call 28; refine (block_any x _).mono ?_; rintro e w' ⟨rfl, hw⟩; rw [hw, hb1]; clear hw w'))
        go_ret
        exact ⟨ret_bool Hf.out.symm, H0.out⟩
    · have hge : ¬ (k : Int) < (sl.length : Int) := by omega
      have Hf : Hid (sl.all slB = true) := (by show _ = _; have := Ha.out; rwa [List.take_of_length_le (by omega)] at this)
      go_wp2
      go_ret
      exact ⟨ret_bool Hf.out.symm, H0.out⟩

set_option maxRecDepth 100000 in
set_option maxHeartbeats 1000000 in
theorem checkR_node (n : Nd) (v : Value) (w : World) (hR : Rd w v n.sl) : Calls Try.prog 18 #[.agg #[.int .i64 n.lv, .int .i64 n.tu, .int .i64 n.nx, .int .i64 n.lo, v]] w fun e w' => e = .returned (.bool (nnB n)) ∧ Below w.heap.size w w' := by
  obtain ⟨lv, tu, nx, lo, sl⟩ := n
  dsimp only at hR ⊢
  obtain ⟨hl, a, cap, rfl⟩ := hR.form
  have HR : Hid (Rd w (.slice a sl.length cap) sl) := hR
  have H0 : Hid (Below w.heap.size w (w.alloc (.cells #[.int .i64 lv, .int .i64 tu, .int .i64 nx, .int .i64 lo, .slice a sl.length cap] 24))) := (Below.refl _ _).alloc (Nat.le_refl _) _
  have hno : ∀ (h : ¬ May ⟨lv, tu, nx, lo, sl⟩), Hid (nnB ⟨lv, tu, nx, lo, sl⟩ = false) := fun h => nnB_no h
  clear hR
  by_cases c0 : lv < 0
  · have H := hno (fun h => by have := h.l0; dsimp only at this; omega)
    go_enter Try.func18, Try.ntmps18
    go_wp2
    go_ret
    exact ⟨ret_bool H.out.symm, H0.out⟩
  by_cases c1 : lv > 9
  · have H := hno (fun h => by have := h.l9; dsimp only at this; omega)
    go_enter Try.func18, Try.ntmps18
    go_wp2
    go_ret
    exact ⟨ret_bool H.out.symm, H0.out⟩
  by_cases c2 : tu < 0
  · have H := hno (fun h => by have := h.t0; dsimp only at this; omega)
    go_enter Try.func18, Try.ntmps18
    go_wp2
    go_ret
    exact ⟨ret_bool H.out.symm, H0.out⟩
  by_cases c3 : tu > 1099511627776
  · have H := hno (fun h => by have := h.t9; dsimp only at this; omega)
    go_enter Try.func18, Try.ntmps18
    go_wp2
    go_ret
    exact ⟨ret_bool H.out.symm, H0.out⟩
  cases c4 : lkB nx with
  | false =>
    have H := hno (fun h => by have h1 := h.x0; have h2 := h.x9; rw [lkB_iff.2 ⟨h1, h2⟩] at c4; cases c4)
    go_enter Try.func18, Try.ntmps18
    go_wp2_with (first
      | (go_at_call 28; refine (block_any nx _).mono ?_; rintro e w' ⟨rfl, hw⟩; rw [hw, c4]; clear hw w'))
    go_ret
    exact ⟨ret_bool H.out.symm, H0.out⟩
  | true =>
  cases c5 : lkB lo with
  | false =>
    have H := hno (fun h => by have h1 := h.w0; have h2 := h.w9; rw [lkB_iff.2 ⟨h1, h2⟩] at c5; cases c5)
    have t1 : Hid (0 = 0) := rfl
    go_enter Try.func18, Try.ntmps18
    go_wp2_with (first
      | (clear t1; go_at_call 28; refine (block_any nx _).mono ?_; rintro e w' ⟨rfl, hw⟩; rw [hw, c4]; clear hw w')
      | (go_at_call 28; refine (block_any lo _).mono ?_; rintro e w' ⟨rfl, hw⟩; rw [hw, c5]; clear hw w'))
    go_ret
    exact ⟨ret_bool H.out.symm, H0.out⟩
  | true =>
  by_cases c6 : (sl.length : Int) > 13
  · have H := hno (fun h => by have := h.len; dsimp only at this; omega)
    have t1 : Hid (0 = 0) := rfl
    go_enter Try.func18, Try.ntmps18
    go_wp2_with (first
      | (clear t1; go_at_call 28; refine (block_any nx _).mono ?_; rintro e w' ⟨rfl, hw⟩; rw [hw, c4]; clear hw w')
      | (go_at_call 28; refine (block_any lo _).mono ?_; rintro e w' ⟨rfl, hw⟩; rw [hw, c5]; clear hw w'))
    go_ret
    exact ⟨ret_bool H.out.symm, H0.out⟩
  have H : nnB ⟨lv, tu, nx, lo, sl⟩ = sl.all slB := by
    unfold nnB
    dsimp only
    rw [decide_eq_true (show sl.length ≤ 13 by omega), c4, c5, show lvB lv = true from decide_eq_true (by omega), show tuB tu = true from decide_eq_true (by omega)]
    simp
  rw [H]
  exact checkR_loop lv tu nx lo sl a cap w HR.out (by omega) (by omega) (by omega) (by omega) c4 c5 c6
end Go.Proofs.Ytbnlekheadmecaa
