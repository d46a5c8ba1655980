/- Set over from a lower layer: NNodc. · Set over from a lower layer: NNodp. -/
import Derived.Test.YtcgclhahonndbaaGreatNNumz
import Derived.Test.YtcgclhahonndbaaGreatBase
import Derived.Test.YtcgclhahonndbaaGreatNNodz
import Derived.Lib.SliceRun
namespace Go.Proofs.YtcgclhahonndbaaGreat
open Go.RowKit Go.Shelf
set_option linter.unusedVariables false
/-- A node in a block of its own. -/
def Nb (W : World) (g : Nat) (lv tu nx lo : Int) (v : Value) : Prop := W.heap[g]? = some (.cells #[.int .i64 lv, .int .i64 tu, .int .i64 nx, .int .i64 lo, v] 43 (0, 0))
section
variable {W : World} {g : Nat} {lv tu nx lo : Int} {v : Value}
theorem Nb.lt (h : Nb W g lv tu nx lo v) : g < W.heap.size := (Array.getElem?_eq_some_iff.1 h).1
theorem Nb.belowN {W' : World} {n : Nat} (h : Nb W g lv tu nx lo v) (hb : Below n W W') (hg : g < n) : Nb W' g lv tu nx lo v := (hb.block g hg).trans h
theorem Nb.below {W' : World} (h : Nb W g lv tu nx lo v) (hb : Below W.heap.size W W') : Nb W' g lv tu nx lo v := h.belowN hb h.lt
theorem Nb.c (h : Nb W g lv tu nx lo v) : W.cell? ⟨g, 0, none⟩ = some (.int .i64 lv) ∧ W.cell? ⟨g, 1, none⟩ = some (.int .i64 tu) ∧ W.cell? ⟨g, 2, none⟩ = some (.int .i64 nx) ∧ W.cell? ⟨g, 3, none⟩ = some (.int .i64 lo) ∧ W.cell? ⟨g, 4, none⟩ = some v := by
  simp [World.cell?, show W.heap[g]? = _ from h]
theorem Nb.free (h : Nb W g lv tu nx lo v) (k : Nat) : W.frozen? ⟨g, k, none⟩ = false := by
  simp [World.frozen?, show W.heap[g]? = _ from h]
end
theorem nb_new (W : World) (lv tu nx lo : Int) (v : Value) : Nb (W.alloc (.cells #[.int .i64 lv, .int .i64 tu, .int .i64 nx, .int .i64 lo, v] 43)) W.heap.size lv tu nx lo v := Go.heap_alloc_new _ _
theorem bb_new (W : World) (s : Bool) : Bb (W.alloc (.cells #[.bool s] 4)) W.heap.size s := Go.heap_alloc_new _ _
theorem Bb.more {W : World} {g : Nat} {s : Bool} (h : Bb W g s) (b : Obj) : Bb (W.alloc b) g s := h.belowN ((Below.refl W.heap.size W).alloc (Nat.le_refl _) _) h.lt
set_option maxRecDepth 100000 in
set_option maxHeartbeats 1000000 in
theorem check_node (n : Nd) (v : Value) (w : World) (hR : Rd w v n.sl) : Calls Tryz.prog 38 #[.agg #[.int .i64 n.lv, .int .i64 n.tu, .int .i64 n.nx, .int .i64 n.lo, v]] w fun e w' => e = .returned (.bool (nnB n)) ∧ Below w.heap.size w w' := by
  obtain ⟨lv, tu, nx, lo, sl⟩ := n
  dsimp only at hR ⊢
  obtain ⟨hl, a, cap, rfl⟩ := hR.form
  have HR : Hid (Rd w (.slice a sl.length cap) sl) := hR
  have e29 := enter59
  clear hR
  by_cases h13 : (sl.length : Int) > 13
  · have H : Hid (nnB ⟨lv, tu, nx, lo, sl⟩ = false) := by (show _ = _; exact nnB_no fun h => by have := h.len; dsimp only at this; omega)
    go_enter Tryz.func38, Tryz.ntmps38
    go_wp2
    go_ret
    exact ⟨ret_bool H.out.symm, (Below.refl _ _).alloc (Nat.le_refl _) _⟩
  · have N0 : Hid (Nb ((w.alloc (.cells #[.int .i64 lv, .int .i64 tu, .int .i64 nx, .int .i64 lo, .slice a sl.length cap] 43)).alloc (.cells #[.bool true] 4)) w.heap.size lv tu nx lo (.slice a sl.length cap)) := (nb_new w lv tu nx lo _).below ((Below.refl _ _).alloc (Nat.le_refl _) _)
    have HB0 : Hid (Bb ((w.alloc (.cells #[.int .i64 lv, .int .i64 tu, .int .i64 nx, .int .i64 lo, .slice a sl.length cap] 43)).alloc (.cells #[.bool true] 4)) (w.heap.size + 1) true) := (by have := bb_new (w.alloc (.cells #[.int .i64 lv, .int .i64 tu, .int .i64 nx, .int .i64 lo, .slice a sl.length cap] 43)) true; rw [show (w.alloc (.cells #[.int .i64 lv, .int .i64 tu, .int .i64 nx, .int .i64 lo, .slice a sl.length cap] 43)).heap.size = w.heap.size + 1 by simp] at this; exact this)
    have H0 : Hid (Below w.heap.size w ((w.alloc (.cells #[.int .i64 lv, .int .i64 tu, .int .i64 nx, .int .i64 lo, .slice a sl.length cap] 43)).alloc (.cells #[.bool true] 4))) := ((Below.refl _ _).alloc (Nat.le_refl _) _).alloc (by simp) _
    have HE : Hid (((lvB lv && tuB tu) && (lkB nx && lkB lo) && sl.all slB) = nnB ⟨lv, tu, nx, lo, sl⟩) := by
      show _ = _
      unfold nnB
      dsimp only
      rw [decide_eq_true (show sl.length ≤ 13 by omega)]
      simp [Bool.and_assoc]
    have t1 : Hid (0 = 0) := rfl
    have t2 : Hid (0 = 0) := rfl
    have t3 : Hid (0 = 0) := rfl
    have t4 : Hid (0 = 0) := rfl
    go_enter Tryz.func38, Tryz.ntmps38
    go_wp2_with (first
      | (clear t1; go_at_fn 59; go_loud (refine (ask_any 0 lvB _ [lv] (w.heap.size + 1) (true) _ mayBe0_any (rd_lit [lv] (by simp) (by simp)) (Bb.more HB0.out _)).mono ?_; rintro e w1 ⟨rfl, hB1, hb1, -⟩; have HB1 : Hid (Bb w1 (w.heap.size + 1) (true && [lv].all lvB)) := hB1; have N1 : Hid (Nb w1 w.heap.size lv tu nx lo (.slice a sl.length cap)) := (N0.out.below ((Below.refl _ _).alloc (Nat.le_refl _) _)).belowN hb1 (Nat.lt_succ_self _); have H1 : Hid (Below w.heap.size w w1) := (H0.out.alloc (H0.out.size) _).trans (hb1.mono (Nat.le_succ _)); obtain ⟨x0, x1, x2, x3, x4⟩ := N1.out.c; have y := HB1.out.cell.1; clear hB1 hb1))
      | (clear t2; go_at_fn 59; go_loud (refine (ask_any 1 tuB _ [tu] (w.heap.size + 1) (true && [lv].all lvB) _ mayBe1_any (rd_lit [tu] (by simp) (by simp)) (Bb.more HB1.out _)).mono ?_; rintro e w2 ⟨rfl, hB2, hb2, -⟩; have HB2 : Hid (Bb w2 (w.heap.size + 1) (true && [lv].all lvB && [tu].all tuB)) := hB2; have N2 : Hid (Nb w2 w.heap.size lv tu nx lo (.slice a sl.length cap)) := (N1.out.below ((Below.refl _ _).alloc (Nat.le_refl _) _)).belowN hb2 (Nat.lt_succ_self _); have H2 : Hid (Below w.heap.size w w2) := (H1.out.alloc (H1.out.size) _).trans (hb2.mono (Nat.le_succ _)); obtain ⟨x0, x1, x2, x3, x4⟩ := N2.out.c; have y := HB2.out.cell.1; clear hB2 hb2))
      | (clear t3; go_at_fn 59; go_loud (refine (ask_any 2 lkB _ [nx, lo] (w.heap.size + 1) (true && [lv].all lvB && [tu].all tuB) _ mayBe2_any (rd_lit [nx, lo] (by simp) (by simp)) (Bb.more HB2.out _)).mono ?_; rintro e w3 ⟨rfl, hB3, hb3, -⟩; have HB3 : Hid (Bb w3 (w.heap.size + 1) (true && [lv].all lvB && [tu].all tuB && [nx, lo].all lkB)) := hB3; have N3 : Hid (Nb w3 w.heap.size lv tu nx lo (.slice a sl.length cap)) := (N2.out.below ((Below.refl _ _).alloc (Nat.le_refl _) _)).belowN hb3 (Nat.lt_succ_self _); have H3 : Hid (Below w.heap.size w w3) := (H2.out.alloc (H2.out.size) _).trans (hb3.mono (Nat.le_succ _)); obtain ⟨x0, x1, x2, x3, x4⟩ := N3.out.c; have y := HB3.out.cell.1; clear hB3 hb3))
      | (clear t4; go_at_fn 59; go_loud (refine (ask_any 3 slB _ sl (w.heap.size + 1) (true && [lv].all lvB && [tu].all tuB && [nx, lo].all lkB) _ mayBe3_any (HR.out.below H3.out) HB3.out).mono ?_; rintro e w4 ⟨rfl, hB4, hb4, -⟩; have HB4 : Hid (Bb w4 (w.heap.size + 1) (true && [lv].all lvB && [tu].all tuB && [nx, lo].all lkB && sl.all slB)) := hB4; have N4 : Hid (Nb w4 w.heap.size lv tu nx lo (.slice a sl.length cap)) := (N3.out).belowN hb4 (Nat.lt_succ_self _); have H4 : Hid (Below w.heap.size w w4) := H3.out.trans (hb4.mono (Nat.le_succ _)); obtain ⟨x0, x1, x2, x3, x4⟩ := N4.out.c; have y := HB4.out.cell.1; clear hB4 hb4)))
    go_ret
    exact ⟨ret_bool HE.out, H4.out⟩
end Go.Proofs.YtcgclhahonndbaaGreat
namespace Go.Proofs.YtcgclhahonndbaaGreat
open Go.RowKit Go.Shelf
set_option linter.unusedVariables false
/-- A node's slots; slots without what stands twice. -/
def slN (ws : List Int) (b : Int) : List Int := if ndB b && decide (b + 16 ≤ (ws.length : Int)) then ((ws.drop (b.toNat + 3)).take 13).takeWhile (fun x => decide (0 < x)) else []
set_option maxRecDepth 100000 in
theorem isNode_any (b : Int) (w : World) : Calls Tryz.prog 84 #[.int .i64 b] w fun e w' => e = .returned (.bool (ndB b)) ∧ w' = w := by
  by_cases h1 : 0 ≤ b
  · by_cases h2 : b ≤ 4080
    · by_cases h3 : (b % 16 == 0) = true
      · have H : Hid (ndB b = true) := decide_eq_true (by simp at h3; omega)
        go_enter Tryz.func84, Tryz.ntmps84
        go_wp2
        go_ret
        exact ⟨ret_bool H.out.symm, rfl⟩
      · have h3 : (b % 16 == 0) = false := by simpa using h3
        have H : Hid (ndB b = false) := decide_eq_false (by simp at h3; omega)
        go_enter Tryz.func84, Tryz.ntmps84
        go_wp2
        go_ret
        exact ⟨ret_bool H.out.symm, rfl⟩
    · have H : Hid (ndB b = false) := decide_eq_false (by omega)
      go_enter Tryz.func84, Tryz.ntmps84
      go_wp2
      go_ret
      exact ⟨ret_bool H.out.symm, rfl⟩
  · have H : Hid (ndB b = false) := decide_eq_false (by omega)
    go_enter Tryz.func84, Tryz.ntmps84
    go_wp2
    go_ret
    exact ⟨ret_bool H.out.symm, rfl⟩
theorem plc_no1 {b s : Int} (h : ndB b = false) : plc b s = -1 := by unfold plc plB; rw [h]; rfl
theorem plc_no2 {b s : Int} (h : ¬ (0 ≤ s ∧ s ≤ 12)) : plc b s = -1 := by unfold plc plB; rw [decide_eq_false h, Bool.and_false]; rfl
set_option maxRecDepth 100000 in
theorem place_any (b s : Int) (w : World) : Calls Tryz.prog 62 #[.int .i64 b, .int .i64 s] w fun e w' => e = .returned (.int .i64 (plc b s)) ∧ w' = w := by
  cases e1 : ndB b
  · have H : Hid (plc b s = -1) := plc_no1 e1
    go_enter Tryz.func62, Tryz.ntmps62
    go_wp2_with (first
      | (go_at_call 84; refine (isNode_any b _).mono ?_; rintro e w' ⟨rfl, hw⟩; rw [hw, e1]; clear hw w'))
    go_ret
    exact ⟨ret_int H.out.symm, rfl⟩
  · obtain ⟨b0, b1, b2⟩ := ndB_out e1
    by_cases h1 : s < 0
    · have H : Hid (plc b s = -1) := plc_no2 (by omega)
      go_enter Tryz.func62, Tryz.ntmps62
      go_wp2_with (first
        | (go_at_call 84; refine (isNode_any b _).mono ?_; rintro e w' ⟨rfl, hw⟩; rw [hw, e1]; clear hw w'))
      go_ret
      exact ⟨ret_int H.out.symm, rfl⟩
    · by_cases h2 : 13 ≤ s
      · have H : Hid (plc b s = -1) := plc_no2 (by omega)
        go_enter Tryz.func62, Tryz.ntmps62
        go_wp2_with (first
          | (go_at_call 84; refine (isNode_any b _).mono ?_; rintro e w' ⟨rfl, hw⟩; rw [hw, e1]; clear hw w'))
        go_ret
        exact ⟨ret_int H.out.symm, rfl⟩
      · have H : Hid (plc b s = b + 3 + s) := plc_yes e1 (by omega) (by omega)
        go_enter Tryz.func62, Tryz.ntmps62
        go_wp2_with (first
          | (go_at_call 84; refine (isNode_any b _).mono ?_; rintro e w' ⟨rfl, hw⟩; rw [hw, e1]; clear hw w'))
        go_ret
        exact ⟨ret_int H.out.symm, rfl⟩
theorem posB_next {l : List Int} {k : Nat} {x : Int} (h : posB (l.take k) = true) (hx : l[k]? = some x) (h0 : 0 < x) : posB (l.take (k + 1)) = true := by
  unfold posB at *
  rw [take_next hx, List.all_append, h]
  simp [h0]
theorem slN_yes {ws : List Int} {bn : Nat} (h : ndB (bn : Int) = true) (h2 : bn + 16 ≤ ws.length) : slN ws (bn : Int) = ((ws.drop (bn + 3)).take 13).takeWhile (fun x => decide (0 < x)) := by
  unfold slN
  rw [h, decide_eq_true (by omega)]
  rfl
theorem slN_no {ws : List Int} {b : Int} (h : ¬ (ndB b = true ∧ b + 16 ≤ (ws.length : Int))) : slN ws b = [] := by
  unfold slN
  cases e : ndB b
  · rfl
  · rw [decide_eq_false (fun k => h ⟨e, k⟩)]; rfl
theorem while_stop {S : List Int} {k : Nat} {x : Int} (hp : posB (S.take k) = true) (hx : S[k]? = some x) (h0 : ¬ 0 < x) : S.takeWhile (fun x => decide (0 < x)) = S.take k := by
  obtain ⟨hk, rfl⟩ := List.getElem?_eq_some_iff.1 hx
  have e : S = S.take k ++ S.drop k := (List.take_append_drop k S).symm
  rw [e, List.takeWhile_append_of_pos (fun x hx => decide_eq_true (posB_out hp x hx)), List.drop_eq_getElem_cons hk, List.takeWhile_cons, if_neg (by simpa using h0), List.append_nil, ← List.drop_eq_getElem_cons hk, List.take_append_drop]
theorem while_all {S : List Int} (hp : posB S = true) : S.takeWhile (fun x => decide (0 < x)) = S := by
  have := List.takeWhile_append_of_pos (p := fun x : Int => decide (0 < x)) (l₁ := S) (l₂ := []) (fun x hx => decide_eq_true (posB_out hp x hx))
  simpa using this
theorem own_nil (W : World) (base : Nat) : OwnI W base (.slice none 0 0) [] := ⟨rfl, .inl ⟨rfl, rfl⟩⟩
theorem OwnI.setOther {W : World} {base : Nat} {v : Value} {zs : List Int} (h : OwnI W base v zs) {g k : Nat} (hg : g < base) (u : Value) : OwnI (W.setCell ⟨g, k, none⟩ u) base v zs := by
  refine ⟨h.1, ?_⟩
  rcases h.2 with h | ⟨b, cap, cur, e, hb, hh, rest⟩
  · exact .inl h
  · exact .inr ⟨b, cap, cur, e, hb, (Below.heap_setCell W ⟨g, k, none⟩ u b (by show b ≠ g; omega)).trans hh, rest⟩
set_option maxRecDepth 100000 in
set_option maxHeartbeats 2000000 in
theorem slots_any (v : Value) (ws : List Int) (b : Int) (w : World) (hR : Rd w v ws) : Calls Tryz.prog 123 #[v, .int .i64 b] w fun e w' => ∃ v', e = .returned v' ∧ OwnI w' w.heap.size v' (slN ws b) ∧ Below w.heap.size w w' := by
  have HR : Hid (Rd w v ws) := hR
  obtain ⟨hl, a, cap, rfl⟩ := hR.form
  have hcap : ws.length ≤ cap := by obtain ⟨_, _, a', c', e, h, _⟩ := hR; cases e; exact h
  cases e1 : ndB b
  · have H : Hid (slN ws b = []) := slN_no (by rw [e1]; simp)
    clear hR
    go_enter Tryz.func123, Tryz.ntmps123
    go_wp2_with (first
      | (go_at_call 84; refine (isNode_any b _).mono ?_; rintro e w' ⟨rfl, hw⟩; rw [hw, e1]; clear hw w'))
    go_ret
    exact ⟨_, rfl, by rw [H.out]; exact own_nil _ _, Below.refl _ _⟩
  obtain ⟨b0, b1, b2⟩ := ndB_out e1
  by_cases h1 : (ws.length : Int) < b + 16
  · have H : Hid (slN ws b = []) := slN_no (by omega)
    clear hR
    go_enter Tryz.func123, Tryz.ntmps123
    go_wp2_with (first
      | (go_at_call 84; refine (isNode_any b _).mono ?_; rintro e w' ⟨rfl, hw⟩; rw [hw, e1]; clear hw w'))
    go_ret
    exact ⟨_, rfl, by rw [H.out]; exact own_nil _ _, Below.refl _ _⟩
  obtain ⟨bn, rfl⟩ : ∃ bn : Nat, b = (bn : Int) := ⟨b.toNat, by omega⟩
  have h16 : bn + 16 ≤ ws.length := by omega
  have h16c : (bn : Int) + 16 ≤ (cap : Int) := by omega
  have h16n : bn + 16 ≤ cap := by omega
  have H : Hid (slN ws (bn : Int) = ((ws.drop (bn + 3)).take 13).takeWhile (fun x => decide (0 < x))) := slN_yes e1 h16
  obtain ⟨blk, off, rfl, -⟩ := hR.base (by omega)
  have hS : Rd w (.slice (some ⟨blk, off + (bn + 3), none⟩) 13 13) ((ws.drop (bn + 3)).take 13) := hR.part (bn + 3) 13 13 (by omega) (Nat.le_refl _)
  have hSl : ((ws.drop (bn + 3)).take 13).length = 13 := by rw [List.length_take, List.length_drop]; omega
  generalize (ws.drop (bn + 3)).take 13 = S at H hS hSl
  have HS : Hid (Rd w (.slice (some ⟨blk, off + (bn + 3), none⟩) 13 13) S) := hS
  have HSl : Hid (S.length = 13) := hSl
  clear hR hS hSl HR
  have d1 : decide ((ws.length : Int) < (bn : Int) + 16) = false := decide_eq_false (by omega)
  have d2 : decide (ws.length < bn + 16) = false := decide_eq_false (by omega)
  go_enter Tryz.func123, Tryz.ntmps123
  go_wp2_with (first
    | (go_at_call 84; refine (isNode_any (bn : Int) _).mono ?_; rintro e w' ⟨rfl, hw⟩; rw [hw, e1]; clear hw w'))
  go_loop [5, 25] (fun o i => ∃ k : Nat, k ≤ 13 ∧ i = .int .i64 k ∧ o = .slice (some ⟨blk, off + (bn + 3), none⟩) 13 13 ∧ posB (S.take k) = true) (fun _ i => 13 - (intOf i).toNat)
  case atStart => exact ⟨0, Nat.zero_le _, rfl, by rw [show bn + 16 - (bn + 3) = 13 from by omega], rfl⟩
  case round =>
    obtain ⟨k, hk, rfl, rfl, hp⟩ := hrel
    have Hp : Hid (posB (S.take k) = true) := hp
    clear hp
    by_cases hlt : k < 13
    · have hltS : k < S.length := by have := HSl.out; omega
      have Hx : Hid (S[k]? = some S[k]) := List.getElem?_eq_getElem hltS
      have hc := HS.out.cell Hx.out
      generalize S[k] = x at *
      by_cases h0 : 0 < x
      · have hd : decide (x ≤ 0) = false := decide_eq_false (by omega)
        have Hn : Hid (posB (S.take (k + 1)) = true) := posB_next Hp.out Hx.out h0
        go_wp2
        go_round
        case rel => exact ⟨k + 1, by omega, by go_num, rfl, Hn.out⟩
        case measure => simp [intOf]; omega
      · have hd : decide (x ≤ 0) = true := decide_eq_true (by omega)
        have Hn : Hid (slN ws (bn : Int) = S.take k) := by (show _ = _; rw [H.out, while_stop Hp.out Hx.out h0])
        have HT : Hid (Rd w (.slice (some ⟨blk, off + (bn + 3), none⟩) k k) (S.take k)) := by
          have := HS.out.part 0 k k (by omega) (Nat.le_refl _)
          rw [Nat.add_zero, List.drop_zero] at this
          exact this
        have hk13 : (k : Int) ≤ 13 := by omega
        go_wp2_with (first
          | (go_at_call 115; refine (cloneI_any _ (S.take k) _ HT.out).mono ?_; rintro e w6 ⟨v6, rfl, O6, b6⟩; have HO6 : Hid (OwnI w6 w.heap.size v6 (S.take k)) := O6; have HB6 : Hid (Below w.heap.size w w6) := b6; clear O6 b6))
        go_ret
        exact ⟨_, rfl, by rw [Hn.out]; exact HO6.out, HB6.out⟩
    · have Hn : Hid (slN ws (bn : Int) = S) := by
        show _ = _
        have := Hp.out
        rw [List.take_of_length_le (by have := HSl.out; omega)] at this
        rw [H.out, while_all this]
      go_wp2_with (first
        | (go_at_call 115; refine (cloneI_any _ S _ HS.out).mono ?_; rintro e w6 ⟨v6, rfl, O6, b6⟩; have HO6 : Hid (OwnI w6 w.heap.size v6 S) := O6; have HB6 : Hid (Below w.heap.size w w6) := b6; clear O6 b6))
      go_ret
      exact ⟨_, rfl, by rw [Hn.out]; exact HO6.out, HB6.out⟩
theorem below_cells {B g : Nat} {a : World} (hg : B ≤ g) (vs : List Value) (o : Nat) {W : World} (h : Below B a W) : Below B a (W.setCells g o vs) := by
  induction vs generalizing o W with
  | nil => exact h
  | cons v vs ih => exact ih (o + 1) (h.setCell (p := ⟨g, o, none⟩) hg v)
end Go.Proofs.YtcgclhahonndbaaGreat
