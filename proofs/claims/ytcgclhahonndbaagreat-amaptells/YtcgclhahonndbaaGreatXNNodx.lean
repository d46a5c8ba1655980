/- Set over from a lower layer: Nodc. · Set over from a lower layer: Nodx. -/
import Derived.Test.YtcgclhahonndbaaGreatNNodp
import Derived.Test.YtcgclhahonndbaaGreatNNodz
import Derived.Test.YtcgclhahonndbaaGreatNNumz
import Derived.Test.YtcgclhahonndbaaGreatRKeywalkc
import Derived.Test.YtcgclhahonndbaaGreatXNNoda
import Derived.Test.YtcgclhahonndbaaGreatBase
import Derived.Test.YtcgclhahonndbaaGreatAri
import Derived.Test.YtcgclhahonndbaaGreatNNodw
import Derived.Test.YtcgclhahonndbaaGreatSSupa
import Derived.Lib.SliceRun
import Derived.Deep.RegionHeld3
import Derived.Laws.ResultCell
import Derived.Deep.AppendLies
import Derived.Shelf.Abstract
import Derived.Deep.RegionWith
import Derived.Laws.CopyOwn
import Derived.RangeFuncBox
import Derived.RangeFuncNested
import Derived.RangeFuncBound
import Derived.RangeFuncCalls
import Derived.RangeFuncLeaves
import Derived.Shelf.RegionOpen
import Derived.OwnWalkIn
import Derived.TacticsInMore
import Derived.LoopNIn
import Derived.LoopIn
import Derived.Maps.AppendAt
import Derived.Shelf.SlSortCmp.QuietGrown
import Derived.Maps.OwnOps
import Derived.Laws.StructEq
import Derived.Deep.Strs
import Derived.Deep.Slices
import Derived.Deep.RegionLaw
import Derived.Deep.QuietTactic
import Derived.Lib.AppendZeros
namespace Go.Proofs.YtcgclhahonndbaaGreat
open Go.RowKit Go.Shelf
set_option linter.unusedVariables false
set_option maxRecDepth 100000 in
set_option maxHeartbeats 1000000 in
/-- The document's own Check, ahead of its loop: what fails there. -/
theorem checkR_loop (lv tu nx lo : Int) (sl : List Int) (a : Option Addr) (cap : Nat) (w : World) (hR : Rd w (.slice a sl.length cap) sl) (h0 : 0 ≤ lv) (h1 : lv ≤ 9) (h2 : 0 ≤ tu) (h3 : tu ≤ 1099511627776) (h4 : lkB nx = true) (h5 : lkB lo = true) (h13 : ¬ (sl.length : Int) > 13) :
    Calls Tryz.prog 100 #[.agg #[.int .i64 lv, .int .i64 tu, .int .i64 nx, .int .i64 lo, .slice a sl.length cap]] w fun e w' => e = .returned (.bool (sl.all slB)) ∧ Below w.heap.size w w' := by
  have HR : Hid (Rd w (.slice a sl.length cap) sl) := hR
  have N0 : Hid (Nb (w.alloc (.cells #[.int .i64 lv, .int .i64 tu, .int .i64 nx, .int .i64 lo, .slice a sl.length cap] 43)) w.heap.size lv tu nx lo (.slice a sl.length cap)) := nb_new w lv tu nx lo _
  have H0 : Hid (Below w.heap.size w (w.alloc (.cells #[.int .i64 lv, .int .i64 tu, .int .i64 nx, .int .i64 lo, .slice a sl.length cap] 43))) := (Below.refl _ _).alloc (Nat.le_refl _) _
  clear hR
  go_enter Tryz.func100, Tryz.ntmps100
  go_wp2_with (first
    | (go_at_call 119; refine (block_any nx _).mono ?_; rintro e w' ⟨rfl, hw⟩; rw [hw, h4]; clear hw w')
    | (go_at_call 119; refine (block_any lo _).mono ?_; rintro e w' ⟨rfl, hw⟩; rw [hw, h5]; clear hw w'))
  generalize w.alloc (.cells #[.int .i64 lv, .int .i64 tu, .int .i64 nx, .int .i64 lo, .slice a sl.length cap] 43) = W at N0 H0 ⊢
  go_loop [3] (fun i => ∃ k : Nat, k ≤ sl.length ∧ i = .int .i64 (k : Int) ∧ (sl.take k).all slB = true) (fun i => sl.length - (Go.RowKit.intOf i).toNat)
  case atStart => exact ⟨0, Nat.zero_le _, rfl, rfl⟩
  case round =>
    obtain ⟨k, hk, rfl, ha⟩ := hrel
    have Ha : Hid ((sl.take k).all slB = true) := ha
    clear ha
    obtain ⟨x0, x1, x2, x3, x4⟩ := N0.out.c
    by_cases hlt : k < sl.length
    · have hltI : (k : Int) < (sl.length : Int) := by omega
      have Hx : Hid (sl[k]? = some sl[k]) := List.getElem?_eq_getElem hlt
      obtain ⟨b, off, rfl, hc⟩ := (HR.out.below H0.out).at k hlt
      generalize sl[k] = x at *
      have Hn : Hid ((sl.take (k + 1)).all slB = slB x) := by (show _ = _; rw [all_next Hx.out, Ha.out, Bool.true_and])
      by_cases hb : 0 ≤ x ∧ x ≤ 255
      · have hb1 : lkB x = true := lkB_iff.2 hb
        by_cases h00 : x = 0
        · have hd : (x == 0) = true := by simpa using h00
          have Hf : Hid (sl.all slB = false) := by
            show _ = _
            rw [List.all_eq_false]
            exact ⟨x, List.mem_of_getElem? Hx.out, by simp [slB, h00]⟩
          clear h00 hb
          go_wp2_with (first
            | (go_at_call 119; refine (block_any x _).mono ?_; rintro e w' ⟨rfl, hw⟩; rw [hw, hb1]; clear hw w'))
          go_ret
          exact ⟨ret_bool Hf.out.symm, H0.out⟩
        · have hd : (x == 0) = false := by simpa using h00
          have Hs : Hid (slB x = true) := slB_iff.2 (by omega)
          clear h00 hb
          go_wp2_with (first
            | (go_at_call 119; refine (block_any x _).mono ?_; rintro e w' ⟨rfl, hw⟩; rw [hw, hb1]; clear hw w'))
          go_round
          case rel => exact ⟨k + 1, by omega, by go_num, by rw [Hn.out, Hs.out]⟩
          case measure => simp [Go.RowKit.intOf]; omega
      · have hb1 : lkB x = false := decide_eq_false hb
        have Hf : Hid (sl.all slB = false) := by
          show _ = _
          rw [List.all_eq_false]
          exact ⟨x, List.mem_of_getElem? Hx.out, by simp [slB]; omega⟩
        clear hb
        go_wp2_with (first
          | (go_at_call 119; refine (block_any x _).mono ?_; rintro e w' ⟨rfl, hw⟩; rw [hw, hb1]; clear hw w'))
        go_ret
        exact ⟨ret_bool Hf.out.symm, H0.out⟩
    · have hge : ¬ (k : Int) < (sl.length : Int) := by omega
      have Hf : Hid (sl.all slB = true) := (by show _ = _; have := Ha.out; rwa [List.take_of_length_le (by omega)] at this)
      go_wp2
      go_ret
      exact ⟨ret_bool Hf.out.symm, H0.out⟩
set_option maxRecDepth 100000 in
set_option maxHeartbeats 1000000 in
theorem checkR_node (n : Nd) (v : Value) (w : World) (hR : Rd w v n.sl) : Calls Tryz.prog 100 #[.agg #[.int .i64 n.lv, .int .i64 n.tu, .int .i64 n.nx, .int .i64 n.lo, v]] w fun e w' => e = .returned (.bool (nnB n)) ∧ Below w.heap.size w w' := by
  obtain ⟨lv, tu, nx, lo, sl⟩ := n
  dsimp only at hR ⊢
  obtain ⟨hl, a, cap, rfl⟩ := hR.form
  have HR : Hid (Rd w (.slice a sl.length cap) sl) := hR
  have H0 : Hid (Below w.heap.size w (w.alloc (.cells #[.int .i64 lv, .int .i64 tu, .int .i64 nx, .int .i64 lo, .slice a sl.length cap] 43))) := (Below.refl _ _).alloc (Nat.le_refl _) _
  have hno : ∀ (h : ¬ May ⟨lv, tu, nx, lo, sl⟩), Hid (nnB ⟨lv, tu, nx, lo, sl⟩ = false) := fun h => nnB_no h
  clear hR
  by_cases c0 : lv < 0
  · have H := hno (fun h => by have := h.l0; dsimp only at this; omega)
    go_enter Tryz.func100, Tryz.ntmps100
    go_wp2
    go_ret
    exact ⟨ret_bool H.out.symm, H0.out⟩
  by_cases c1 : lv > 9
  · have H := hno (fun h => by have := h.l9; dsimp only at this; omega)
    go_enter Tryz.func100, Tryz.ntmps100
    go_wp2
    go_ret
    exact ⟨ret_bool H.out.symm, H0.out⟩
  by_cases c2 : tu < 0
  · have H := hno (fun h => by have := h.t0; dsimp only at this; omega)
    go_enter Tryz.func100, Tryz.ntmps100
    go_wp2
    go_ret
    exact ⟨ret_bool H.out.symm, H0.out⟩
  by_cases c3 : tu > 1099511627776
  · have H := hno (fun h => by have := h.t9; dsimp only at this; omega)
    go_enter Tryz.func100, Tryz.ntmps100
    go_wp2
    go_ret
    exact ⟨ret_bool H.out.symm, H0.out⟩
  cases c4 : lkB nx with
  | false =>
    have H := hno (fun h => by have h1 := h.x0; have h2 := h.x9; rw [lkB_iff.2 ⟨h1, h2⟩] at c4; cases c4)
    go_enter Tryz.func100, Tryz.ntmps100
    go_wp2_with (first
      | (go_at_call 119; refine (block_any nx _).mono ?_; rintro e w' ⟨rfl, hw⟩; rw [hw, c4]; clear hw w'))
    go_ret
    exact ⟨ret_bool H.out.symm, H0.out⟩
  | true =>
  cases c5 : lkB lo with
  | false =>
    have H := hno (fun h => by have h1 := h.w0; have h2 := h.w9; rw [lkB_iff.2 ⟨h1, h2⟩] at c5; cases c5)
    have t1 : Hid (0 = 0) := rfl
    go_enter Tryz.func100, Tryz.ntmps100
    go_wp2_with (first
      | (clear t1; go_at_call 119; refine (block_any nx _).mono ?_; rintro e w' ⟨rfl, hw⟩; rw [hw, c4]; clear hw w')
      | (go_at_call 119; refine (block_any lo _).mono ?_; rintro e w' ⟨rfl, hw⟩; rw [hw, c5]; clear hw w'))
    go_ret
    exact ⟨ret_bool H.out.symm, H0.out⟩
  | true =>
  by_cases c6 : (sl.length : Int) > 13
  · have H := hno (fun h => by have := h.len; dsimp only at this; omega)
    have t1 : Hid (0 = 0) := rfl
    go_enter Tryz.func100, Tryz.ntmps100
    go_wp2_with (first
      | (clear t1; go_at_call 119; refine (block_any nx _).mono ?_; rintro e w' ⟨rfl, hw⟩; rw [hw, c4]; clear hw w')
      | (go_at_call 119; refine (block_any lo _).mono ?_; rintro e w' ⟨rfl, hw⟩; rw [hw, c5]; clear hw w'))
    go_ret
    exact ⟨ret_bool H.out.symm, H0.out⟩
  have H : nnB ⟨lv, tu, nx, lo, sl⟩ = sl.all slB := by
    unfold nnB
    dsimp only
    rw [decide_eq_true (show sl.length ≤ 13 by omega), c4, c5, show lvB lv = true from decide_eq_true (by omega), show tuB tu = true from decide_eq_true (by omega)]
    simp
  rw [H]
  exact checkR_loop lv tu nx lo sl a cap w HR.out (by omega) (by omega) (by omega) (by omega) c4 c5 c6
end Go.Proofs.YtcgclhahonndbaaGreat
namespace Go.Proofs.YtcgclhahonndbaaGreat
open Go.RowKit Go.Shelf
set_option linter.unusedVariables false
/-- The words with so many noughts laid. -/
def stR (hd nx lo : Int) (sl : List Int) (k : Nat) : List Int := hd :: nx :: lo :: (sl ++ List.replicate k 0)
theorem stR_length (hd nx lo : Int) (sl : List Int) (k : Nat) : (stR hd nx lo sl k).length = sl.length + k + 3 := by simp [stR]
theorem stR_next (hd nx lo : Int) (sl : List Int) (k : Nat) : stR hd nx lo sl k ++ [0] = stR hd nx lo sl (k + 1) := by
  unfold stR
  rw [List.replicate_succ']
  simp
theorem SN.below {W W' : World} {g : Nat} {lv tu nx lo : Int} {v : Value} (h : Nb W g lv tu nx lo v) (hb : Below W.heap.size W W') : SN W' g lv tu nx lo v := (h.below hb).sn
set_option maxRecDepth 100000 in
set_option maxHeartbeats 1000000 in
theorem wordsR_node (n : Nd) (v : Value) (w : World) (hR : Rd w v n.sl) : Calls Tryz.prog 71 #[.agg #[.int .i64 n.lv, .int .i64 n.tu, .int .i64 n.nx, .int .i64 n.lo, v]] w fun e w' => ∃ v', e = .returned (.tuple #[v', .int .i64 (wnE n)]) ∧ Rd w' v' (wnL n) ∧ Below w.heap.size w w' := by
  obtain ⟨lv, tu, nx, lo, sl⟩ := n
  dsimp only at hR ⊢
  obtain ⟨hl, a, cap, rfl⟩ := hR.form
  have HR : Hid (Rd w (.slice a sl.length cap) sl) := hR
  have HB : Hid (Below w.heap.size w (w.alloc (.cells #[.int .i64 lv, .int .i64 tu, .int .i64 nx, .int .i64 lo, .slice a sl.length cap] 43))) := (Below.refl _ _).alloc (Nat.le_refl _) _
  have HN : Hid (Nb (w.alloc (.cells #[.int .i64 lv, .int .i64 tu, .int .i64 nx, .int .i64 lo, .slice a sl.length cap] 43)) w.heap.size lv tu nx lo (.slice a sl.length cap)) := nb_new w lv tu nx lo _
  have k18 : Hid (∀ W, Below w.heap.size w W → Calls Tryz.prog 100 #[.agg #[.int .i64 lv, .int .i64 tu, .int .i64 nx, .int .i64 lo, .slice a sl.length cap]] W fun e w' => e = .returned (.bool (nnB ⟨lv, tu, nx, lo, sl⟩)) ∧ Below W.heap.size W w') := fun W hb => checkR_node ⟨lv, tu, nx, lo, sl⟩ _ W (HR.out.below hb)
  clear hR
  cases hc : nnB ⟨lv, tu, nx, lo, sl⟩ with
  | false =>
    have H1 : Hid (wnE ⟨lv, tu, nx, lo, sl⟩ = 90) := (wn_no hc).2
    have H2 : Hid (wnL ⟨lv, tu, nx, lo, sl⟩ = []) := (wn_no hc).1
    rw [hc] at k18
    go_enter Tryz.func71, Tryz.ntmps71
    go_wp2_with (first
      | (go_at_call 100; refine (k18.out _ HB.out).mono ?_; rintro e w1 ⟨rfl, hb1⟩))
    refine bodyPost_ret (results_tmp2 Tryz.results71 _ _ _) rfl ?_
    exact ⟨_, by rw [H1.out]; rfl, by rw [H2.out]; exact nil_rd _, bstep HB.out hb1⟩
  | true =>
    have hM := nnB_iff.1 hc
    have H1 : Hid (wnE ⟨lv, tu, nx, lo, sl⟩ = 0) := (wn_yes hc).2
    have H2 : Hid (wnL ⟨lv, tu, nx, lo, sl⟩ = stR (hdI tu lv) nx lo sl (13 - sl.length)) := (wn_yes hc).1
    rw [hc] at k18
    have k25 : Hid (∀ W, Calls Tryz.prog 101 #[.agg #[.int .i64 lv, .int .i64 tu, .int .i64 nx, .int .i64 lo, .slice a sl.length cap]] W fun e w' => e = .returned (.int .i64 (hdI tu lv)) ∧ Below W.heap.size W w') := fun W => first_any lv tu nx lo _ W hM.l0 hM.l9 hM.t0 hM.t9
    have HL : Hid (sl.length ≤ 13) := hM.len
    generalize hdI tu lv = hd at *
    clear hM hc
    go_enter Tryz.func71, Tryz.ntmps71
    go_wp2_with (first
      | (go_at_call 100; refine (k18.out _ HB.out).mono ?_; rintro e w0 ⟨rfl, hb0⟩; have N0 : Hid (Nb w0 w.heap.size lv tu nx lo (.slice a sl.length cap)) := HN.out.below hb0; have H0 : Hid (Below w.heap.size w w0) := bstep HB.out hb0; clear hb0))
    have S0 : Hid (SN w0.drew w.heap.size lv tu nx lo (.slice a sl.length cap)) := SN.below N0.out (Below.refl _ _).drew
    go_region_held3 (fun W2 => W2.cell? ⟨w.heap.size, 0, none⟩ = some (.int .i64 lv) ∧ W2.cell? ⟨w.heap.size, 1, none⟩ = some (.int .i64 tu) ∧ W2.cell? ⟨w.heap.size, 2, none⟩ = some (.int .i64 nx) ∧ W2.cell? ⟨w.heap.size, 3, none⟩ = some (.int .i64 lo) ∧ W2.cell? ⟨w.heap.size, 4, none⟩ = some (.slice a sl.length cap))
      (first | with_reducible exact S0.out | with_reducible exact S1.out | with_reducible exact SA.out | with_reducible exact S2.out)
      (first
        | (go_at_call 101; refine (k25.out _).mono ?_; rintro e w1 ⟨rfl, hb1⟩; have b1 : Hid (Below w0.heap.size w0 w1) := bstep (Below.refl _ _).drew hb1; have S1 : Hid (SN w1 w.heap.size lv tu nx lo (.slice a sl.length cap)) := SN.below N0.out b1.out; have bA : Hid (Below w0.heap.size w0 (w1.alloc (.cells #[.int .i64 hd, .int .i64 nx, .int .i64 lo] 3))) := b1.out.alloc b1.out.size _; have SA : Hid (SN (w1.alloc (.cells #[.int .i64 hd, .int .i64 nx, .int .i64 lo] 3)) w.heap.size lv tu nx lo (.slice a sl.length cap)) := SN.below N0.out bA.out; clear hb1)
        | (refine step_ints1 rfl (.tmp 16) (.tmp 18) rfl w1.heap.size w1.heap.size 3 [hd, nx, lo] rfl (own_lit [hd, nx, lo] rfl (Nat.le_refl _) (by simp)) (by simp) _ sl rfl (HR.out.below (bstep H0.out bA.out)) ?_; intro g' cap' w2 o2 g2; have O2 : Hid (OwnI w2 w1.heap.size (.slice (some ⟨g', 0, none⟩) (3 + sl.length) cap') (hd :: nx :: lo :: sl)) := o2; have b2 : Hid (Below w0.heap.size w0 w2) := bA.out.grown g2 (by have := b1.out.size; simp; omega) (fun k hk => (by cases hk; exact b1.out.size)); have S2 : Hid (SN w2 w.heap.size lv tu nx lo (.slice a sl.length cap)) := SN.below N0.out b2.out; clear o2 g2))
    have HB2 : Hid (Below w.heap.size w w2) := bstep H0.out b2.out
    have HO : Hid (OwnI w2 w1.heap.size (.slice (some ⟨g', 0, none⟩) (3 + sl.length) cap') (stR hd nx lo sl 0)) := (by show OwnI _ _ _ _; unfold stR; rw [List.replicate_zero, List.append_nil]; exact O2.out)
    have hbase : w1.heap.size ≤ w2.heap.size := (by have := b2.out.size; rcases O2.out.2 with ⟨e, _⟩ | ⟨g, c, cur, e, h1, h2, _⟩; · cases e
                                                    · have := (Array.getElem?_eq_some_iff.1 h2).1; omega)
    have HW : Hid (w.heap.size ≤ w1.heap.size) := (by show _ ≤ _; have := b1.out.size; have := H0.out.size; omega)
    have HS : Hid ((stR hd nx lo sl 0).length = 3 + sl.length) := (by show _ = _; rw [stR_length]; omega)
    clear S0 S1 SA S2 O2 b1 bA b2
    rw [show [hd, nx, lo].length = 3 from rfl]
    go_wp2
    go_loopw [5] (fun l w3 => ∃ (k : Nat) (a : Option Addr) (c : Nat), k ≤ 13 - sl.length ∧ l = .slice a (stR hd nx lo sl k).length c ∧ OwnI w3 w1.heap.size (.slice a (stR hd nx lo sl k).length c) (stR hd nx lo sl k) ∧ Below w.heap.size w w3 ∧ w1.heap.size ≤ w3.heap.size) (fun l _ => 16 - lenV l)
    case atStart => exact ⟨0, some ⟨g', 0, none⟩, cap', Nat.zero_le _, by rw [HS.out], by rw [HS.out]; exact HO.out, HB2.out, hbase⟩
    case round =>
      obtain ⟨k, a5, c5, hk, rfl, hO, hB, hs⟩ := hrel
      have HO : Hid (OwnI wr w1.heap.size (.slice a5 (stR hd nx lo sl k).length c5) (stR hd nx lo sl k)) := hO
      have HB2 : Hid (Below w.heap.size w wr) := hB
      have Hn : Hid (stR hd nx lo sl k ++ [0] = stR hd nx lo sl (k + 1)) := stR_next hd nx lo sl k
      have Hl : Hid ((stR hd nx lo sl k).length = sl.length + k + 3 ∧ (stR hd nx lo sl (k + 1)).length = sl.length + (k + 1) + 3) := ⟨stR_length .., stR_length ..⟩
      clear hO hB
      by_cases hlt : k < 13 - sl.length
      · have hltI : ((stR hd nx lo sl k).length : Int) < 16 := (by rw [Hl.out.1]; omega)
        obtain ⟨Z, hZ⟩ : ∃ Z, stR hd nx lo sl k = Z := ⟨_, rfl⟩
        rw [hZ] at HO Hn Hl hltI ⊢
        clear hZ
        go_wp2_with (first
          | (at_builtin; refine append_own_rd rfl (.tmp 23) (.tmp 24) rfl w1.heap.size (.slice a5 Z.length c5) Z rfl (ownI_below HO.out ((Below.refl _ _).alloc (Nat.le_refl _) _)) (.slice (some ⟨wr.heap.size, 0, none⟩) 1 1) [0] rfl (rd_lit [0] rfl (by simp)) (by have := Hl.out.1; omega) (by simp; omega) (stR hd nx lo sl (k + 1)) Hn.out ?_; intro a6 c6 w6 o6 b6; have O6 : Hid (OwnI w6 w1.heap.size (.slice a6 (stR hd nx lo sl (k + 1)).length c6) (stR hd nx lo sl (k + 1))) := o6; have B6 : Hid (Below w.heap.size w w6) := (HB2.out.alloc HB2.out.size _).trans (b6.mono HW.out); have s6 : w1.heap.size ≤ w6.heap.size := (by have := b6.size; simp at this; omega); clear o6 b6))
        go_roundw
        case rel => exact ⟨k + 1, a6, c6, by omega, rfl, O6.out, B6.out, s6⟩
        case measure => show 16 - (stR hd nx lo sl (k + 1)).length < 16 - Z.length; rw [Hl.out.1, Hl.out.2]; omega
      · have hge : ¬ ((stR hd nx lo sl k).length : Int) < 16 := (by rw [Hl.out.1]; have := HL.out; omega)
        have hk2 : Hid (k = 13 - sl.length) := (by show _ = _; omega)
        go_wp2
        refine bodyPost_ret (results_tmp2 Tryz.results71 _ _ _) rfl ?_
        exact ⟨_, by rw [H1.out]; rfl, by rw [H2.out, ← hk2.out]; exact HO.out.rd (by rw [Hl.out.1]; have := HL.out; omega), HB2.out⟩
end Go.Proofs.YtcgclhahonndbaaGreat
