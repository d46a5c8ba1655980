/- Set over from a lower layer: Keywalkc. · Set over from a lower layer: Keywalke. · Set over from a lower layer: Recnum. · Set over from a lower layer: Walko. -/
import Derived.Test.YtcgclhahonndbaaGreatRKeywalka
import Derived.Test.YtcgclhahonndbaaGreatXRKeywalka
import Derived.Test.YtcgclhahonndbaaGreatBase
import Derived.Test.YtcgclhahonndbaaGreatNNumz
import Derived.Test.YtcgclhahonndbaaGreatRKeywalkc
import Derived.Test.YtcgclhahonndbaaGreatRReca
import Derived.Test.YtcgclhahonndbaaGreatSSumz
import Derived.Test.YtcgclhahonndbaaGreatXNNoda
import Derived.Test.YtcgclhahonndbaaGreatXSSupc
import Derived.WalkKit
import Derived.WalkSpells
import Derived.WalkLawsBesides
import Derived.LoopN
import Derived.Laws.BytesArg
import Derived.Laws.AppendOwnNone
import Derived.Deep.QuietTactic
import Derived.BigQuiet
import Derived.WalkSmall
import Derived.Laws.BitsAllLaws
import Derived.Deep.MidRow
import Derived.Deep.OwnRows
import Derived.Lib.SliceRun
import Derived.Deep.RegionHeld3
import Derived.Laws.ResultCell
import Derived.Deep.AppendLies
import Derived.Shelf.Abstract
import Derived.Deep.RegionWith
import Derived.Laws.CopyOwn
import Derived.RangeFuncBox
import Derived.RangeFuncNested
import Derived.RangeFuncBound
import Derived.RangeFuncCalls
import Derived.RangeFuncLeaves
import Derived.Shelf.RegionOpen
import Derived.OwnWalkIn
import Derived.TacticsInMore
import Derived.LoopNIn
import Derived.LoopIn
import Derived.Maps.AppendAt
import Derived.Shelf.SlSortCmp.QuietGrown
namespace Go.Proofs.YtcgclhahonndbaaGreat.Ky
open Go.RowKit Go.Shelf
attribute [local go_sem] Oper.semAt_some
end Go.Proofs.YtcgclhahonndbaaGreat.Ky
namespace Go.Proofs.YtcgclhahonndbaaGreat.Ky
open Go.RowKit
/-- The number of the first j bytes of the word at k. -/
def wIn (l : List UInt8) (k j : Nat) : Int := w7 (fun i => byt l (7 * k + i)) j
theorem wIn_succ (l : List UInt8) (k j : Nat) : wIn l k (j + 1) = wIn l k j * 256 + byt l (7 * k + j) := rfl
theorem wIn_seven (l : List UInt8) (k : Nat) : wIn l k 7 = wAt l k := rfl
theorem wIn_bd6 (l : List UInt8) (k j : Nat) (h : j ≤ 6) : 0 ≤ wIn l k j ∧ wIn l k j < 281474976710656 := w7_lt6 _ (fun _ => byt_bd _ _) j h
set_option maxRecDepth 100000 in
set_option maxHeartbeats 2000000 in
theorem wordsR_own (s : ByteArray) (w : World) (hs : s.size ≤ 7000) :
    Calls Tryz.prog 104 #[.string s] w fun e w' => ∃ v, e = .returned v ∧ w'.ownsRow w.heap.size 3 1 v (nW s.size) ((wsl s.data.toList).map (Value.int .i64)) ∧ Below w.heap.size w w' := by
  obtain ⟨i0, hi, hz0, hz1, hz2⟩ := info_parts Tryz.info3
  have hn : nW s.size ≤ 1000 := by unfold nW; omega
  go_enter Tryz.func104, Tryz.ntmps104
  go_wp2
  go_loopw [3, 4] (fun t3 t4 w1 => ∃ k : Nat, k ≤ nW s.size ∧ t4 = .int .i64 (7 * (k : Int)) ∧ w1.ownsRow w.heap.size 3 1 t3 k ((wUp s.data.toList k).map (Value.int .i64)) ∧ Below w.heap.size w w1) (fun _ t4 _ => 10000 - (Go.RowKit.intOf t4).toNat)
  case atStart => exact ⟨0, by omega, rfl, World.ownsRow_nil _ _ _ _, Below.refl _ _⟩
  case round =>
    obtain ⟨k, hk, rfl, hown, hbel⟩ := hrel
    by_cases hlt : 7 * k < s.size
    · have hltI : 7 * (k : Int) < (s.size : Int) := by omega
      go_wp2
      go_loop [5, 6] (fun r i => ∃ j : Nat, j ≤ 7 ∧ i = .int .i64 (7 * (k : Int) + (j : Int)) ∧ r = .int .i64 (wIn s.data.toList k j)) (fun _ i => 7 * k + 7 - (Go.RowKit.intOf i).toNat)
      case atStart => exact ⟨0, Nat.zero_le _, by simp, rfl⟩
      case round =>
        obtain ⟨j, hj, rfl, rfl⟩ := hrel
        by_cases hlt2 : j < 7
        · have hb := wIn_bd6 s.data.toList k j (by omega)
          by_cases hp : 7 * k + j < s.size
          · have H : Hid (byt s.data.toList (7 * k + j) = (s[7 * k + j].toNat : Int)) := byt_in s.data.toList (7 * k + j) (by simpa using hp)
            have hc8 : (s[7 * k + j].toNat : Int) < 256 := by have := UInt8.toNat_lt s[7 * k + j]; omega
            have hwb : wrap64 (s[7 * k + j].toNat : Int) = (s[7 * k + j].toNat : Int) := by unfold wrap64; omega
            go_wp2
            go_round
            case rel => exact ⟨j + 1, by omega, by go_num, by rw [wIn_succ, H.out]⟩
            case measure => simp [Go.RowKit.intOf]; omega
          · have H : Hid (byt s.data.toList (7 * k + j) = 0) := byt_out s.data.toList (7 * k + j) (by simp; omega)
            go_wp2
            go_round
            case rel => exact ⟨j + 1, by omega, by go_num, by rw [wIn_succ, H.out, Int.add_zero]⟩
            case measure => simp [Go.RowKit.intOf]; omega
        · obtain rfl : j = 7 := by omega
          rw [wIn_seven]
          go_wp2_with (at_builtin; refine wpList_append_own _ rfl _ _ 22 rfl w.heap.size 3 i0 (.int .i64 0) 1 8 Tryz.underlying22 hi hz0 hz1 hz2 rfl (by decide) _ k _ rfl (hown.alloc _) ⟨wr.heap.size, 0, none⟩ 1 1 [.int .i64 (wAt s.data.toList k)] rfl rfl (cell_one_new _ _ _) (by simp [Value.oneCell']) (by unfold maxLen; omega) (by omega) (by have := hbel.size; simp; omega) ?_; intro v' w3 hown' hgrow3 _)
          have hsz := hbel.size
          have hb3 : Below w.heap.size w w3 := (hbel.alloc hsz _).grown hgrow3 (by simp; omega) (by intro q hq; exact (hown.lt q hq).1)
          go_roundw
          case rel => exact ⟨k + 1, by unfold nW; omega, by go_num, by rw [wUp_succ]; simpa using hown', hb3⟩
          case measure => simp [Go.RowKit.intOf]; omega
    · go_wp2
      go_ret
      have e : k = nW s.size := by unfold nW at *; omega
      subst e
      exact ⟨_, rfl, by simpa [wsl] using hown, hbel⟩
end Go.Proofs.YtcgclhahonndbaaGreat.Ky
namespace Go.Proofs.YtcgclhahonndbaaGreat.Ky
open Go.RowKit
end Go.Proofs.YtcgclhahonndbaaGreat.Ky
namespace Go.Proofs.YtcgclhahonndbaaGreat.Ky
open Go.RowKit
theorem wordsR_any (s : ByteArray) (w : World) (hs : s.size ≤ 7000) :
    Calls Tryz.prog 104 #[.string s] w fun e w' => ∃ v, e = .returned v ∧ Rd w' v (wsl s.data.toList) ∧ Below w.heap.size w w' := by
  refine (wordsR_own s w hs).mono ?_
  rintro e w' ⟨v, rfl, hown, hb⟩
  exact ⟨v, rfl, Rd.of_own hown (wsl_bd _) (by rw [wsl_length]; unfold nW; simp; omega), hb⟩
/-- n over 256, k times. -/
def dv (n : Int) : Nat → Int
  | 0 => n
  | k + 1 => dv n k / 256
/-- The last k bytes of n. -/
def lastB (n : Int) : Nat → List Int
  | 0 => []
  | k + 1 => (dv n k % 256) :: lastB n k
theorem dv_bd (n : Int) (h0 : 0 ≤ n) (h : n < 9223372036854775808) : ∀ k, 0 ≤ dv n k ∧ dv n k < 9223372036854775808
  | 0 => ⟨h0, h⟩
  | k + 1 => by
    have := dv_bd n h0 h k
    show 0 ≤ dv n k / 256 ∧ dv n k / 256 < _
    omega
theorem lastB_7 (n : Int) : lastB n 7 = bUp n 7 := by
  have e : bUp n 7 = [bt n 0, bt n 1, bt n 2, bt n 3, bt n 4, bt n 5, bt n 6] := rfl
  rw [e]
  simp only [lastB, dv, bt, Nat.reduceSub, Nat.reduceMul, Int.reducePow]
  have e1 : n / 256 / 256 = n / 65536 := by omega
  have e2 : n / 65536 / 256 = n / 16777216 := by omega
  have e3 : n / 16777216 / 256 = n / 4294967296 := by omega
  have e4 : n / 4294967296 / 256 = n / 1099511627776 := by omega
  have e5 : n / 1099511627776 / 256 = n / 281474976710656 := by omega
  rw [e1, e2, e3, e4, e5]
  simp
theorem okT_more (l : List Int) (n : Int) (h : 7 * (l.length : Int) < n) : okT l n = false := okT_len l n (by unfold nW; omega)
theorem okT_below (l : List Int) (n : Int) (k : Nat) (hk : k < l.length) (h : l[k] < 0) : okT l n = false := by
  refine decide_eq_false (fun e => ?_)
  have hm : l[k] ∈ wsl (txL l n.toNat) := by rw [e.2.2]; exact List.getElem_mem hk
  have := wUp_bd _ _ _ hm
  omega
theorem okT_ws2 (l : List Int) (n : Int) (h0 : 0 ≤ n) (h : n ≤ 7 * (l.length : Int)) : okT l n = decide (wsl (txL l n.toNat) = l) := by
  unfold okT; rw [decide_eq_decide]
  refine ⟨fun e => e.2.2, fun e => ⟨h0, ?_, e⟩⟩
  have h1 := wsl_length (txL l n.toNat)
  rw [txL_length, e] at h1
  rw [h1]; congr 1; omega
set_option maxRecDepth 100000 in
set_option maxHeartbeats 2000000 in
theorem textR_any (v : Value) (zs : List Int) (n : Int) (w : World) (hv : Rd w v zs) :
    Calls Tryz.prog 75 #[v, .int .i64 n] w fun e w' => e = .returned (.tuple #[.string (txS zs n), .int .i64 (txE zs n)]) ∧ Below w.heap.size w w' := by
  obtain ⟨i0, hi, hz0, hz1, hz2⟩ := info_parts Tryz.info5
  have hv' := hv
  obtain ⟨zb, zl, a, cap, rfl, ha⟩ := hv
  clear ha
  by_cases h0 : n < 0
  · have hk := okT_neg zs n h0
    go_enter Tryz.func75, Tryz.ntmps75
    go_wp2
    go_ret2
    exact ⟨ret_text (txS_no hk) (txE_no hk), Below.refl _ _⟩
  · by_cases hl : 7 * (zs.length : Int) < n
    · have hk := okT_more zs n hl
      have h0' : 0 ≤ n := by omega
      go_enter Tryz.func75, Tryz.ntmps75
      go_wp2
      go_ret2
      exact ⟨ret_text (txS_no hk) (txE_no hk), Below.refl _ _⟩
    · have h0' : 0 ≤ n := by omega
      have hl' : n ≤ 7 * (zs.length : Int) := by omega
      clear h0 hl
      go_enter Tryz.func75, Tryz.ntmps75
      go_wp2
      go_loopw [6, 7] (fun t6 t7 w1 => ∃ k : Nat, k ≤ zs.length ∧ t7 = .int .i64 k ∧ w1.ownsRow w.heap.size 5 1 t6 (7 * k) ((txB (zs.take k)).map (Value.int .u8)) ∧ Below w.heap.size w w1) (fun _ t7 _ => zs.length - (Go.RowKit.intOf t7).toNat)
      case atStart => exact ⟨0, by omega, rfl, World.ownsRow_nil _ _ _ _, Below.refl _ _⟩
      case round =>
        obtain ⟨k, hk, rfl, hown, hbel⟩ := hrel
        by_cases hlt : k < zs.length
        · have hltI : (k : Int) < (zs.length : Int) := by omega
          obtain ⟨b, off, rfl, hc⟩ := (hv'.below hbel).at k hlt
          by_cases hneg : zs[k] < 0
          · have hk := okT_below zs n k hlt hneg
            go_wp2
            go_ret2
            exact ⟨ret_text (txS_no hk) (txE_no hk), hbel⟩
          · have hd := dv_bd zs[k] (by omega) (zb _ (List.getElem_mem hlt)).2
            go_wp2
            go_loopw [8, 9, 10] (fun t8 t9 t10 w1 => ∃ j : Nat, j ≤ 7 ∧ t10 = .int .i64 j ∧ t9 = .int .i64 (dv zs[k] j) ∧ w1.ownsRow w.heap.size 5 1 t8 j ((lastB zs[k] j).map (Value.int .u8)) ∧ w1.ownsRow w.heap.size 5 1 u6 (7 * k) ((txB (zs.take k)).map (Value.int .u8)) ∧ Below w.heap.size w w1) (fun _ _ t10 _ => 7 - (Go.RowKit.intOf t10).toNat)
            case atStart => exact ⟨0, by omega, rfl, rfl, World.ownsRow_nil _ _ _ _, hown, hbel⟩
            case round =>
              obtain ⟨j, hj, rfl, rfl, hown2, hown, hbel⟩ := hrel
              obtain ⟨d0, d1⟩ := hd j
              by_cases hlt2 : j < 7
              · have hsz := hbel.size
                go_wp2_with (at_builtin; refine wpList_append_two rfl _ _ 127 rfl w.heap.size w.heap.size 5 i0 (.int .u8 0) 1 1 Tryz.underlying127 hi hz0 hz1 hz2 rfl (by decide) (.slice (some ⟨wr.heap.size, 0, none⟩) 1 1) 1 [.int .u8 (dv zs[k] j % 256)] rfl (by exact World.ownsRow_lit _ _ 1 (by omega) (by unfold maxLen; omega) rfl) _ j _ rfl (hown2.alloc _) (fun u hu => by obtain ⟨y, _, rfl⟩ := List.mem_map.1 hu; rfl) (by unfold maxLen; omega) (by omega) (by simp; omega) ?_; intro v' w3 hown' hgrow3)
                have hb3 : Below w.heap.size w w3 := (hbel.alloc hsz _).grown hgrow3 (by simp; omega) (by intro q hq; cases hq; exact hsz)
                have hown3 := (hown.alloc (.cells #[.int .u8 (dv zs[k] j % 256)] 5)).kept hgrow3 (.inr (fun e => absurd (hown.lt _ e).2 (Nat.lt_irrefl _)))
                rw [Nat.add_comm 1 j] at hown'
                go_roundw
                case rel => exact ⟨j + 1, by omega, by go_num, rfl, hown', hown3, hb3⟩
                case measure => simp [Go.RowKit.intOf]; omega
              · obtain rfl : j = 7 := by omega
                have hsz := hbel.size
                rw [lastB_7] at hown2
                go_wp2_with (at_builtin; refine wpList_append_two rfl _ _ 127 rfl w.heap.size w.heap.size 5 i0 (.int .u8 0) 1 1 Tryz.underlying127 hi hz0 hz1 hz2 rfl (by decide) _ (7 * k) _ rfl hown _ 7 _ rfl hown2 (fun u hu => by obtain ⟨y, _, rfl⟩ := List.mem_map.1 hu; rfl) (by unfold maxLen; omega) (by omega) hsz ?_; intro v' w3 hown' hgrow3)
                have hb3 : Below w.heap.size w w3 := hbel.grown hgrow3 hsz (by intro q hq; exact (hown.lt q hq).1)
                go_roundw
                case rel => exact ⟨k + 1, by omega, by go_num, by rw [Nat.mul_add, List.take_succ_eq_append_getElem hlt, txB_append]; simpa [txB] using hown', hb3⟩
                case measure => simp [Go.RowKit.intOf]; omega
        · obtain rfl : k = zs.length := by omega
          have hsz : (tx zs n.toNat).size ≤ 7000 := by
            have := txL_length zs n.toNat
            unfold txL at this
            have e : (tx zs n.toNat).data.toList.length = (tx zs n.toNat).size := by simp
            omega
          have hk0 := okT_ws2 zs n h0' hl'
          rw [List.take_length] at hown
          rcases hown.2 with ⟨rfl, hz⟩ | ⟨g, c, cur, rfl, _, _, hle, _⟩
          · have hn0 : n = 0 := by omega
            have hz0' : zs = [] := List.eq_nil_of_length_eq_zero (by omega)
            subst hn0
            subst hz0'
            have hcv : (convert 127 9 (.slice none 0 0)).run Tryz.prog wr = .ok (.string ByteArray.empty) wr := run_convert_bytes_nil wr 127 5 Tryz.underlying127 Tryz.underlying5 0 0 9 Tryz.underlying9
            have hk : okT [] 0 = true := by decide +kernel
            have hE : wsl ByteArray.empty.data.toList = [] := rfl
            have e0 : ByteArray.empty.size ≤ 7000 := by decide
            have T : Hid (Ending.returned (.tuple #[.string ByteArray.empty, .int .i64 0]) = .returned (.tuple #[.string (txS [] 0), .int .i64 (txE [] 0)])) := ret_text (txS_yes hk) (txE_yes hk)
            clear hown hk hk0 hsz
            go_wp2_with (first
              | (go_at_call 104; refine (wordsR_any _ _ e0).mono ?_; rw [hE]; rintro e w2 ⟨v2, rfl, hr2, hb2⟩)
              | (go_at_call 72; refine (numbers_any _ _ _ _ _ hr2 (hv'.below (bstep hbel hb2))).mono ?_; rintro e w3 ⟨rfl, hb3⟩))
            go_ret2
            exact ⟨T.out, bstep (bstep hbel hb2) hb3⟩
          · have hcap : n ≤ (c : Int) := by omega
            have hcv : (convert 127 9 (.slice (some ⟨g, 0, none⟩) n.toNat c)).run Tryz.prog wr = .ok (.string (tx zs n.toNat)) wr := by
              refine run_convert_bytes_arg wr 127 5 Tryz.underlying127 Tryz.underlying5 g 0 n.toNat c ((txB zs).take n.toNat) (by rw [List.length_take, txB_length]; omega) ?_ 9 Tryz.underlying9
              intro i hi'
              have hil : i < (txB zs).length := by rw [txB_length]; omega
              have := hown.cells rfl i (.int .u8 ((txB zs)[i])) (by simp [List.getElem?_eq_getElem hil])
              rw [Addr.add_lit] at this
              rw [this]
              simp [List.getD, hi', List.getElem?_eq_getElem hil]
            clear hown hle
            by_cases hE : wsl (tx zs n.toNat).data.toList = zs
            · have hE2 : decide (wsl (tx zs n.toNat).data.toList = zs) = true := decide_eq_true hE
              have hk : okT zs n = true := hk0.trans hE2
              clear hE hk0
              go_wp2_with (first
                | (go_at_call 104; refine (wordsR_any _ _ hsz).mono ?_; rintro e w2 ⟨v2, rfl, hr2, hb2⟩)
                | (go_at_call 72; refine (numbers_any _ _ _ _ _ hr2 (hv'.below (bstep hbel hb2))).mono ?_; rintro e w3 ⟨rfl, hb3⟩))
              go_ret2
              exact ⟨ret_text (txS_yes hk) (txE_yes hk), bstep (bstep hbel hb2) hb3⟩
            · have hE2 : decide (wsl (tx zs n.toNat).data.toList = zs) = false := decide_eq_false hE
              have hk : okT zs n = false := hk0.trans hE2
              clear hE hk0
              go_wp2_with (first
                | (go_at_call 104; refine (wordsR_any _ _ hsz).mono ?_; rintro e w2 ⟨v2, rfl, hr2, hb2⟩)
                | (go_at_call 72; refine (numbers_any _ _ _ _ _ hr2 (hv'.below (bstep hbel hb2))).mono ?_; rintro e w3 ⟨rfl, hb3⟩))
              go_ret2
              exact ⟨ret_text (txS_no hk) (txE_no hk), bstep (bstep hbel hb2) hb3⟩
end Go.Proofs.YtcgclhahonndbaaGreat.Ky
namespace Go.Proofs.YtcgclhahonndbaaGreat.Ky
open Go.RowKit
end Go.Proofs.YtcgclhahonndbaaGreat.Ky
namespace Go.Proofs.YtcgclhahonndbaaGreat.Ky
open Go.RowKit
/-- Words that are a text's of as many bytes are its own words. -/
theorem back_only (ys : List Int) (s : ByteArray) (h : okT ys (s.size : Int) = true) : txS ys (s.size : Int) = s ↔ ys = wsl s.data.toList := by
  rw [← txS_yes h]
  have h3 := (of_decide_eq_true h).2.2
  rw [Int.toNat_natCast] at *
  constructor
  · intro e
    unfold txL at h3
    rw [e] at h3
    exact h3.symm
  · intro e; rw [e]; exact tx_of s
theorem back_S (s : ByteArray) : txS (wsl s.data.toList) (s.size : Int) = s := (back_only _ s (okT_of s)).2 rfl
theorem back_E (s : ByteArray) : txE (wsl s.data.toList) (s.size : Int) = 0 := (txE_yes (okT_of s)).symm
end Go.Proofs.YtcgclhahonndbaaGreat.Ky
namespace Go.Proofs.YtcgclhahonndbaaGreat.Sm
open Go.RowKit
end Go.Proofs.YtcgclhahonndbaaGreat.Sm
namespace Go.Proofs.YtcgclhahonndbaaGreat
open Go.RowKit
theorem Rc.ext' {x y : Rc} (h1 : x.k = y.k) (h2 : x.key = y.key) (h3 : x.val = y.val) (h4 : x.ch = y.ch) : x = y := by
  cases x; cases y; simp_all
/-- A text with bytes 0 behind. -/
def padT (s : ByteArray) : ByteArray := ⟨(s.data.toList ++ List.replicate (21 - s.size) 0).toArray⟩
theorem padT_list (s : ByteArray) : (padT s).data.toList = s.data.toList ++ List.replicate (21 - s.size) 0 := by simp [padT]
theorem padT_size (s : ByteArray) (h : s.size ≤ 21) : (padT s).size = 21 := by
  rw [← ba_list, padT_list, List.length_append, ba_list, List.length_replicate]
  omega
theorem padT_byt (s : ByteArray) (i : Nat) : Ky.byt (padT s).data.toList i = Ky.byt s.data.toList i := by
  rw [padT_list]
  by_cases h : i < s.data.toList.length
  · unfold Ky.byt
    rw [List.getElem?_append_left h]
  · rw [Ky.byt_out s.data.toList i (by omega)]
    unfold Ky.byt
    rw [List.getElem?_append_right (by omega), List.getElem?_replicate]
    split <;> rfl
theorem wAt_pad (s : ByteArray) (i : Nat) : Ky.wAt (padT s).data.toList i = Ky.wAt s.data.toList i := by
  unfold Ky.wAt
  congr 1
  funext j
  exact padT_byt s _
theorem wAt_out (l : List UInt8) (i : Nat) (h : Ky.nW l.length ≤ i) : Ky.wAt l i = 0 := by
  have : ∀ k, Ky.w7 (fun j => Ky.byt l (7 * i + j)) k = 0 := by
    intro k
    induction k with
    | zero => rfl
    | succ k ih =>
      show Ky.w7 (fun j => Ky.byt l (7 * i + j)) k * 256 + Ky.byt l (7 * i + k) = 0
      rw [ih, Ky.byt_out l _ (by unfold Ky.nW at h; omega)]
      rfl
  exact this 7
theorem p3_words (s : ByteArray) (h : s.size ≤ 21) : p3 (Ky.wsl s.data.toList) = Ky.wsl (padT s).data.toList := by
  have hl := wsl_small s h
  refine List.ext_getElem? fun i => ?_
  by_cases hi : i < 3
  · rw [Ky.wsl_get (padT s).data.toList i (by rw [ba_list, padT_size s h]; unfold Ky.nW; omega), wAt_pad]
    unfold p3
    by_cases hi2 : i < Ky.nW s.data.toList.length
    · rw [List.getElem?_append_left (by rw [Ky.wsl_length]; exact hi2), Ky.wsl_get _ _ hi2]
    · rw [List.getElem?_append_right (by rw [Ky.wsl_length]; omega), List.getElem?_replicate, if_pos (by rw [Ky.wsl_length] at *; omega), wAt_out _ _ (by omega)]
  · rw [List.getElem?_eq_none (by rw [p3_length hl]; omega), List.getElem?_eq_none (by rw [Ky.wsl_length, ba_list, padT_size s h]; unfold Ky.nW; omega)]
theorem beg_back (s : ByteArray) (h : s.size ≤ 21) : begS (p3 (Ky.wsl s.data.toList)) (s.size : Int) = s := by
  have h1 := Ky.okT_of (padT s)
  have h2 := Ky.back_S (padT s)
  rw [padT_size s h] at h1 h2
  rw [p3_words s h]
  unfold begS
  rw [if_pos ⟨h1, by omega, by omega⟩, show ((21 : Nat) : Int) = 21 from rfl] at *
  rw [h2]
  refine Ky.ba_ext ?_
  rw [Ky.ext_list, padT_list, Int.toNat_natCast, List.drop_zero, Nat.sub_zero, List.take_append_of_le_length (by rw [ba_list]; omega), List.take_of_length_le (by rw [ba_list]; omega)]
theorem imL_0 (x : Rc) : (imL x)[0]?.getD 0 = x.k := rfl
theorem imL_1 (x : Rc) : (imL x)[1]?.getD 0 = 32 * (x.key.size : Int) + (x.val.size : Int) := rfl
theorem imL_drop3 (x : Rc) : (imL x).drop 3 = bdL x := rfl
theorem imL_key {x : Rc} (h : OkR x) : ((imL x).drop 3).take 3 = kwL x := by
  rw [imL_drop3]
  unfold bdL
  rw [List.take_append_of_le_length (by rw [kwL_length h]; omega), List.take_of_length_le (by rw [kwL_length h]; omega)]
theorem imL_drop6 {x : Rc} (h : OkR x) : (imL x).drop 6 = vwL x ++ List.replicate 7 0 := by
  rw [show (6 : Nat) = 3 + 3 from rfl, ← List.drop_drop, imL_drop3]
  unfold bdL
  rw [List.drop_append_of_le_length (by rw [kwL_length h]; omega), List.drop_of_length_le (by rw [kwL_length h]; omega), List.nil_append]
theorem imL_val {x : Rc} (h : OkR x) : ((imL x).drop 6).take 3 = vwL x := by
  rw [imL_drop6 h, List.take_append_of_le_length (by rw [vwL_length h]; omega), List.take_of_length_le (by rw [vwL_length h]; omega)]
theorem ba_nil {s : ByteArray} (h : s.size = 0) : s = ByteArray.empty := Ky.ba_ext (by rw [show s.data.toList = [] from List.eq_nil_of_length_eq_zero (by rw [ba_list]; exact h)]; rfl)
theorem gs_back {x : Rc} (h : OkR x) : gsR (imL x) = x := by
  have hk := h.key
  have hv := h.val
  have e1 : (32 * (x.key.size : Int) + (x.val.size : Int)).tdiv 32 = (x.key.size : Int) := by
    rw [Int.tdiv_eq_ediv_of_nonneg (by omega)]; omega
  have e2 : (32 * (x.key.size : Int) + (x.val.size : Int)).tmod 32 = (x.val.size : Int) := by
    rw [Int.tmod_eq_emod_of_nonneg (by omega)]; omega
  refine Rc.ext' rfl ?_ ?_ ?_
  · show begS _ _ = _
    rw [imL_key h, imL_1, e1]
    exact beg_back _ hk
  · show (if (imL x)[0]?.getD 0 = 2 then _ else begS _ _) = _
    rw [imL_0, imL_val h, imL_1, e2]
    by_cases h2 : x.k = 2
    · rw [if_pos h2]
      rcases h with h | h
      · omega
      · exact (ba_nil h.2.2.1).symm
    · rw [if_neg h2]
      unfold vwL
      rw [if_neg h2]
      exact beg_back _ hv
  · show (if (imL x)[0]?.getD 0 = 2 then (imL x)[6]?.getD 0 else 0) = _
    rw [imL_0]
    by_cases h2 : x.k = 2
    · rw [if_pos h2]
      have := imL_drop6 h
      have e : (imL x)[6]? = ((imL x).drop 6)[0]? := by simp
      rw [e, this]
      unfold vwL
      rw [if_pos h2]
      rfl
    · rw [if_neg h2]
      rcases h with h | h
      · exact h.2.2.2.2.symm
      · exact absurd h.1 h2
theorem isR_of {x : Rc} (h : OkR x) : isR (imL x) = true := by
  unfold isR
  rw [gs_back h]
  simp [rcB_iff0, h]
theorem isR_iff {L : List Int} : isR L = true ↔ OkR (gsR L) ∧ imL (gsR L) = L := by simp [isR, rcB_iff0]
theorem isR_ex {L : List Int} : isR L = true ↔ ∃ x, OkR x ∧ imL x = L := ⟨fun h => ⟨_, isR_iff.1 h⟩, fun ⟨x, h1, h2⟩ => by rw [← h2]; exact isR_of h1⟩
end Go.Proofs.YtcgclhahonndbaaGreat
namespace Go.Proofs.YtcgclhahonndbaaGreat
open Go.RowKit Go.Shelf
set_option linter.unusedVariables false
end Go.Proofs.YtcgclhahonndbaaGreat
namespace Go.Proofs.YtcgclhahonndbaaGreat
open Go.RowKit Go.Shelf
set_option linter.unusedVariables false
theorem rd_one (W : World) (x : Int) {b : Nat} (hb : b = W.heap.size) : Rd (W.alloc (.cells #[.int .i64 x] 3)) (.slice (some ⟨b, 0, none⟩) 1 1) [x] := by
  subst hb
  refine ⟨rfl, by simp, some ⟨W.heap.size, 0, none⟩, 1, rfl, Nat.le_refl _, .inr ⟨W.heap.size, 0, rfl, by simp, ?_⟩⟩
  intro j u hj
  match j, hj with
  | 0, hj => cases hj; simp
end Go.Proofs.YtcgclhahonndbaaGreat
