/- Set over from a lower layer: RKeywalke. · Set over from a lower layer: RRecnum. · Set over from a lower layer: RReca. -/
import Derived.Test.YtcgclhahonndbaaGreatRKeywalka
import Derived.Test.YtcgclhahonndbaaGreatBase
import Derived.Test.YtcgclhahonndbaaGreatNNumz
import Derived.Test.YtcgclhahonndbaaGreatSSumz
import Derived.Test.YtcgclhahonndbaaGreatRKeywalkc
import Derived.Deep.QuietTactic
import Derived.BigQuiet
import Derived.WalkSmall
import Derived.Laws.BitsAllLaws
import Derived.Deep.MidRow
import Derived.Deep.OwnRows
import Derived.Lib.SliceRun
import Derived.Deep.RegionHeld3
import Derived.Laws.ResultCell
import Derived.Deep.AppendLies
import Derived.Shelf.Abstract
import Derived.Deep.RegionWith
import Derived.Laws.CopyOwn
import Derived.RangeFuncBox
import Derived.RangeFuncNested
import Derived.RangeFuncBound
import Derived.RangeFuncCalls
import Derived.RangeFuncLeaves
import Derived.Shelf.RegionOpen
import Derived.OwnWalkIn
import Derived.TacticsInMore
import Derived.LoopNIn
import Derived.LoopIn
import Derived.Maps.AppendAt
import Derived.Shelf.SlSortCmp.QuietGrown
namespace Go.Proofs.YtcgclhahonndbaaGreat.Ky
open Go.RowKit
theorem make_bytes (c : Nat) (h : c ≤ 7000) (w : World) : (Instr.makeSlice 127 (.int .i64 0) (.int .i64 (c : Int))).run Tryz.prog w = .ok (.slice (some ⟨w.heap.size, 0, none⟩) 0 c) (w.alloc (.cells (madeCells #[.int .u8 0] c) 5)) := by
  obtain ⟨i0, hi, hz0, hz1, hz2⟩ := info_parts Tryz.info5
  have := run_make (P := Tryz.prog) w 127 5 i0 (.int .u8 0) Tryz.underlying127 hi hz0 .i64 .i64 0 c (Int.le_refl _) (by omega) (by rw [hz2]; omega) (by omega)
  simpa [hz1, Value.cells] using this
theorem make_bytes7 (m : Nat) (h : m ≤ 1000) (w : World) : (Instr.makeSlice 127 (.int .i64 0) (.int .i64 ((m : Int) * 7))).run Tryz.prog w = .ok (.slice (some ⟨w.heap.size, 0, none⟩) 0 (m * 7)) (w.alloc (.cells (madeCells #[.int .u8 0] (m * 7)) 5)) :=
  make_bytes (m * 7) (by omega) w
theorem okT_neg (l : List Int) (n : Int) (h : n < 0) : okT l n = false := decide_eq_false (fun e => by omega)
theorem okT_len (l : List Int) (n : Int) (h : nW n.toNat ≠ l.length) : okT l n = false := decide_eq_false (fun e => h e.2.1)
theorem okT_ws (l : List Int) (n : Int) (h0 : 0 ≤ n) (h : nW n.toNat = l.length) : okT l n = decide (wsl (txL l n.toNat) = l) := by
  unfold okT; rw [decide_eq_decide]; exact ⟨fun e => e.2.2, fun e => ⟨h0, h, e⟩⟩
theorem ret_text {l : List Int} {n : Int} {s : ByteArray} {e : Int} (h1 : s = txS l n) (h2 : e = txE l n) : Ending.returned (.tuple #[.string s, .int .i64 e]) = .returned (.tuple #[.string (txS l n), .int .i64 (txE l n)]) := by rw [h1, h2]
theorem txS_no {l : List Int} {n : Int} (h : okT l n = false) : ByteArray.empty = txS l n := by unfold txS; rw [h]; rfl
theorem txE_no {l : List Int} {n : Int} (h : okT l n = false) : 20 = txE l n := by unfold txE; rw [h]; rfl
theorem txS_yes {l : List Int} {n : Int} (h : okT l n = true) : tx l n.toNat = txS l n := by unfold txS; rw [h]; rfl
theorem txE_yes {l : List Int} {n : Int} (h : okT l n = true) : 0 = txE l n := by unfold txE; rw [h]; rfl
set_option maxRecDepth 100000 in
set_option maxHeartbeats 2000000 in
theorem text_any (v : Value) (zs : List Int) (n : Int) (w : World) (hv : Rd w v zs) (hn : n < 9223372036854775808) :
    Calls Tryz.prog 127 #[v, .int .i64 n] w fun e w' => e = .returned (.tuple #[.string (txS zs n), .int .i64 (txE zs n)]) ∧ Below w.heap.size w w' := by
  obtain ⟨i0, hi, hz0, hz1, hz2⟩ := info_parts Tryz.info5
  have hv' := hv
  obtain ⟨zb, zl, a, cap, rfl, ha⟩ := hv
  clear ha
  by_cases h0 : n < 0
  · have hk := okT_neg zs n h0
    go_enter Tryz.func127, Tryz.ntmps127
    go_wp2
    go_ret2
    exact ⟨ret_text (txS_no hk) (txE_no hk), Below.refl _ _⟩
  · by_cases hl : nW n.toNat = zs.length
    · have hl2 : (((nW n.toNat : Nat) : Int) != (zs.length : Int)) = false := by simp [hl]
      have Hl : Hid (nW n.toNat = zs.length) := hl
      clear hl
      have h0' : 0 ≤ n := by omega
      have hmk := make_bytes7 zs.length zl
      have oR := World.ownsRow_made (base := w.heap.size) (e := 5) (size := 1) w (madeCells #[.int .u8 0] (zs.length * 7)) (zs.length * 7) (Nat.le_refl _) (by unfold maxLen; omega) (by rw [size_madeCells]; omega)
      go_enter Tryz.func127, Tryz.ntmps127
      go_wp2_with (go_at_call 78; refine (count_any _ _ (by omega) (by omega)).mono ?_; rintro e w' ⟨rfl, hw⟩; rw [hw]; clear hw w')
      go_loopw [6, 26] (fun t6 t26 w1 => ∃ (k : Nat) (g c : Nat), k ≤ zs.length ∧ t26 = .int .i64 k ∧ t6 = .slice (some ⟨g, 0, none⟩) (7 * k) c ∧ w1.ownsRow w.heap.size 5 1 (.slice (some ⟨g, 0, none⟩) (7 * k) c) (7 * k) ((txB (zs.take k)).map (Value.int .u8)) ∧ Below w.heap.size w w1) (fun _ t26 _ => zs.length - (intOf t26).toNat)
      case atStart => exact ⟨0, _, _, by omega, rfl, rfl, oR, (Below.refl _ w).alloc (Nat.le_refl _) _⟩
      case round =>
        obtain ⟨k, g, c, hk, rfl, rfl, hown, hbel⟩ := hrel
        by_cases hlt : k < zs.length
        · obtain ⟨b, off, rfl, hc⟩ := (hv'.below hbel).at k hlt
          go_wp2
          go_loopw [6, 30] (fun t6 t30 w1 => ∃ (j : Nat) (g c : Nat), j ≤ 7 ∧ t30 = .int .i64 j ∧ t6 = .slice (some ⟨g, 0, none⟩) (7 * k + j) c ∧ w1.ownsRow w.heap.size 5 1 (.slice (some ⟨g, 0, none⟩) (7 * k + j) c) (7 * k + j) ((txB (zs.take k) ++ bUp zs[k] j).map (Value.int .u8)) ∧ Below w.heap.size w w1) (fun _ t30 _ => 7 - (intOf t30).toNat)
          case atStart => exact ⟨0, _, _, by omega, rfl, rfl, by simpa [bUp] using hown, hbel⟩
          case round =>
            obtain ⟨j, g, c, hj, rfl, rfl, hown, hbel⟩ := hrel
            by_cases hlt2 : j < 7
            · have hbt : zs[k] / 2 ^ (8 * (6 - j)) % 256 = bt zs[k] j := rfl
              go_wp2_with (at_builtin; refine wpList_append_own _ rfl _ _ 127 rfl w.heap.size 5 i0 (.int .u8 0) 1 1 Tryz.underlying127 hi hz0 hz1 hz2 rfl (by decide) _ (7 * k + j) _ rfl (hown.alloc _) ⟨wr.heap.size, 0, none⟩ 1 1 [.int .u8 (bt zs[k] j)] rfl rfl (cell_one_new _ _ _) (by simp [Value.oneCell']) (by unfold maxLen; omega) (by omega) (by have := hbel.size; simp; omega) ?_; intro v' w3 hown' hgrow3 _; obtain ⟨g', cap', rfl⟩ := ownsRow_succ hown')
              have hsz := hbel.size
              have hb3 : Below w.heap.size w w3 := (hbel.alloc hsz _).grown hgrow3 (by simp; omega) (by intro q hq; exact (hown.lt q hq).1)
              go_roundw
              case rel => exact ⟨j + 1, g', cap', by omega, by go_num, rfl, by rw [bUp_succ, ← Nat.add_assoc]; simpa using hown', hb3⟩
              case measure => simp [intOf]; omega
            · obtain rfl : j = 7 := by omega
              go_wp2
              go_roundw
              case rel => exact ⟨k + 1, g, c, by omega, by go_num, by rw [Nat.mul_add], by rw [Nat.mul_add, List.take_succ_eq_append_getElem hlt, txB_append]; simpa [txB] using hown, hbel⟩
              case measure => simp [intOf]; omega
        · obtain rfl : k = zs.length := by omega
          have hnl : n.toNat ≤ 7 * zs.length := by have := Hl.out; unfold nW at this; omega
          have hcap : n ≤ (c : Int) := by
            rcases hown.2 with ⟨e, _⟩ | ⟨g2, c2, cur, e, _, _, hle, _⟩
            · cases e
            · cases e; omega
          have hcv : (convert 127 9 (.slice (some ⟨g, 0, none⟩) n.toNat c)).run Tryz.prog wr = .ok (.string (tx zs n.toNat)) wr := by
            refine run_convert_bytes_arg wr 127 5 Tryz.underlying127 Tryz.underlying5 g 0 n.toNat c ((txB zs).take n.toNat) (by rw [List.length_take, txB_length]; omega) ?_ 9 Tryz.underlying9
            intro i hi'
            have hil : i < (txB zs).length := by rw [txB_length]; omega
            rw [List.take_length] at hown
            have := hown.cells rfl i (.int .u8 ((txB zs)[i])) (by simp [List.getElem?_eq_getElem hil])
            rw [Addr.add_lit] at this
            rw [this]
            simp [List.getD, hi', List.getElem?_eq_getElem hil]
          have hsz : (tx zs n.toNat).size ≤ 7000 := by
            have := txL_length zs n.toNat
            unfold txL at this
            have e : (tx zs n.toNat).data.toList.length = (tx zs n.toNat).size := by simp
            omega
          have hk0 := okT_ws zs n h0' Hl.out
          clear hmk oR hown
          by_cases hE : wsl (tx zs n.toNat).data.toList = zs
          · have hE2 : decide (wsl (tx zs n.toNat).data.toList = zs) = true := decide_eq_true hE
            have hk : okT zs n = true := hk0.trans hE2
            clear hE hk0
            go_wp2_with (first
              | (go_at_call 56; refine (words_any _ _ hsz).mono ?_; rintro e w2 ⟨v2, rfl, _, hr2, hb2⟩)
              | (go_at_call 130; refine (equal_any _ _ _ _ _ hr2 (hv'.below (bstep hbel hb2))).mono ?_; rintro e w3 ⟨rfl, hb3⟩))
            go_ret2
            exact ⟨ret_text (txS_yes hk) (txE_yes hk), bstep (bstep hbel hb2) hb3⟩
          · have hE2 : decide (wsl (tx zs n.toNat).data.toList = zs) = false := decide_eq_false hE
            have hk : okT zs n = false := hk0.trans hE2
            clear hE hk0
            go_wp2_with (first
              | (go_at_call 56; refine (words_any _ _ hsz).mono ?_; rintro e w2 ⟨v2, rfl, _, hr2, hb2⟩)
              | (go_at_call 130; refine (equal_any _ _ _ _ _ hr2 (hv'.below (bstep hbel hb2))).mono ?_; rintro e w3 ⟨rfl, hb3⟩))
            go_ret2
            exact ⟨ret_text (txS_no hk) (txE_no hk), bstep (bstep hbel hb2) hb3⟩
    · have hk := okT_len zs n hl
      have hl2 : (((nW n.toNat : Nat) : Int) != (zs.length : Int)) = true := by simp; omega
      clear hl
      have h0' : 0 ≤ n := by omega
      go_enter Tryz.func127, Tryz.ntmps127
      go_wp2_with (go_at_call 78; refine (count_any _ _ (by omega) (by omega)).mono ?_; rintro e w' ⟨rfl, hw⟩; rw [hw]; clear hw w')
      go_ret2
      exact ⟨ret_text (txS_no hk) (txE_no hk), Below.refl _ _⟩
end Go.Proofs.YtcgclhahonndbaaGreat.Ky
namespace Go.Proofs.YtcgclhahonndbaaGreat.Ky
open Go.RowKit
end Go.Proofs.YtcgclhahonndbaaGreat.Ky
namespace Go.Proofs.YtcgclhahonndbaaGreat.Ky
open Go.RowKit
end Go.Proofs.YtcgclhahonndbaaGreat.Ky
namespace Go.Proofs.YtcgclhahonndbaaGreat.Ky
open Go.RowKit
end Go.Proofs.YtcgclhahonndbaaGreat.Ky
namespace Go.Proofs.YtcgclhahonndbaaGreat.Sm
open Go.RowKit
end Go.Proofs.YtcgclhahonndbaaGreat.Sm
namespace Go.Proofs.YtcgclhahonndbaaGreat
open Go.RowKit
/-- A record. -/
structure Rc where
  k : Int
  key : ByteArray
  val : ByteArray
  ch : Int
/-- A record that may be. -/
def OkR (x : Rc) : Prop := (x.k = 1 ∧ 1 ≤ x.key.size ∧ x.key.size ≤ 21 ∧ x.val.size ≤ 21 ∧ x.ch = 0) ∨ (x.k = 2 ∧ x.key.size ≤ 21 ∧ x.val.size = 0 ∧ 1 ≤ x.ch ∧ x.ch < 256)
def OkR.dec (x : Rc) : Decidable (OkR x) := by unfold OkR; exact inferInstance
def rcB (x : Rc) : Bool := @decide (OkR x) (OkR.dec x)
theorem rcB_iff0 {x : Rc} : rcB x = true ↔ OkR x := @decide_eq_true_iff _ (OkR.dec x)
theorem OkR.key {x : Rc} (h : OkR x) : x.key.size ≤ 21 := by rcases h with h | h <;> omega
theorem OkR.val {x : Rc} (h : OkR x) : x.val.size ≤ 21 := by rcases h with h | h <;> omega
/-- Three words: those of a text, and 0. -/
def p3 (l : List Int) : List Int := l ++ List.replicate (3 - l.length) 0
theorem p3_length {l : List Int} (h : l.length ≤ 3) : (p3 l).length = 3 := by simp [p3]; omega
def hdL (x : Rc) : List Int := [x.k, 32 * (x.key.size : Int) + (x.val.size : Int)]
def kwL (x : Rc) : List Int := p3 (Ky.wsl x.key.data.toList)
def vwL (x : Rc) : List Int := if x.k = 2 then [x.ch, 0, 0] else p3 (Ky.wsl x.val.data.toList)
def bdL (x : Rc) : List Int := kwL x ++ (vwL x ++ List.replicate 7 0)
/-- A record's words. -/
def imL (x : Rc) : List Int := hdL x ++ ((Sm.ofF (hdL x ++ bdL x) : Nat) : Int) :: bdL x
theorem ba_list (s : ByteArray) : s.data.toList.length = s.size := by simp
theorem wsl_small (s : ByteArray) (h : s.size ≤ 21) : (Ky.wsl s.data.toList).length ≤ 3 := by
  rw [Ky.wsl_length, ba_list]
  unfold Ky.nW
  omega
theorem kwL_length {x : Rc} (h : OkR x) : (kwL x).length = 3 := p3_length (wsl_small _ h.key)
theorem vwL_length {x : Rc} (h : OkR x) : (vwL x).length = 3 := by
  unfold vwL
  split
  · rfl
  · exact p3_length (wsl_small _ h.val)
theorem bdL_length {x : Rc} (h : OkR x) : (bdL x).length = 13 := by
  unfold bdL
  rw [List.length_append, List.length_append, kwL_length h, vwL_length h, List.length_replicate]
theorem imL_length {x : Rc} (h : OkR x) : (imL x).length = 16 := by
  unfold imL
  rw [List.length_append, List.length_cons, bdL_length h]
  rfl
/-- The first n bytes of the text of 21 that l are. -/
def begS (l : List Int) (n : Int) : ByteArray := if Ky.okT l 21 = true ∧ 0 ≤ n ∧ n ≤ 21 then (Ky.txS l 21).extract 0 n.toNat else ByteArray.empty
/-- The record that can have these words. -/
def gsR (L : List Int) : Rc :=
  { k := L[0]?.getD 0
    key := begS ((L.drop 3).take 3) ((L[1]?.getD 0).tdiv 32)
    val := if L[0]?.getD 0 = 2 then ByteArray.empty else begS ((L.drop 6).take 3) ((L[1]?.getD 0).tmod 32)
    ch := if L[0]?.getD 0 = 2 then L[6]?.getD 0 else 0 }
/-- These sixteen words are a record's. -/
def isR (L : List Int) : Bool := rcB (gsR L) && decide (imL (gsR L) = L)
end Go.Proofs.YtcgclhahonndbaaGreat
namespace Go.Proofs.YtcgclhahonndbaaGreat
open Go.RowKit Go.Shelf
set_option linter.unusedVariables false
/-- What is read here is read in the layers of keys and of checks. -/
theorem Rd.ky {W : World} {v : Value} {zs : List Int} (h : Rd W v zs) (hb : Fits zs) : Ky.Rd W v zs := by
  obtain ⟨h1, h2, a, cap, rfl, h0, h3⟩ := h
  refine ⟨hb, h2, a, cap, rfl, ?_⟩
  rcases h3 with ⟨h, _⟩ | ⟨b, off, rfl, hlt, hc⟩
  · exact .inl (List.eq_nil_of_length_eq_zero h)
  · exact .inr ⟨b, off, rfl, hlt, fun j hj => hc j _ (by simp [List.getElem?_eq_getElem hj])⟩
theorem Rd.own {W : World} {base : Nat} {v : Value} {n : Nat} {zs : List Int} (h : W.ownsRow base 3 1 v n (zs.map (Value.int .i64))) (hl : zs.length ≤ 1000) : Rd W v zs := by
  have hc := h
  have hn : zs.length = n := by simpa using h.1
  subst hn
  rcases h.2 with ⟨rfl, h0⟩ | ⟨g, cap, cur, rfl, _, hg, hcap, _⟩
  · exact ⟨by simp, hl, none, 0, by rw [h0], by omega, .inl ⟨h0, fun _ => rfl⟩⟩
  · refine ⟨by simp, hl, some ⟨g, 0, none⟩, cap, rfl, hcap, .inr ⟨g, 0, rfl, (Array.getElem?_eq_some_iff.1 hg).1, ?_⟩⟩
    intro j u hu
    have := hc.cells rfl j u hu
    rwa [Addr.add_lit] at this
theorem ne_toList {s : ByteArray} (h : s.size ≠ 0) : s.toList.isEmpty = false ∧ ¬ s.toList = [] := by
  have he := Ky.empty_size s
  rw [decide_eq_false h] at he
  exact ⟨he, by simpa using he⟩
theorem eq_toList {s : ByteArray} (h : s.size = 0) : s.toList.isEmpty = true ∧ s.toList = [] := by
  have he := Ky.empty_size s
  rw [decide_eq_true h] at he
  exact ⟨he, by simpa using he⟩
theorem rcB_iff {x : Rc} : rcB x = true ↔ OkR x := rcB_iff0
theorem rcB_1 {x : Rc} (h : x.k = 1) : rcB x = (Ky.chk x.key && Ky.chkV x.val && decide (x.ch = 0)) := by
  rw [Bool.eq_iff_iff, rcB_iff]
  simp only [Ky.chk, Ky.chkV, Bool.and_eq_true, decide_eq_true_eq, OkR]
  omega
theorem rcB_2 {x : Rc} (h : x.k = 2) : rcB x = ((decide (x.key.size = 0) || Ky.chk x.key) && decide (x.val.size = 0) && decide (1 ≤ x.ch) && decide (x.ch < 256)) := by
  rw [Bool.eq_iff_iff, rcB_iff]
  simp only [Ky.chk, Bool.and_eq_true, Bool.or_eq_true, decide_eq_true_eq, OkR]
  omega
theorem rcB_3 {x : Rc} (h1 : x.k ≠ 1) (h2 : x.k ≠ 2) : rcB x = false := @decide_eq_false _ (OkR.dec x) (by unfold OkR; omega)
set_option maxRecDepth 100000 in
set_option maxHeartbeats 2000000 in
theorem rcheck_any (x : Rc) (w : World) : Calls Tryz.prog 36 #[.agg #[.int .i64 x.k, .string x.key, .string x.val, .int .i64 x.ch]] w fun e w' => e = .returned (.bool (rcB x)) ∧ Below w.heap.size w w' := by
  have B0 := (Below.refl w.heap.size w).alloc (Nat.le_refl _) (.cells #[.int .i64 x.k, .string x.key, .string x.val, .int .i64 x.ch] 40)
  by_cases h1 : x.k = 1
  · have H := rcB_1 h1
    have h1' : (x.k == 1) = true := by simpa using h1
    rw [h1] at h1' B0 ⊢
    generalize rcB x = r at H ⊢
    cases c1 : Ky.chk x.key with
    | false =>
      replace H : Hid (r = false) := by rw [c1] at H; exact H
      go_enter Tryz.func36, Tryz.ntmps36
      go_wp2_with (go_at_call 54; refine (Ky.check_any _ _).mono ?_; rintro e w' ⟨rfl, hw⟩; rw [hw, c1]; clear hw w')
      go_ret
      exact ⟨ret_bool H.out.symm, B0⟩
    | true =>
      cases c2 : Ky.chkV x.val with
      | false =>
        replace H : Hid (r = false) := by rw [c1, c2] at H; exact H
        go_enter Tryz.func36, Tryz.ntmps36
        go_wp2_with (first
          | (go_at_call 54; refine (Ky.check_any _ _).mono ?_; rintro e w' ⟨rfl, hw⟩; rw [hw, c1]; clear hw w')
          | (go_at_call 55; refine (Ky.checkV_any _ _).mono ?_; rintro e w' ⟨rfl, hw⟩; rw [hw, c2]; clear hw w'))
        go_ret
        exact ⟨ret_bool H.out.symm, B0⟩
      | true =>
        replace H : Hid (r = decide (x.ch = 0)) := by rw [c1, c2] at H; exact H
        go_enter Tryz.func36, Tryz.ntmps36
        go_wp2_with (first
          | (go_at_call 54; refine (Ky.check_any _ _).mono ?_; rintro e w' ⟨rfl, hw⟩; rw [hw, c1]; clear hw w')
          | (go_at_call 55; refine (Ky.checkV_any _ _).mono ?_; rintro e w' ⟨rfl, hw⟩; rw [hw, c2]; clear hw w'))
        go_ret
        exact ⟨ret_bool (by rw [H.out]; first | rfl | simp), B0⟩
  · have h1' : (x.k == 1) = false := by simpa using h1
    by_cases h2 : x.k = 2
    · have H := rcB_2 h2
      have h2' : (x.k == 2) = true := by simpa using h2
      clear h1
      rw [h2] at h1' h2' B0 ⊢
      generalize rcB x = r at H ⊢
      by_cases k0 : x.key.size = 0
      · obtain ⟨ke1, ke2⟩ := eq_toList k0
        rw [decide_eq_true k0] at H
        by_cases v0 : x.val.size = 0
        · obtain ⟨ve1, ve2⟩ := eq_toList v0
          rw [decide_eq_true v0] at H
          replace H : Hid (r = (decide (1 ≤ x.ch) && decide (x.ch < 256))) := show _ = _ by simpa using H
          clear k0 v0
          by_cases c3 : x.ch ≥ 1
          · go_enter Tryz.func36, Tryz.ntmps36
            go_wp2
            go_ret
            exact ⟨ret_bool (by rw [H.out, decide_eq_true (show 1 ≤ x.ch by omega)]; rfl), B0⟩
          · go_enter Tryz.func36, Tryz.ntmps36
            go_wp2
            go_ret
            exact ⟨ret_bool (by rw [H.out, decide_eq_false (show ¬ 1 ≤ x.ch by omega)]; rfl), B0⟩
        · obtain ⟨ve1, ve2⟩ := ne_toList v0
          replace H : Hid (r = false) := show _ = _ by simpa [v0] using H
          clear k0 v0
          go_enter Tryz.func36, Tryz.ntmps36
          go_wp2
          go_ret
          exact ⟨ret_bool H.out.symm, B0⟩
      · obtain ⟨ke1, ke2⟩ := ne_toList k0
        rw [decide_eq_false k0] at H
        cases c1 : Ky.chk x.key with
        | false =>
          replace H : Hid (r = false) := by rw [c1] at H; exact H
          clear k0
          go_enter Tryz.func36, Tryz.ntmps36
          go_wp2_with (go_at_call 54; refine (Ky.check_any _ _).mono ?_; rintro e w' ⟨rfl, hw⟩; rw [hw, c1]; clear hw w')
          go_ret
          exact ⟨ret_bool H.out.symm, B0⟩
        | true =>
          by_cases v0 : x.val.size = 0
          · obtain ⟨ve1, ve2⟩ := eq_toList v0
            rw [decide_eq_true v0, c1] at H
            replace H : Hid (r = (decide (1 ≤ x.ch) && decide (x.ch < 256))) := show _ = _ by simpa using H
            clear k0 v0
            by_cases c3 : x.ch ≥ 1
            · go_enter Tryz.func36, Tryz.ntmps36
              go_wp2_with (go_at_call 54; refine (Ky.check_any _ _).mono ?_; rintro e w' ⟨rfl, hw⟩; rw [hw, c1]; clear hw w')
              go_ret
              exact ⟨ret_bool (by rw [H.out, decide_eq_true (show 1 ≤ x.ch by omega)]; rfl), B0⟩
            · go_enter Tryz.func36, Tryz.ntmps36
              go_wp2_with (go_at_call 54; refine (Ky.check_any _ _).mono ?_; rintro e w' ⟨rfl, hw⟩; rw [hw, c1]; clear hw w')
              go_ret
              exact ⟨ret_bool (by rw [H.out, decide_eq_false (show ¬ 1 ≤ x.ch by omega)]; rfl), B0⟩
          · obtain ⟨ve1, ve2⟩ := ne_toList v0
            replace H : Hid (r = false) := show _ = _ by simpa [v0] using H
            clear k0 v0
            go_enter Tryz.func36, Tryz.ntmps36
            go_wp2_with (go_at_call 54; refine (Ky.check_any _ _).mono ?_; rintro e w' ⟨rfl, hw⟩; rw [hw, c1]; clear hw w')
            go_ret
            exact ⟨ret_bool H.out.symm, B0⟩
    · have h2' : (x.k == 2) = false := by simpa using h2
      have H : Hid (rcB x = false) := rcB_3 h1 h2
      clear h1 h2
      go_enter Tryz.func36, Tryz.ntmps36
      go_wp2
      go_ret
      exact ⟨ret_bool H.out.symm, B0⟩
end Go.Proofs.YtcgclhahonndbaaGreat
