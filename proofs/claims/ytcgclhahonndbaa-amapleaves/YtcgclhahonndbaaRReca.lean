/- Set over from a lower layer: RRecnum. · Set over from a lower layer: RReca. -/
import Derived.Test.YtcgclhahonndbaaSSumz
import Derived.Test.YtcgclhahonndbaaBase
import Derived.Test.YtcgclhahonndbaaRKeywalke
import Derived.Deep.QuietTactic
import Derived.BigQuiet
import Derived.WalkSmall
import Derived.Laws.BitsAllLaws
import Derived.Deep.MidRow
import Derived.Deep.OwnRows
import Derived.Lib.SliceRun
import Derived.Deep.RegionHeld3
import Derived.Laws.ResultCell
import Derived.Deep.AppendLies
import Derived.Shelf.Abstract
import Derived.Deep.RegionWith
import Derived.Laws.CopyOwn
import Derived.RangeFuncBox
import Derived.RangeFuncNested
import Derived.RangeFuncBound
import Derived.RangeFuncCalls
import Derived.RangeFuncLeaves
import Derived.Shelf.RegionOpen
import Derived.OwnWalkIn
import Derived.TacticsInMore
import Derived.LoopNIn
import Derived.LoopIn
import Derived.Maps.AppendAt
import Derived.Shelf.SlSortCmp.QuietGrown
namespace Go.Proofs.Ytcgclhahonndbaa.Sm
open Go.RowKit
end Go.Proofs.Ytcgclhahonndbaa.Sm
namespace Go.Proofs.Ytcgclhahonndbaa
open Go.RowKit
/-- A record. -/
structure Rc where
  k : Int
  key : ByteArray
  val : ByteArray
  ch : Int
/-- A record that may be. -/
def OkR (x : Rc) : Prop := (x.k = 1 ∧ 1 ≤ x.key.size ∧ x.key.size ≤ 21 ∧ x.val.size ≤ 21 ∧ x.ch = 0) ∨ (x.k = 2 ∧ x.key.size ≤ 21 ∧ x.val.size = 0 ∧ 1 ≤ x.ch ∧ x.ch < 256)
def OkR.dec (x : Rc) : Decidable (OkR x) := by unfold OkR; exact inferInstance
def rcB (x : Rc) : Bool := @decide (OkR x) (OkR.dec x)
theorem rcB_iff0 {x : Rc} : rcB x = true ↔ OkR x := @decide_eq_true_iff _ (OkR.dec x)
theorem OkR.key {x : Rc} (h : OkR x) : x.key.size ≤ 21 := by rcases h with h | h <;> omega
theorem OkR.val {x : Rc} (h : OkR x) : x.val.size ≤ 21 := by rcases h with h | h <;> omega
/-- Three words: those of a text, and 0. -/
def p3 (l : List Int) : List Int := l ++ List.replicate (3 - l.length) 0
theorem p3_length {l : List Int} (h : l.length ≤ 3) : (p3 l).length = 3 := by simp [p3]; omega
def hdL (x : Rc) : List Int := [x.k, 32 * (x.key.size : Int) + (x.val.size : Int)]
def kwL (x : Rc) : List Int := p3 (Ky.wsl x.key.data.toList)
def vwL (x : Rc) : List Int := if x.k = 2 then [x.ch, 0, 0] else p3 (Ky.wsl x.val.data.toList)
def bdL (x : Rc) : List Int := kwL x ++ (vwL x ++ List.replicate 7 0)
/-- A record's words. -/
def imL (x : Rc) : List Int := hdL x ++ ((Sm.ofF (hdL x ++ bdL x) : Nat) : Int) :: bdL x
theorem ba_list (s : ByteArray) : s.data.toList.length = s.size := by simp
theorem wsl_small (s : ByteArray) (h : s.size ≤ 21) : (Ky.wsl s.data.toList).length ≤ 3 := by
  rw [Ky.wsl_length, ba_list]
  unfold Ky.nW
  omega
theorem kwL_length {x : Rc} (h : OkR x) : (kwL x).length = 3 := p3_length (wsl_small _ h.key)
theorem vwL_length {x : Rc} (h : OkR x) : (vwL x).length = 3 := by
  unfold vwL
  split
  · rfl
  · exact p3_length (wsl_small _ h.val)
theorem bdL_length {x : Rc} (h : OkR x) : (bdL x).length = 13 := by
  unfold bdL
  rw [List.length_append, List.length_append, kwL_length h, vwL_length h, List.length_replicate]
theorem imL_length {x : Rc} (h : OkR x) : (imL x).length = 16 := by
  unfold imL
  rw [List.length_append, List.length_cons, bdL_length h]
  rfl
/-- The first n bytes of the text of 21 that l are. -/
def begS (l : List Int) (n : Int) : ByteArray := if Ky.okT l 21 = true ∧ 0 ≤ n ∧ n ≤ 21 then (Ky.txS l 21).extract 0 n.toNat else ByteArray.empty
/-- The record that can have these words. -/
def gsR (L : List Int) : Rc :=
  { k := L[0]?.getD 0
    key := begS ((L.drop 3).take 3) ((L[1]?.getD 0).tdiv 32)
    val := if L[0]?.getD 0 = 2 then ByteArray.empty else begS ((L.drop 6).take 3) ((L[1]?.getD 0).tmod 32)
    ch := if L[0]?.getD 0 = 2 then L[6]?.getD 0 else 0 }
/-- These sixteen words are a record's. -/
def isR (L : List Int) : Bool := rcB (gsR L) && decide (imL (gsR L) = L)
end Go.Proofs.Ytcgclhahonndbaa
namespace Go.Proofs.Ytcgclhahonndbaa
open Go.RowKit Go.Shelf
set_option linter.unusedVariables false
/-- What is read here is read in the layers of keys and of checks. -/
theorem Rd.ky {W : World} {v : Value} {zs : List Int} (h : Rd W v zs) (hb : Fits zs) : Ky.Rd W v zs := by
  obtain ⟨h1, h2, a, cap, rfl, h0, h3⟩ := h
  refine ⟨hb, h2, a, cap, rfl, ?_⟩
  rcases h3 with ⟨h, _⟩ | ⟨b, off, rfl, hlt, hc⟩
  · exact .inl (List.eq_nil_of_length_eq_zero h)
  · exact .inr ⟨b, off, rfl, hlt, fun j hj => hc j _ (by simp [List.getElem?_eq_getElem hj])⟩
theorem Rd.own {W : World} {base : Nat} {v : Value} {n : Nat} {zs : List Int} (h : W.ownsRow base 3 1 v n (zs.map (Value.int .i64))) (hl : zs.length ≤ 1000) : Rd W v zs := by
  have hc := h
  have hn : zs.length = n := by simpa using h.1
  subst hn
  rcases h.2 with ⟨rfl, h0⟩ | ⟨g, cap, cur, rfl, _, hg, hcap, _⟩
  · exact ⟨by simp, hl, none, 0, by rw [h0], by omega, .inl ⟨h0, fun _ => rfl⟩⟩
  · refine ⟨by simp, hl, some ⟨g, 0, none⟩, cap, rfl, hcap, .inr ⟨g, 0, rfl, (Array.getElem?_eq_some_iff.1 hg).1, ?_⟩⟩
    intro j u hu
    have := hc.cells rfl j u hu
    rwa [Addr.add_lit] at this
theorem ne_toList {s : ByteArray} (h : s.size ≠ 0) : s.toList.isEmpty = false ∧ ¬ s.toList = [] := by
  have he := Ky.empty_size s
  rw [decide_eq_false h] at he
  exact ⟨he, by simpa using he⟩
theorem eq_toList {s : ByteArray} (h : s.size = 0) : s.toList.isEmpty = true ∧ s.toList = [] := by
  have he := Ky.empty_size s
  rw [decide_eq_true h] at he
  exact ⟨he, by simpa using he⟩
theorem rcB_iff {x : Rc} : rcB x = true ↔ OkR x := rcB_iff0
theorem rcB_1 {x : Rc} (h : x.k = 1) : rcB x = (Ky.chk x.key && Ky.chkV x.val && decide (x.ch = 0)) := by
  rw [Bool.eq_iff_iff, rcB_iff]
  simp only [Ky.chk, Ky.chkV, Bool.and_eq_true, decide_eq_true_eq, OkR]
  omega
theorem rcB_2 {x : Rc} (h : x.k = 2) : rcB x = ((decide (x.key.size = 0) || Ky.chk x.key) && decide (x.val.size = 0) && decide (1 ≤ x.ch) && decide (x.ch < 256)) := by
  rw [Bool.eq_iff_iff, rcB_iff]
  simp only [Ky.chk, Bool.and_eq_true, Bool.or_eq_true, decide_eq_true_eq, OkR]
  omega
theorem rcB_3 {x : Rc} (h1 : x.k ≠ 1) (h2 : x.k ≠ 2) : rcB x = false := @decide_eq_false _ (OkR.dec x) (by unfold OkR; omega)
set_option maxRecDepth 100000 in
set_option maxHeartbeats 2000000 in
theorem rcheck_any (x : Rc) (w : World) : Calls Try.prog 43 #[.agg #[.int .i64 x.k, .string x.key, .string x.val, .int .i64 x.ch]] w fun e w' => e = .returned (.bool (rcB x)) ∧ Below w.heap.size w w' := by
  have B0 := (Below.refl w.heap.size w).alloc (Nat.le_refl _) (.cells #[.int .i64 x.k, .string x.key, .string x.val, .int .i64 x.ch] 48)
  by_cases h1 : x.k = 1
  · have H := rcB_1 h1
    have h1' : (x.k == 1) = true := by simpa using h1
    rw [h1] at h1' B0 ⊢
    generalize rcB x = r at H ⊢
    cases c1 : Ky.chk x.key with
    | false =>
      replace H : Hid (r = false) := by rw [c1] at H; exact H
      go_enter Try.func43, Try.ntmps43
      go_wp2_with (go_at_call 63; refine (Ky.check_any _ _).mono ?_; rintro e w' ⟨rfl, hw⟩; rw [hw, c1]; clear hw w')
      go_ret
      exact ⟨ret_bool H.out.symm, B0⟩
    | true =>
      cases c2 : Ky.chkV x.val with
      | false =>
        replace H : Hid (r = false) := by rw [c1, c2] at H; exact H
        go_enter Try.func43, Try.ntmps43
        go_wp2_with (first
          | (go_at_call 63; refine (Ky.check_any _ _).mono ?_; rintro e w' ⟨rfl, hw⟩; rw [hw, c1]; clear hw w')
          | (go_at_call 64; refine (Ky.checkV_any _ _).mono ?_; rintro e w' ⟨rfl, hw⟩; rw [hw, c2]; clear hw w'))
        go_ret
        exact ⟨ret_bool H.out.symm, B0⟩
      | true =>
        replace H : Hid (r = decide (x.ch = 0)) := by rw [c1, c2] at H; exact H
        go_enter Try.func43, Try.ntmps43
        go_wp2_with (first
          | (go_at_call 63; refine (Ky.check_any _ _).mono ?_; rintro e w' ⟨rfl, hw⟩; rw [hw, c1]; clear hw w')
          | (go_at_call 64; refine (Ky.checkV_any _ _).mono ?_; rintro e w' ⟨rfl, hw⟩; rw [hw, c2]; clear hw w'))
        go_ret
        exact ⟨ret_bool (by rw [H.out]; first | rfl | simp), B0⟩
  · have h1' : (x.k == 1) = false := by simpa using h1
    by_cases h2 : x.k = 2
    · have H := rcB_2 h2
      have h2' : (x.k == 2) = true := by simpa using h2
      clear h1
      rw [h2] at h1' h2' B0 ⊢
      generalize rcB x = r at H ⊢
      by_cases k0 : x.key.size = 0
      · obtain ⟨ke1, ke2⟩ := eq_toList k0
        rw [decide_eq_true k0] at H
        by_cases v0 : x.val.size = 0
        · obtain ⟨ve1, ve2⟩ := eq_toList v0
          rw [decide_eq_true v0] at H
          replace H : Hid (r = (decide (1 ≤ x.ch) && decide (x.ch < 256))) := show _ = _ by simpa using H
          clear k0 v0
          by_cases c3 : x.ch ≥ 1
          · go_enter Try.func43, Try.ntmps43
            go_wp2
            go_ret
            exact ⟨ret_bool (by rw [H.out, decide_eq_true (show 1 ≤ x.ch by omega)]; rfl), B0⟩
          · go_enter Try.func43, Try.ntmps43
            go_wp2
            go_ret
            exact ⟨ret_bool (by rw [H.out, decide_eq_false (show ¬ 1 ≤ x.ch by omega)]; rfl), B0⟩
        · obtain ⟨ve1, ve2⟩ := ne_toList v0
          replace H : Hid (r = false) := show _ = _ by simpa [v0] using H
          clear k0 v0
          go_enter Try.func43, Try.ntmps43
          go_wp2
          go_ret
          exact ⟨ret_bool H.out.symm, B0⟩
      · obtain ⟨ke1, ke2⟩ := ne_toList k0
        rw [decide_eq_false k0] at H
        cases c1 : Ky.chk x.key with
        | false =>
          replace H : Hid (r = false) := by rw [c1] at H; exact H
          clear k0
          go_enter Try.func43, Try.ntmps43
          go_wp2_with (go_at_call 63; refine (Ky.check_any _ _).mono ?_; rintro e w' ⟨rfl, hw⟩; rw [hw, c1]; clear hw w')
          go_ret
          exact ⟨ret_bool H.out.symm, B0⟩
        | true =>
          by_cases v0 : x.val.size = 0
          · obtain ⟨ve1, ve2⟩ := eq_toList v0
            rw [decide_eq_true v0, c1] at H
            replace H : Hid (r = (decide (1 ≤ x.ch) && decide (x.ch < 256))) := show _ = _ by simpa using H
            clear k0 v0
            by_cases c3 : x.ch ≥ 1
            · go_enter Try.func43, Try.ntmps43
              go_wp2_with (go_at_call 63; refine (Ky.check_any _ _).mono ?_; rintro e w' ⟨rfl, hw⟩; rw [hw, c1]; clear hw w')
              go_ret
              exact ⟨ret_bool (by rw [H.out, decide_eq_true (show 1 ≤ x.ch by omega)]; rfl), B0⟩
            · go_enter Try.func43, Try.ntmps43
              go_wp2_with (go_at_call 63; refine (Ky.check_any _ _).mono ?_; rintro e w' ⟨rfl, hw⟩; rw [hw, c1]; clear hw w')
              go_ret
              exact ⟨ret_bool (by rw [H.out, decide_eq_false (show ¬ 1 ≤ x.ch by omega)]; rfl), B0⟩
          · obtain ⟨ve1, ve2⟩ := ne_toList v0
            replace H : Hid (r = false) := show _ = _ by simpa [v0] using H
            clear k0 v0
            go_enter Try.func43, Try.ntmps43
            go_wp2_with (go_at_call 63; refine (Ky.check_any _ _).mono ?_; rintro e w' ⟨rfl, hw⟩; rw [hw, c1]; clear hw w')
            go_ret
            exact ⟨ret_bool H.out.symm, B0⟩
    · have h2' : (x.k == 2) = false := by simpa using h2
      have H : Hid (rcB x = false) := rcB_3 h1 h2
      clear h1 h2
      go_enter Try.func43, Try.ntmps43
      go_wp2
      go_ret
      exact ⟨ret_bool H.out.symm, B0⟩
end Go.Proofs.Ytcgclhahonndbaa
