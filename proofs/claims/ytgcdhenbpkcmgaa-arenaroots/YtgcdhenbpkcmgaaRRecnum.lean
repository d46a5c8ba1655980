/- Set over from a lower layer: Recnum. -/
import Derived.Test.YtgcdhenbpkcmgaaSSumz
import Derived.Test.YtgcdhenbpkcmgaaBase
import Derived.Test.YtgcdhenbpkcmgaaRKeywalke
import Derived.Test.YtgcdhenbpkcmgaaRSumnums
import Derived.Deep.QuietTactic
import Derived.BigQuiet
import Derived.WalkSmall
import Derived.Laws.BitsAllLaws
import Derived.Deep.MidRow
import Derived.Deep.OwnRows
namespace Go.Proofs.Ytgcdhenbpkcmgaa.Sm
open Go.RowKit
theorem u64_bits (z : Int) : u64 z = (BitVec.ofInt 64 z).toNat := by
  rw [BitVec.toNat_ofInt]
  rfl
theorem u64_wrap (z : Int) : u64 (IntKind.i64.wrap z) = u64 z := by
  rw [IntKind.wrap_i64]
  unfold u64
  omega
theorem u64_nat (n : Nat) (h : n < 18446744073709551616) : u64 (n : Int) = n := by unfold u64; omega
theorem u64_xor (a b : Int) : u64 (bits .xor .i64 a b) = u64 a ^^^ u64 b := by
  show u64 (IntKind.i64.wrap ((BitVec.ofInt 64 a ^^^ BitVec.ofInt 64 b).toNat : Int)) = _
  rw [u64_wrap, BitVec.toNat_xor, ← u64_bits, ← u64_bits, u64_nat _ (Nat.xor_lt_two_pow (n := 64) (u64_lt a) (u64_lt b))]
theorem halves_differ (x : List Int) (k : Nat) (hk : k < x.length) (d : Int) (h : wd 0 (u64 d) ≠ 0) : ofF x ≠ ofF (x.set k (bits .xor .i64 x[k] d)) :=
  ofF_set x k (bits .xor .i64 x[k] d) hk (by rw [u64_xor, ← Nat.xor_assoc, Nat.xor_self, Nat.zero_xor]; exact h)
theorem xor_ne (a d : Int) (h : wd 0 (u64 d) ≠ 0) : bits .xor .i64 a d ≠ a := by
  intro e
  have := u64_xor a d
  rw [e] at this
  have h2 : u64 a ^^^ u64 a = u64 a ^^^ (u64 a ^^^ u64 d) := by rw [← this]
  rw [Nat.xor_self, ← Nat.xor_assoc, Nat.xor_self, Nat.zero_xor] at h2
  exact h (by rw [← h2]; decide +kernel)
end Go.Proofs.Ytgcdhenbpkcmgaa.Sm
namespace Go.Proofs.Ytgcdhenbpkcmgaa
open Go.RowKit
/-- A record. -/
structure Rc where
  k : Int
  key : ByteArray
  val : ByteArray
  ch : Int
theorem Rc.ext' {x y : Rc} (h1 : x.k = y.k) (h2 : x.key = y.key) (h3 : x.val = y.val) (h4 : x.ch = y.ch) : x = y := by
  cases x; cases y; simp_all
/-- A record that may be. -/
def OkR (x : Rc) : Prop := (x.k = 1 ∧ 1 ≤ x.key.size ∧ x.key.size ≤ 21 ∧ x.val.size ≤ 21 ∧ x.ch = 0) ∨ (x.k = 2 ∧ x.key.size ≤ 21 ∧ x.val.size = 0 ∧ 1 ≤ x.ch ∧ x.ch < 256)
def OkR.dec (x : Rc) : Decidable (OkR x) := by unfold OkR; exact inferInstance
def rcB (x : Rc) : Bool := @decide (OkR x) (OkR.dec x)
theorem rcB_iff0 {x : Rc} : rcB x = true ↔ OkR x := @decide_eq_true_iff _ (OkR.dec x)
theorem OkR.key {x : Rc} (h : OkR x) : x.key.size ≤ 21 := by rcases h with h | h <;> omega
theorem OkR.val {x : Rc} (h : OkR x) : x.val.size ≤ 21 := by rcases h with h | h <;> omega
/-- Three words: those of a text, and 0. -/
def p3 (l : List Int) : List Int := l ++ List.replicate (3 - l.length) 0
theorem p3_length {l : List Int} (h : l.length ≤ 3) : (p3 l).length = 3 := by simp [p3]; omega
def hdL (x : Rc) : List Int := [x.k, 32 * (x.key.size : Int) + (x.val.size : Int)]
def kwL (x : Rc) : List Int := p3 (Ky.wsl x.key.data.toList)
def vwL (x : Rc) : List Int := if x.k = 2 then [x.ch, 0, 0] else p3 (Ky.wsl x.val.data.toList)
def bdL (x : Rc) : List Int := kwL x ++ (vwL x ++ List.replicate 7 0)
/-- A record's words. -/
def imL (x : Rc) : List Int := hdL x ++ ((Sm.ofF (hdL x ++ bdL x) : Nat) : Int) :: bdL x
theorem ba_list (s : ByteArray) : s.data.toList.length = s.size := by simp
theorem wsl_small (s : ByteArray) (h : s.size ≤ 21) : (Ky.wsl s.data.toList).length ≤ 3 := by
  rw [Ky.wsl_length, ba_list]
  unfold Ky.nW
  omega
theorem kwL_length {x : Rc} (h : OkR x) : (kwL x).length = 3 := p3_length (wsl_small _ h.key)
theorem vwL_length {x : Rc} (h : OkR x) : (vwL x).length = 3 := by
  unfold vwL
  split
  · rfl
  · exact p3_length (wsl_small _ h.val)
theorem bdL_length {x : Rc} (h : OkR x) : (bdL x).length = 13 := by
  unfold bdL
  rw [List.length_append, List.length_append, kwL_length h, vwL_length h, List.length_replicate]
theorem imL_length {x : Rc} (h : OkR x) : (imL x).length = 16 := by
  unfold imL
  rw [List.length_append, List.length_cons, bdL_length h]
  rfl
/-- A text with bytes 0 behind. -/
def padT (s : ByteArray) : ByteArray := ⟨(s.data.toList ++ List.replicate (21 - s.size) 0).toArray⟩
theorem padT_list (s : ByteArray) : (padT s).data.toList = s.data.toList ++ List.replicate (21 - s.size) 0 := by simp [padT]
theorem padT_size (s : ByteArray) (h : s.size ≤ 21) : (padT s).size = 21 := by
  rw [← ba_list, padT_list, List.length_append, ba_list, List.length_replicate]
  omega
theorem padT_byt (s : ByteArray) (i : Nat) : Ky.byt (padT s).data.toList i = Ky.byt s.data.toList i := by
  rw [padT_list]
  by_cases h : i < s.data.toList.length
  · unfold Ky.byt
    rw [List.getElem?_append_left h]
  · rw [Ky.byt_out s.data.toList i (by omega)]
    unfold Ky.byt
    rw [List.getElem?_append_right (by omega), List.getElem?_replicate]
    split <;> rfl
theorem wAt_pad (s : ByteArray) (i : Nat) : Ky.wAt (padT s).data.toList i = Ky.wAt s.data.toList i := by
  unfold Ky.wAt
  congr 1
  funext j
  exact padT_byt s _
theorem wAt_out (l : List UInt8) (i : Nat) (h : Ky.nW l.length ≤ i) : Ky.wAt l i = 0 := by
  have : ∀ k, Ky.w7 (fun j => Ky.byt l (7 * i + j)) k = 0 := by
    intro k
    induction k with
    | zero => rfl
    | succ k ih =>
      show Ky.w7 (fun j => Ky.byt l (7 * i + j)) k * 256 + Ky.byt l (7 * i + k) = 0
      rw [ih, Ky.byt_out l _ (by unfold Ky.nW at h; omega)]
      rfl
  exact this 7
theorem p3_words (s : ByteArray) (h : s.size ≤ 21) : p3 (Ky.wsl s.data.toList) = Ky.wsl (padT s).data.toList := by
  have hl := wsl_small s h
  refine List.ext_getElem? fun i => ?_
  by_cases hi : i < 3
  · rw [Ky.wsl_get (padT s).data.toList i (by rw [ba_list, padT_size s h]; unfold Ky.nW; omega), wAt_pad]
    unfold p3
    by_cases hi2 : i < Ky.nW s.data.toList.length
    · rw [List.getElem?_append_left (by rw [Ky.wsl_length]; exact hi2), Ky.wsl_get _ _ hi2]
    · rw [List.getElem?_append_right (by rw [Ky.wsl_length]; omega), List.getElem?_replicate, if_pos (by rw [Ky.wsl_length] at *; omega), wAt_out _ _ (by omega)]
  · rw [List.getElem?_eq_none (by rw [p3_length hl]; omega), List.getElem?_eq_none (by rw [Ky.wsl_length, ba_list, padT_size s h]; unfold Ky.nW; omega)]
/-- The first n bytes of the text of 21 that l are. -/
def begS (l : List Int) (n : Int) : ByteArray := if Ky.okT l 21 = true ∧ 0 ≤ n ∧ n ≤ 21 then (Ky.txS l 21).extract 0 n.toNat else ByteArray.empty
theorem beg_back (s : ByteArray) (h : s.size ≤ 21) : begS (p3 (Ky.wsl s.data.toList)) (s.size : Int) = s := by
  have h1 := Ky.okT_of (padT s)
  have h2 := Ky.back_S (padT s)
  rw [padT_size s h] at h1 h2
  rw [p3_words s h]
  unfold begS
  rw [if_pos ⟨h1, by omega, by omega⟩, show ((21 : Nat) : Int) = 21 from rfl] at *
  rw [h2]
  refine Ky.ba_ext ?_
  rw [Ky.ext_list, padT_list, Int.toNat_natCast, List.drop_zero, Nat.sub_zero, List.take_append_of_le_length (by rw [ba_list]; omega), List.take_of_length_le (by rw [ba_list]; omega)]
/-- The record that can have these words. -/
def gsR (L : List Int) : Rc :=
  { k := L[0]?.getD 0
    key := begS ((L.drop 3).take 3) ((L[1]?.getD 0).tdiv 32)
    val := if L[0]?.getD 0 = 2 then ByteArray.empty else begS ((L.drop 6).take 3) ((L[1]?.getD 0).tmod 32)
    ch := if L[0]?.getD 0 = 2 then L[6]?.getD 0 else 0 }
theorem imL_0 (x : Rc) : (imL x)[0]?.getD 0 = x.k := rfl
theorem imL_1 (x : Rc) : (imL x)[1]?.getD 0 = 32 * (x.key.size : Int) + (x.val.size : Int) := rfl
theorem imL_drop3 (x : Rc) : (imL x).drop 3 = bdL x := rfl
theorem imL_key {x : Rc} (h : OkR x) : ((imL x).drop 3).take 3 = kwL x := by
  rw [imL_drop3]
  unfold bdL
  rw [List.take_append_of_le_length (by rw [kwL_length h]; omega), List.take_of_length_le (by rw [kwL_length h]; omega)]
theorem imL_drop6 {x : Rc} (h : OkR x) : (imL x).drop 6 = vwL x ++ List.replicate 7 0 := by
  rw [show (6 : Nat) = 3 + 3 from rfl, ← List.drop_drop, imL_drop3]
  unfold bdL
  rw [List.drop_append_of_le_length (by rw [kwL_length h]; omega), List.drop_of_length_le (by rw [kwL_length h]; omega), List.nil_append]
theorem imL_val {x : Rc} (h : OkR x) : ((imL x).drop 6).take 3 = vwL x := by
  rw [imL_drop6 h, List.take_append_of_le_length (by rw [vwL_length h]; omega), List.take_of_length_le (by rw [vwL_length h]; omega)]
theorem ba_nil {s : ByteArray} (h : s.size = 0) : s = ByteArray.empty := Ky.ba_ext (by rw [show s.data.toList = [] from List.eq_nil_of_length_eq_zero (by rw [ba_list]; exact h)]; rfl)
theorem gs_back {x : Rc} (h : OkR x) : gsR (imL x) = x := by
  have hk := h.key
  have hv := h.val
  have e1 : (32 * (x.key.size : Int) + (x.val.size : Int)).tdiv 32 = (x.key.size : Int) := by
    rw [Int.tdiv_eq_ediv_of_nonneg (by omega)]; omega
  have e2 : (32 * (x.key.size : Int) + (x.val.size : Int)).tmod 32 = (x.val.size : Int) := by
    rw [Int.tmod_eq_emod_of_nonneg (by omega)]; omega
  refine Rc.ext' rfl ?_ ?_ ?_
  · show begS _ _ = _
    rw [imL_key h, imL_1, e1]
    exact beg_back _ hk
  · show (if (imL x)[0]?.getD 0 = 2 then _ else begS _ _) = _
    rw [imL_0, imL_val h, imL_1, e2]
    by_cases h2 : x.k = 2
    · rw [if_pos h2]
      rcases h with h | h
      · omega
      · exact (ba_nil h.2.2.1).symm
    · rw [if_neg h2]
      unfold vwL
      rw [if_neg h2]
      exact beg_back _ hv
  · show (if (imL x)[0]?.getD 0 = 2 then (imL x)[6]?.getD 0 else 0) = _
    rw [imL_0]
    by_cases h2 : x.k = 2
    · rw [if_pos h2]
      have := imL_drop6 h
      have e : (imL x)[6]? = ((imL x).drop 6)[0]? := by simp
      rw [e, this]
      unfold vwL
      rw [if_pos h2]
      rfl
    · rw [if_neg h2]
      rcases h with h | h
      · exact h.2.2.2.2.symm
      · exact absurd h.1 h2
/-- These sixteen words are a record's. -/
def isR (L : List Int) : Bool := rcB (gsR L) && decide (imL (gsR L) = L)
theorem isR_of {x : Rc} (h : OkR x) : isR (imL x) = true := by
  unfold isR
  rw [gs_back h]
  simp [rcB_iff0, h]
theorem isR_iff {L : List Int} : isR L = true ↔ OkR (gsR L) ∧ imL (gsR L) = L := by simp [isR, rcB_iff0]
theorem isR_ex {L : List Int} : isR L = true ↔ ∃ x, OkR x ∧ imL x = L := ⟨fun h => ⟨_, isR_iff.1 h⟩, fun ⟨x, h1, h2⟩ => by rw [← h2]; exact isR_of h1⟩
/-- All words but the check. -/
def restL (L : List Int) : List Int := L.take 2 ++ L.drop 3
theorem imL_check (x : Rc) : (imL x)[2]? = some ((Sm.ofF (restL (imL x)) : Nat) : Int) := rfl
theorem only_half (L : List Int) (hl : L.length = 16) (k : Nat) (hk : k < 16) (d : Int) (hd : Sm.wd 0 (Sm.u64 d) ≠ 0) (h : isR L = true) : isR (L.set k (bits .xor .i64 (L[k]'(by omega)) d)) = false := by
  by_cases hh : isR (L.set k (bits .xor .i64 (L[k]'(by omega)) d)) = true
  · exfalso
    obtain ⟨x, hx, ex⟩ := isR_ex.1 h
    obtain ⟨y, hy, ey⟩ := isR_ex.1 hh
    have cx := imL_check x
    have cy := imL_check y
    rw [ex] at cx
    rw [ey] at cy
    by_cases h2 : k = 2
    · subst h2
      have e : restL (L.set 2 (bits .xor .i64 (L[2]'(by omega)) d)) = restL L := by
        unfold restL
        rw [List.take_set_of_le (by omega), List.drop_set_of_lt (by omega)]
      rw [e, ← cx, List.getElem?_set_self (by omega), List.getElem?_eq_getElem (by omega)] at cy
      exact Sm.xor_ne _ _ hd (by simpa using cy)
    · rw [List.getElem?_set_ne (by omega), cx] at cy
      have e2 : Sm.ofF (restL L) = Sm.ofF (restL (L.set k (bits .xor .i64 (L[k]'(by omega)) d))) := by
        have := Option.some.inj cy
        omega
      have hrl : (restL L).length = 15 := by simp [restL]; omega
      obtain ⟨j, hj, e1, e3⟩ : ∃ j, ∃ hj : j < (restL L).length, (restL L)[j] = L[k]'(by omega) ∧ restL (L.set k (bits .xor .i64 (L[k]'(by omega)) d)) = (restL L).set j (bits .xor .i64 (L[k]'(by omega)) d) := by
        by_cases h3 : k < 2
        · refine ⟨k, by omega, ?_, ?_⟩
          · unfold restL
            rw [List.getElem_append_left (by simp; omega), List.getElem_take]
          · unfold restL
            rw [List.drop_set_of_lt (by omega), List.take_set, List.set_append_left _ _ (by simp; omega)]
        · refine ⟨k - 1, by omega, ?_, ?_⟩
          · unfold restL
            rw [List.getElem_append_right (by simp; omega), List.getElem_drop]
            congr 1
            simp
            omega
          · unfold restL
            rw [List.take_set_of_le (by omega), List.set_append_right _ _ (by simp; omega), List.drop_set, if_neg (by omega)]
            congr 2
            simp
            omega
      rw [e3, ← e1] at e2
      exact Sm.halves_differ (restL L) j hj d hd e2
  · simpa using hh
end Go.Proofs.Ytgcdhenbpkcmgaa
