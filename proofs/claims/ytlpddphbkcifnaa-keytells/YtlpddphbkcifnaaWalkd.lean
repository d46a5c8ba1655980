/- Walks of layer 2: the document's own words; rows that are read. -/
import Derived.Test.YtlpddphbkcifnaaWalkc
namespace Go.Proofs.Ytlpddphbkcifnaa
open Go.RowKit

/-- What a call's own row holds is read. -/
theorem Rd.of_own {W : World} {base : Nat} {v : Value} {n : Nat} {zs : List Int} (h : W.ownsRow base 3 1 v n (zs.map (Value.int .i64))) (hb : ∀ z ∈ zs, -9223372036854775808 ≤ z ∧ z < 9223372036854775808) (hl : zs.length ≤ 1000) : Rd W v zs := by
  have hc := h
  have hn : zs.length = n := by simpa using h.1
  subst hn
  refine ⟨hb, hl, ?_⟩
  rcases h.2 with ⟨rfl, h0⟩ | ⟨g, cap, cur, rfl, _, hg, _⟩
  · have e : zs = [] := List.eq_nil_of_length_eq_zero h0
    subst e
    exact ⟨none, 0, rfl, .inl rfl⟩
  · refine ⟨some ⟨g, 0, none⟩, cap, rfl, .inr ⟨g, 0, rfl, (Array.getElem?_eq_some_iff.1 hg).1, ?_⟩⟩
    intro j hj
    have := hc.cells rfl j (.int .i64 (zs[j]?.getD 0)) (by simp [List.getElem?_eq_getElem hj])
    rwa [Addr.add_lit] at this
theorem wsl_bd (l : List UInt8) : ∀ z ∈ wsl l, -9223372036854775808 ≤ z ∧ z < 9223372036854775808 := by
  intro z hz
  have := wUp_bd l _ z hz
  omega

/-- The words of a text: a row of the call's own, and read. -/
theorem words_any (s : ByteArray) (w : World) (hs : s.size ≤ 7000) :
    Calls Try.prog 17 #[.string s] w fun e w' => ∃ v, e = .returned v ∧ w'.ownsRow w.heap.size 3 1 v (nW s.size) ((wsl s.data.toList).map (Value.int .i64)) ∧ Rd w' v (wsl s.data.toList) ∧ Below w.heap.size w w' := by
  refine (words_own s w hs).mono ?_
  rintro e w' ⟨v, rfl, hown, hb⟩
  exact ⟨v, rfl, hown, Rd.of_own hown (wsl_bd _) (by rw [wsl_length]; unfold nW; simp; omega), hb⟩

/-- The number of the first j bytes of the word at k. -/
def wIn (l : List UInt8) (k j : Nat) : Int := w7 (fun i => byt l (7 * k + i)) j
theorem wIn_zero (l : List UInt8) (k : Nat) : wIn l k 0 = 0 := rfl
theorem wIn_succ (l : List UInt8) (k j : Nat) : wIn l k (j + 1) = wIn l k j * 256 + byt l (7 * k + j) := rfl
theorem wIn_seven (l : List UInt8) (k : Nat) : wIn l k 7 = wAt l k := rfl
theorem wIn_bd6 (l : List UInt8) (k j : Nat) (h : j ≤ 6) : 0 ≤ wIn l k j ∧ wIn l k j < 281474976710656 := w7_lt6 _ (fun _ => byt_bd _ _) j h

set_option maxRecDepth 100000 in
set_option maxHeartbeats 2000000 in
theorem wordsR_own (s : ByteArray) (w : World) (hs : s.size ≤ 7000) :
    Calls Try.prog 18 #[.string s] w fun e w' => ∃ v, e = .returned v ∧ w'.ownsRow w.heap.size 3 1 v (nW s.size) ((wsl s.data.toList).map (Value.int .i64)) ∧ Below w.heap.size w w' := by
  obtain ⟨i0, hi, hz0, hz1, hz2⟩ := info_parts Try.info3
  have hn : nW s.size ≤ 1000 := by unfold nW; omega
  go_enter Try.func18, Try.ntmps18
  go_wp2
  go_loopw [3, 4] (fun t3 t4 w1 => ∃ k : Nat, k ≤ nW s.size ∧ t4 = .int .i64 (7 * (k : Int)) ∧ w1.ownsRow w.heap.size 3 1 t3 k ((wUp s.data.toList k).map (Value.int .i64)) ∧ Below w.heap.size w w1) (fun _ t4 _ => 10000 - (intOf t4).toNat)
  case atStart => exact ⟨0, by omega, rfl, World.ownsRow_nil _ _ _ _, Below.refl _ _⟩
  case round =>
    obtain ⟨k, hk, rfl, hown, hbel⟩ := hrel
    by_cases hlt : 7 * k < s.size
    · have hltI : 7 * (k : Int) < (s.size : Int) := by omega
      go_wp2
      go_loop [5, 6] (fun r i => ∃ j : Nat, j ≤ 7 ∧ i = .int .i64 (7 * (k : Int) + (j : Int)) ∧ r = .int .i64 (wIn s.data.toList k j)) (fun _ i => 7 * k + 7 - (intOf i).toNat)
      case atStart => exact ⟨0, Nat.zero_le _, by simp, rfl⟩
      case round =>
        obtain ⟨j, hj, rfl, rfl⟩ := hrel
        by_cases hlt2 : j < 7
        · have hb := wIn_bd6 s.data.toList k j (by omega)
          by_cases hp : 7 * k + j < s.size
          · have H : Hid (byt s.data.toList (7 * k + j) = (s[7 * k + j].toNat : Int)) := byt_in s.data.toList (7 * k + j) (by simpa using hp)
            have hc8 : (s[7 * k + j].toNat : Int) < 256 := by have := UInt8.toNat_lt s[7 * k + j]; omega
            have hwb : wrap64 (s[7 * k + j].toNat : Int) = (s[7 * k + j].toNat : Int) := by unfold wrap64; omega
            go_wp2
            go_round
            case rel => exact ⟨j + 1, by omega, by go_num, by rw [wIn_succ, H.out]⟩
            case measure => simp [intOf]; omega
          · have H : Hid (byt s.data.toList (7 * k + j) = 0) := byt_out s.data.toList (7 * k + j) (by simp; omega)
            go_wp2
            go_round
            case rel => exact ⟨j + 1, by omega, by go_num, by rw [wIn_succ, H.out, Int.add_zero]⟩
            case measure => simp [intOf]; omega
        · obtain rfl : j = 7 := by omega
          rw [wIn_seven]
          go_wp2_with (at_builtin; refine wpList_append_own _ rfl _ _ 22 rfl w.heap.size 3 i0 (.int .i64 0) 1 8 Try.underlying22 hi hz0 hz1 hz2 rfl (by decide) _ k _ rfl (hown.alloc _) ⟨wr.heap.size, 0, none⟩ 1 1 [.int .i64 (wAt s.data.toList k)] rfl rfl (cell_one_new _ _ _) (by simp [Value.oneCell']) (by unfold maxLen; omega) (by omega) (by have := hbel.size; simp; omega) ?_; intro v' w3 hown' hgrow3 _)
          have hsz := hbel.size
          have hb3 : Below w.heap.size w w3 := (hbel.alloc hsz _).grown hgrow3 (by simp; omega) (by intro q hq; exact (hown.lt q hq).1)
          go_roundw
          case rel => exact ⟨k + 1, by unfold nW; omega, by go_num, by rw [wUp_succ]; simpa using hown', hb3⟩
          case measure => simp [intOf]; omega
    · go_wp2
      go_ret
      have e : k = nW s.size := by unfold nW at *; omega
      subst e
      exact ⟨_, rfl, by simpa [wsl] using hown, hbel⟩
end Go.Proofs.Ytlpddphbkcifnaa
