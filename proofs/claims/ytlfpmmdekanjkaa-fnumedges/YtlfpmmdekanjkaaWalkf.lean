/- Walks of layer 1: the number of a key. -/
import Derived.Test.YtlfpmmdekanjkaaWalke
import Derived.Laws.BitsAllLaws
namespace Go.Proofs.Ytlfpmmdekanjkaa
open Go.RowKit

/-- The number of the first k bytes, the highest first. -/
def acc (l : List UInt8) : Int := l.foldl (fun r c => r * 256 + (c.toNat : Int)) 0
theorem acc_snoc (l : List UInt8) (c : UInt8) : acc (l ++ [c]) = acc l * 256 + (c.toNat : Int) := by unfold acc; rw [List.foldl_append]; rfl
theorem take_snoc (s : ByteArray) (k : Nat) (h : k < s.size) : s.data.toList.take (k + 1) = s.data.toList.take k ++ [s[k]] := by
  rw [List.take_succ_eq_append_getElem (by simpa using h)]; rfl
theorem acc_bd : ∀ (l : List UInt8), 0 ≤ acc l ∧ acc l < 256 ^ l.length := by
  intro l
  suffices ∀ n, ∀ l : List UInt8, l.length = n → 0 ≤ acc l ∧ acc l < 256 ^ n from this _ l rfl
  intro n
  induction n with
  | zero => intro l h; rw [List.eq_nil_of_length_eq_zero h]; decide
  | succ n ih =>
    intro l h
    have hne : l ≠ [] := by intro e; simp [e] at h
    rw [← List.dropLast_concat_getLast hne, acc_snoc]
    have := ih l.dropLast (by simp [h])
    have hc : (l.getLast hne).toNat < 256 := UInt8.toNat_lt _
    rw [Int.pow_succ]
    omega

theorem join8 (a : Int) (c : UInt8) (h0 : 0 ≤ a) (h1 : a < 72057594037927936) : bits .or .u64 (a * 256) (IntKind.u64.wrap (c.toNat : Int)) = a * 256 + (c.toNat : Int) := by
  have hc : c.toNat < 256 := UInt8.toNat_lt _
  have e : IntKind.u64.wrap (c.toNat : Int) = (c.toNat : Int) := by
    rw [IntKind.wrap_u64]; omega
  rw [e, u64_or _ _ (by omega) (by omega) (by omega) (by omega)]
  obtain ⟨n, rfl⟩ := Int.eq_ofNat_of_zero_le h0
  rw [show ((n : Int) * 256).toNat = n * 256 from by omega, Int.toNat_natCast, nat_join 8 (n * 256) c.toNat (by omega) (by omega)]
  omega

theorem acc_step (s : ByteArray) (k : Nat) (h : k < s.size) : acc (s.data.toList.take (k + 1)) = acc (s.data.toList.take k) * 256 + (s[k].toNat : Int) := by
  rw [take_snoc s k h, acc_snoc]
theorem acc_lt (s : ByteArray) (k : Nat) (h : k < 8) : acc (s.data.toList.take k) < 72057594037927936 := by
  have h2 := (acc_bd (s.data.toList.take k)).2
  have hl : (s.data.toList.take k).length ≤ k := List.length_take_le _ _
  have h3 : 256 ^ (s.data.toList.take k).length ≤ 256 ^ 7 := Nat.pow_le_pow_right (by omega) (by omega)
  have h4 : (256 : Nat) ^ 7 = 72057594037927936 := rfl
  rw [h4] at h3
  have h5 : (256 : Int) ^ (s.data.toList.take k).length = ((256 ^ (s.data.toList.take k).length : Nat) : Int) := (Int.natCast_pow 256 _).symm
  rw [h5] at h2
  generalize 256 ^ (s.data.toList.take k).length = p at *
  omega
theorem acc_lt8 (s : ByteArray) (h : s.size = 8) : acc s.data.toList < 18446744073709551616 := by
  have h2 := (acc_bd s.data.toList).2
  have hl : s.data.toList.length = 8 := by simpa using h
  rw [hl] at h2
  omega
theorem take_all (s : ByteArray) (k : Nat) (h : s.size ≤ k) : s.data.toList.take k = s.data.toList := List.take_of_length_le (by simpa using h)

set_option maxRecDepth 100000 in
set_option maxHeartbeats 1000000 in
theorem back_8 (s : ByteArray) (hs : s.size = 8) (w : World) :
    Calls Try.prog 11 #[.string s] w fun e w' => e = .returned (.tuple #[.float .f64 (bk (acc s.data.toList)), .bool true]) ∧ w' = w := by
  have h25 := from_run
  have hs2 : (s.size : Int) ≤ 8 := by omega
  have hs3 : ((s.size : Int) != 8) = false := by simp [hs]
  have hs4 : 8 ≤ (s.size : Int) := by omega
  have ha := acc_lt8 s hs
  have ha0 := (acc_bd s.data.toList).1
  clear hs
  go_enter Try.func11, Try.ntmps11
  go_wp2
  go_loop [4, 9] (fun r i => ∃ k : Nat, k ≤ 8 ∧ i = .int .i64 k ∧ r = .int .u64 (acc (s.data.toList.take k))) (fun _ i => 8 - (intOf i).toNat)
  case atStart => exact ⟨0, Nat.zero_le _, rfl, rfl⟩
  case round =>
    obtain ⟨k, hk, rfl, rfl⟩ := hrel
    have hb1 := (acc_bd (s.data.toList.take k)).1
    by_cases hlt : k < 8
    · have hb2 := acc_lt s k hlt
      have hk8 : k < s.size := by omega
      have H : Hid (acc (s.data.toList.take (k + 1)) = acc (s.data.toList.take k) * 256 + (s[k].toNat : Int)) := acc_step s k hk8
      go_wp2
      go_round
      case rel => exact ⟨k + 1, by omega, by go_num, by rw [join8 _ _ hb1 hb2, H.out]⟩
      case measure => simp [intOf]; omega
    · have e8 : s.data.toList.take k = s.data.toList := take_all s k (by omega)
      rw [e8]
      clear e8 hb1
      go_wp2_with (first | (go_at_call 26; refine (bitsOf_any _ ha0 ha _).mono ?_; rintro e w' ⟨rfl, hw⟩; rw [hw]; clear hw w'))
      go_ret2
      exact ⟨by simp, rfl⟩

set_option maxRecDepth 100000 in
set_option maxHeartbeats 1000000 in
theorem back_no (s : ByteArray) (hs : s.size ≠ 8) (w : World) :
    Calls Try.prog 11 #[.string s] w fun e w' => e = .returned (.tuple #[.float .f64 0, .bool false]) ∧ w' = w := by
  have hs3 : ((s.size : Int) != 8) = true := by simp; omega
  go_enter Try.func11, Try.ntmps11
  go_wp2
  go_ret2
  exact ⟨rfl, rfl⟩

theorem wrap_byte (c : UInt8) : IntKind.u64.wrap (c.toNat : Int) = (c.toNat : Int) := by
  have hc : c.toNat < 256 := UInt8.toNat_lt _
  rw [IntKind.wrap_u64]; omega

set_option maxRecDepth 100000 in
set_option maxHeartbeats 1000000 in
theorem backR_8 (s : ByteArray) (hs : s.size = 8) (w : World) :
    Calls Try.prog 12 #[.string s] w fun e w' => e = .returned (.tuple #[.float .f64 (bk (acc s.data.toList)), .bool true]) ∧ w' = w := by
  have h25 := from_run
  have hs2 : (s.size : Int) ≤ 8 := by omega
  have hs3 : ((s.size : Int) != 8) = false := by simp [hs]
  have hs4 : 8 ≤ (s.size : Int) := by omega
  have ha := acc_lt8 s hs
  have ha0 := (acc_bd s.data.toList).1
  clear hs
  go_enter Try.func12, Try.ntmps12
  go_wp2
  go_loop [4, 5] (fun r i => ∃ k : Nat, k ≤ 8 ∧ i = .int .i64 k ∧ r = .int .u64 (acc (s.data.toList.take k))) (fun _ i => 8 - (intOf i).toNat)
  case atStart => exact ⟨0, Nat.zero_le _, rfl, rfl⟩
  case round =>
    obtain ⟨k, hk, rfl, rfl⟩ := hrel
    have hb1 := (acc_bd (s.data.toList.take k)).1
    by_cases hlt : k < 8
    · have hb2 := acc_lt s k hlt
      have hk8 : k < s.size := by omega
      have hwb := wrap_byte s[k]
      have hc : (s[k].toNat : Int) < 256 := by have := UInt8.toNat_lt s[k]; omega
      have H : Hid (acc (s.data.toList.take (k + 1)) = acc (s.data.toList.take k) * 256 + (s[k].toNat : Int)) := acc_step s k hk8
      go_wp2
      go_round
      case rel => exact ⟨k + 1, by omega, by go_num, by rw [H.out]⟩
      case measure => simp [intOf]; omega
    · have e8 : s.data.toList.take k = s.data.toList := take_all s k (by omega)
      rw [e8]
      clear e8 hb1
      by_cases hh : acc s.data.toList < 9223372036854775808
      · have H : Hid (bk (acc s.data.toList) = (18446744073709551615 - acc s.data.toList).toNat) := by unfold bk; rw [if_pos hh]; rfl
        have h1 : 0 ≤ 18446744073709551615 - acc s.data.toList := by omega
        go_wp2
        go_ret2
        exact ⟨by rw [H.out]; rfl, rfl⟩
      · have H : Hid (bk (acc s.data.toList) = (acc s.data.toList - 9223372036854775808).toNat) := by unfold bk; rw [if_neg hh]; rfl
        have h1 : 0 ≤ acc s.data.toList - 9223372036854775808 := by omega
        have h2 : 9223372036854775808 ≤ acc s.data.toList := by omega
        go_wp2
        go_ret2
        exact ⟨by rw [H.out]; rfl, rfl⟩

set_option maxRecDepth 100000 in
set_option maxHeartbeats 1000000 in
theorem backR_no (s : ByteArray) (hs : s.size ≠ 8) (w : World) :
    Calls Try.prog 12 #[.string s] w fun e w' => e = .returned (.tuple #[.float .f64 0, .bool false]) ∧ w' = w := by
  have hs3 : ((s.size : Int) != 8) = true := by simp; omega
  go_enter Try.func12, Try.ntmps12
  go_wp2
  go_ret2
  exact ⟨rfl, rfl⟩
end Go.Proofs.Ytlfpmmdekanjkaa
