/- Walks of layer 2: checks, counts, a word, two lists of numbers. -/
import Derived.Test.YtlpddphbkcifnaaNums
import Derived.Test.YtlpddphbkcifnaaLib
import Derived.Test.YtlpddphbkcifnaaChecked
import Derived.Deep.QuietTactic
import Derived.BigQuiet
import Derived.WalkSmall
import Derived.Laws.BitsAllLaws
namespace Go.Proofs.Ytlpddphbkcifnaa
open Go.RowKit

theorem ret_int {k : IntKind} {a b : Int} (h : a = b) : Ending.returned (.int k a) = .returned (.int k b) := by rw [h]
theorem ret_bool {a b : Bool} (h : a = b) : Ending.returned (.bool a) = .returned (.bool b) := by rw [h]
theorem bstep {w a b : World} (h : Below w.heap.size w a) (k : Below a.heap.size a b) : Below w.heap.size w b := h.trans (k.mono h.size)

/-- The slice v holds the ints zs. -/
def Rd (W : World) (v : Value) (zs : List Int) : Prop :=
  (∀ z ∈ zs, -9223372036854775808 ≤ z ∧ z < 9223372036854775808) ∧ zs.length ≤ 1000 ∧
  ∃ a cap, v = .slice a zs.length cap ∧ (zs = [] ∨ ∃ b off, a = some ⟨b, off, none⟩ ∧ b < W.heap.size ∧ ∀ j, j < zs.length → W.cell? ⟨b, off + j, none⟩ = some (.int .i64 (zs[j]?.getD 0)))
theorem Rd.below {W W' : World} {v : Value} {zs : List Int} (h : Rd W v zs) (hb : Below W.heap.size W W') : Rd W' v zs := by
  obtain ⟨h1, h2, a, cap, rfl, h3⟩ := h
  refine ⟨h1, h2, a, cap, rfl, ?_⟩
  rcases h3 with h | ⟨b, off, rfl, hlt, hc⟩
  · exact .inl h
  · exact .inr ⟨b, off, rfl, Nat.lt_of_lt_of_le hlt hb.size, fun j hj => (hb.cell (p := ⟨b, off + j, none⟩) hlt).trans (hc j hj)⟩
theorem Rd.at {W : World} {a : Option Addr} {n cap : Nat} {zs : List Int} (h : Rd W (.slice a n cap) zs) (k : Nat) (hk : k < zs.length) :
    ∃ b off, a = some ⟨b, off, none⟩ ∧ W.cell? ⟨b, off + k, none⟩ = some (.int .i64 (zs[k]?.getD 0)) := by
  obtain ⟨_, _, a', cap', e, h3⟩ := h
  cases e
  rcases h3 with rfl | ⟨b, off, rfl, _, hc⟩
  · simp at hk
  · exact ⟨b, off, rfl, hc k hk⟩

theorem empty_size (s : ByteArray) : s.toList.isEmpty = decide (s.size = 0) := by
  rw [ByteArray.toList_eq]
  cases s with | mk a => cases a with | mk l => cases l <;> simp [ByteArray.size]

def chk (s : ByteArray) : Bool := decide (1 ≤ s.size ∧ s.size ≤ 21)
def chkV (s : ByteArray) : Bool := decide (s.size ≤ 21)

theorem check_any (s : ByteArray) (w : World) : Calls Try.prog 12 #[.string s] w fun e w' => e = .returned (.bool (chk s)) ∧ w' = w := by
  have he := empty_size s
  unfold chk
  by_cases h : s.size = 0
  · have h2 : s.toList = [] := by rw [decide_eq_true h] at he; simpa using he
    clear he
    go_enter Try.func12, Try.ntmps12
    go_wp2
    go_ret
    exact ⟨ret_bool (by first | exact (decide_eq_false (by omega)).symm | (rw [decide_eq_decide]; omega)), rfl⟩
  · have h2 : ¬ s.toList = [] := by rw [decide_eq_false h] at he; simpa using he
    have h3 : s.toList.isEmpty = false := by simpa using h2
    clear he
    go_enter Try.func12, Try.ntmps12
    go_wp2
    go_ret
    exact ⟨ret_bool (by first | exact (decide_eq_false (by omega)).symm | (rw [decide_eq_decide]; omega)), rfl⟩
theorem checkR_any (s : ByteArray) (w : World) : Calls Try.prog 13 #[.string s] w fun e w' => e = .returned (.bool (chk s)) ∧ w' = w := by
  unfold chk
  by_cases h : (s.size : Int) ≥ 1
  · go_enter Try.func13, Try.ntmps13
    go_wp2
    go_ret
    exact ⟨ret_bool (by first | exact (decide_eq_false (by omega)).symm | (rw [decide_eq_decide]; omega)), rfl⟩
  · go_enter Try.func13, Try.ntmps13
    go_wp2
    go_ret
    exact ⟨ret_bool (by first | exact (decide_eq_false (by omega)).symm | (rw [decide_eq_false (show ¬ 1 ≤ s.size by omega)]; rfl)), rfl⟩
theorem checkV_any (s : ByteArray) (w : World) : Calls Try.prog 14 #[.string s] w fun e w' => e = .returned (.bool (chkV s)) ∧ w' = w := by
  unfold chkV
  go_enter Try.func14, Try.ntmps14
  go_wp2
  go_ret
  exact ⟨ret_bool (by rw [decide_eq_decide]; omega), rfl⟩
theorem checkVR_any (s : ByteArray) (w : World) : Calls Try.prog 15 #[.string s] w fun e w' => e = .returned (.bool (chkV s)) ∧ w' = w := by
  unfold chkV
  go_enter Try.func15, Try.ntmps15
  go_wp2
  go_ret
  exact ⟨ret_bool (by rw [decide_eq_decide]; omega), rfl⟩

set_option maxHeartbeats 400000 in
theorem count_any (n : Int) (w : World) (h0 : 0 ≤ n) (h1 : n < 9223372036854775808) : Calls Try.prog 19 #[.int .i64 n] w fun e w' => e = .returned (.int .i64 (nW n.toNat : Nat)) ∧ w' = w := by
  go_enter Try.func19, Try.ntmps19
  go_wp2
  all_goals
    go_ret
    exact ⟨ret_int (by unfold nW; omega), rfl⟩

theorem join_i64 (a : Int) (c : UInt8) (h0 : 0 ≤ a) (h1 : a < 281474976710656) : bits .or .i64 (a * 256) (wrap64 (c.toNat : Int)) = a * 256 + (c.toNat : Int) := by
  have hc : c.toNat < 256 := UInt8.toNat_lt _
  obtain ⟨n, rfl⟩ := Int.eq_ofNat_of_zero_le h0
  have e : wrap64 (c.toNat : Int) = ((c.toNat : Nat) : Int) := by unfold wrap64; omega
  rw [e]
  show IntKind.i64.wrap ((BitVec.ofInt 64 ((n * 256 : Nat) : Int) ||| BitVec.ofInt 64 ((c.toNat : Nat) : Int)).toNat : Int) = _
  rw [BitVec.toNat_or, ofInt_u64 _ (by omega), ofInt_u64 _ (by omega), nat_join8 _ _ (by omega) hc, IntKind.wrap_i64]
  omega

set_option maxRecDepth 100000 in
set_option maxHeartbeats 1000000 in
theorem word_any (p : ByteArray) (w : World) : Calls Try.prog 22 #[.string p] w fun e w' => e = .returned (.int .i64 (wP p)) ∧ w' = w := by
  go_enter Try.func22, Try.ntmps22
  go_wp2
  go_loop [3, 5] (fun r i => ∃ k : Nat, k ≤ 7 ∧ i = .int .i64 k ∧ r = .int .i64 (w7 (byt p.data.toList) k)) (fun _ i => 7 - (intOf i).toNat)
  case atStart => exact ⟨0, Nat.zero_le _, rfl, rfl⟩
  case round =>
    obtain ⟨k, hk, rfl, rfl⟩ := hrel
    by_cases hlt : k < 7
    · have hb := w7_lt6 (byt p.data.toList) (fun _ => byt_bd _ _) k (by omega)
      by_cases hp : k < p.size
      · have H : Hid (byt p.data.toList k = (p[k].toNat : Int)) := byt_in p.data.toList k (by simpa using hp)
        go_wp2
        exact ⟨⟨k + 1, by omega, by go_num, by rw [join_i64 _ _ hb.1 hb.2]; show _ = Value.int IntKind.i64 (w7 (byt p.data.toList) k * 256 + byt p.data.toList k); rw [H.out]⟩, by simp [intOf]; omega⟩
      · have H : Hid (byt p.data.toList k = 0) := byt_out p.data.toList k (by simp; omega)
        go_wp2
        exact ⟨⟨k + 1, by omega, by go_num, by show _ = Value.int IntKind.i64 (w7 (byt p.data.toList) k * 256 + byt p.data.toList k); rw [H.out, Int.add_zero]⟩, by simp [intOf]; omega⟩
    · have : k = 7 := by omega
      subst this
      go_wp2
      go_ret
      exact ⟨rfl, rfl⟩

set_option maxRecDepth 100000 in
set_option maxHeartbeats 1000000 in
theorem numbers_any (u v : Value) (zs ys : List Int) (w : World) (hu : Rd w u zs) (hv : Rd w v ys) : Calls Try.prog 16 #[u, v] w fun e w' => e = .returned (.bool (decide (zs = ys))) ∧ Below w.heap.size w w' := by
  have hu' := hu
  have hv' := hv
  obtain ⟨zb, zl, a, cap, rfl, ha⟩ := hu
  obtain ⟨yb, yl, a2, cap2, rfl, ha2⟩ := hv
  clear ha ha2
  by_cases hl : zs.length = ys.length
  · have hl2 : ((zs.length : Int) != (ys.length : Int)) = false := by simp [hl]
    have Hl : Hid (zs.length = ys.length) := hl
    clear hl
    go_enter Try.func16, Try.ntmps16
    go_wp2
    go_loopw [5] (fun i w1 => ∃ k : Nat, k ≤ zs.length ∧ i = .int .i64 k ∧ zs.take k = ys.take k ∧ Below w.heap.size w w1) (fun i _ => zs.length - (intOf i).toNat)
    case atStart => exact ⟨0, Nat.zero_le _, rfl, rfl, Below.refl _ _⟩
    case round =>
      obtain ⟨k, hk, rfl, ht, hbel⟩ := hrel
      by_cases hlt : k < zs.length
      · have hlt2 : k < ys.length := by have := Hl.out; omega
        obtain ⟨b, off, rfl, hc⟩ := (hu'.below hbel).at k hlt
        obtain ⟨b2, off2, rfl, hc2⟩ := (hv'.below hbel).at k hlt2
        have Ht : Hid (zs.take k = ys.take k) := ht
        clear ht
        by_cases hne : zs[k] = ys[k]
        · have hne2 : (zs[k] != ys[k]) = false := by simpa using hne
          have Hn : Hid (zs.take (k + 1) = ys.take (k + 1)) := by rw [List.take_succ_eq_append_getElem hlt, List.take_succ_eq_append_getElem hlt2, Ht.out, hne]; exact rfl
          clear hne
          go_wp2
          go_quiet (fail)
          go_wp2
          go_roundw
          case rel => exact ⟨k + 1, by omega, by go_num, Hn.out, below_drewN hbel _⟩
          case measure => simp [intOf]; omega
        · have hne2 : (zs[k] != ys[k]) = true := by simpa using hne
          have Hn : Hid (decide (zs = ys) = false) := decide_eq_false (fun e => hne (by subst e; rfl))
          go_wp2
          go_quiet (fail)
          go_wp2
          go_ret
          exact ⟨ret_bool Hn.out.symm, below_drewN hbel _⟩
      · have hkk : k = zs.length := by omega
        have Hn : Hid (decide (zs = ys) = true) := decide_eq_true (by rw [List.take_of_length_le (by omega), List.take_of_length_le (by have := Hl.out; omega)] at ht; exact ht)
        clear ht
        go_wp2
        go_ret
        exact ⟨ret_bool Hn.out.symm, hbel⟩
  · have hl2 : ((zs.length : Int) != (ys.length : Int)) = true := by simp; omega
    go_enter Try.func16, Try.ntmps16
    go_wp2
    go_ret
    exact ⟨ret_bool (decide_eq_false (fun e => hl (by rw [e]))).symm, Below.refl _ _⟩
end Go.Proofs.Ytlpddphbkcifnaa
