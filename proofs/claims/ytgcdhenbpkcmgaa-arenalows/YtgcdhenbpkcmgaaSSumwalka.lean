/- Set over from a lower layer: Sumwalka. -/
import Derived.Test.YtgcdhenbpkcmgaaBase
import Derived.Test.YtgcdhenbpkcmgaaQuietb
import Derived.Test.YtgcdhenbpkcmgaaSSumnums
import Derived.Deep.QuietTactic
import Derived.BigQuiet
import Derived.WalkSmall
import Derived.Laws.BitsAllLaws
import Derived.Deep.MidRow
import Derived.Deep.OwnRows
namespace Go.Proofs.Ytgcdhenbpkcmgaa.Sm
open Go.RowKit
theorem ret_int {k : IntKind} {a b : Int} (h : a = b) : Ending.returned (.int k a) = .returned (.int k b) := by rw [h]
theorem bstep {w a b : World} (h : Below w.heap.size w a) (k : Below a.heap.size a b) : Below w.heap.size w b := h.trans (k.mono h.size)
theorem and_one (x : Nat) (h : x < 4294967296) : bits .and .u32 (x : Int) 1 = (x : Int) % 2 := by
  have := u32_and_nat x 1 h (by omega)
  rw [nat_mask1] at this
  simpa using this
theorem xor_turns (x : Nat) (h : x < 4294967296) (e : x % 2 = 1) : bits .xor .u32 ((x : Int) / 2) 3988292384 = (mv x : Int) := by
  have := u32_xor_nat (x / 2) 3988292384 (by omega) (by omega)
  rw [mv_odd e]
  simpa using this
set_option maxRecDepth 100000 in
theorem move_any (x : Nat) (w : World) (h : x < 4294967296) : Calls Try.prog 76 #[.int .u32 x] w fun e w' => e = .returned (.int .u32 (mv x : Nat)) ∧ w' = w := by
  have h1 := and_one x h
  by_cases e : x % 2 = 1
  · have h2 := xor_turns x h e
    have h3 : ((x : Int) % 2 == 1) = true := by simp; omega
    clear e
    go_enter Try.func76, Try.ntmps76
    go_wp2
    go_ret
    exact ⟨ret_int rfl, rfl⟩
  · have h3 : ((x : Int) % 2 == 1) = false := by simp; omega
    have H : Hid (mv x = x / 2) := mv_even (by omega)
    clear e
    go_enter Try.func76, Try.ntmps76
    go_wp2
    go_ret
    exact ⟨ret_int (by rw [H.out]; simp), rfl⟩
end Go.Proofs.Ytgcdhenbpkcmgaa.Sm
namespace Go.Proofs.Ytgcdhenbpkcmgaa.Sm
open Go.RowKit
/-- What the table holds at a place. -/
def tb (i : Nat) : Value := .int .u32 (mvs 4 i : Nat)
/-- The table while it is made: k places are. -/
def tbU (k i : Nat) : Value := if i < k then tb i else .int .u32 0
def tbL : List Value := (List.range 16).map tb
def z16 : Array Value := #[.int .u32 0, .int .u32 0, .int .u32 0, .int .u32 0, .int .u32 0, .int .u32 0, .int .u32 0, .int .u32 0, .int .u32 0, .int .u32 0, .int .u32 0, .int .u32 0, .int .u32 0, .int .u32 0, .int .u32 0, .int .u32 0]
theorem z16_row (W : World) : (W.alloc (.cells z16 104)).rowIs W.heap.size 104 16 (tbU 0) := by
  refine World.rowIs_alloc W z16 104 (tbU 0) ?_
  intro i hi
  have hi : i < 16 := hi
  obtain rfl | rfl | rfl | rfl | rfl | rfl | rfl | rfl | rfl | rfl | rfl | rfl | rfl | rfl | rfl | rfl : i = 0 ∨ i = 1 ∨ i = 2 ∨ i = 3 ∨ i = 4 ∨ i = 5 ∨ i = 6 ∨ i = 7 ∨ i = 8 ∨ i = 9 ∨ i = 10 ∨ i = 11 ∨ i = 12 ∨ i = 13 ∨ i = 14 ∨ i = 15 := by omega
  all_goals rfl
theorem z16_start (w : World) : ((w.alloc (.cells z16 104)).alloc (.cells z16 104)).rowIs w.heap.size 104 16 (tbU 0) ∧ ((w.alloc (.cells z16 104)).alloc (.cells z16 104)).rowIs (w.heap.size + 1) 104 16 (tbU 0) ∧ Below w.heap.size w ((w.alloc (.cells z16 104)).alloc (.cells z16 104)) := by
  refine ⟨(z16_row w).alloc _, ?_, ((Below.refl _ w).alloc (Nat.le_refl _) _).alloc (by simp) _⟩
  have := z16_row (w.alloc (.cells z16 104))
  simpa using this
theorem tbU_succ (k i : Nat) : (if i = k then tb k else tbU k i) = tbU (k + 1) i := by
  unfold tbU
  by_cases h : i = k
  · subst h; simp
  · rw [if_neg h]
    by_cases h2 : i < k
    · rw [if_pos h2, if_pos (by omega)]
    · rw [if_neg h2, if_neg (by omega)]
theorem tbL_at (j : Nat) (v : Value) (h : tbL[j]? = some v) : j < 16 ∧ v = tb j := by
  unfold tbL at h
  rw [List.getElem?_map] at h
  by_cases hj : j < 16
  · rw [List.getElem?_range hj] at h
    exact ⟨hj, by simpa using h.symm⟩
  · rw [List.getElem?_eq_none (by simp; omega)] at h
    cases h
theorem tbL_len : tbL.length = 16 := by simp [tbL]
theorem tbL_one : tbL.toArray.all (·.oneCell') = true := all_oneCell_toArray (by
  intro v hv
  obtain ⟨j, _, rfl⟩ := List.mem_map.1 hv
  rfl)
theorem row_range {W : World} {b k : Nat} (h : W.rowIs b 104 16 (tbU k)) (hk : 16 ≤ k) : W.rangeAt b 0 tbL := by
  intro j v hv
  obtain ⟨hj, rfl⟩ := tbL_at j v hv
  rw [Nat.zero_add, h.cell hj]
  unfold tbU
  rw [if_pos (by omega)]
theorem row_there {W : World} {b : Nat} {f : Nat → Value} (h : W.rowIs b 104 16 f) : W.there b 0 tbL.length := by
  intro j hj
  rw [tbL_len] at hj
  rw [Nat.zero_add, h.cell hj]
  exact ⟨rfl, h.frozen j⟩
theorem below_setCells (b : Nat) : ∀ (vs : List Value) (o : Nat) {w W : World} (_ : w.heap.size ≤ b) (_ : Below w.heap.size w W), Below w.heap.size w (W.setCells b o vs)
  | [], _, _, _, _, h => h
  | v :: r, o, _, _, hb, h => below_setCells b r (o + 1) hb (h.setCell hb v)
theorem Try.size104 : (Try.prog.info? 104).map (·.size) = some tbL.length := by kernel_rfl
set_option maxRecDepth 100000 in
set_option maxHeartbeats 1000000 in
theorem table_any (w : World) : Calls Try.prog 67 #[] w fun e w' => e = .returned (.agg tbL.toArray) ∧ Below w.heap.size w w' := by
  go_enter Try.func67, Try.ntmps67
  go_wp2
  go_loopw [4] (fun i w1 => ∃ k : Nat, k ≤ 16 ∧ i = .int .u32 k ∧ w1.rowIs w.heap.size 104 16 (tbU 0) ∧ w1.rowIs (w.heap.size + 1) 104 16 (tbU k) ∧ Below w.heap.size w w1) (fun i _ => 16 - (intOf i).toNat)
  case atStart => exact ⟨0, by omega, rfl, z16_start w⟩
  case round =>
    obtain ⟨k, hk, rfl, hR0, hR1, hbel⟩ := hrel
    by_cases hlt : k < 16
    · have hltI : (k : Int) < 16 := by omega
      go_wp2
      go_loop [3, 8] (fun c i => ∃ j : Nat, j ≤ 4 ∧ i = .int .i64 j ∧ c = .int .u32 (mvs j k : Nat)) (fun _ i => 4 - (intOf i).toNat)
      case atStart => exact ⟨0, by omega, rfl, rfl⟩
      case round =>
        obtain ⟨j, hj, rfl, rfl⟩ := hrel
        by_cases hlt2 : j < 4
        · have hm := mvs_lt j (show k < 4294967296 by omega)
          go_wp2_with (go_at_call 76; refine (move_any _ _ hm).mono ?_; rintro e w' ⟨rfl, hw⟩; rw [hw]; clear hw w')
          go_round
          case rel => exact ⟨j + 1, by omega, by go_num, rfl⟩
          case measure => simp [intOf]; omega
        · obtain rfl : j = 4 := by omega
          have hc := hR1.cell hlt
          have hf := hR1.frozen k
          go_wp2
          go_roundw
          case rel => exact ⟨k + 1, by omega, by go_num, hR0.setOther (by simp) _, (hR1.set k (tb k)).congr (fun i _ => tbU_succ k i), hbel.setCell (by simp) _⟩
          case measure => simp [intOf]; omega
    · have hrange := row_range hR1 (by omega)
      have hthere := row_there hR0
      have hres := World.rangeAt_setCells_same wr w.heap.size 0 tbL hthere
      go_wp2_with (first
        | refine wpList_load_mid rfl 104 _ rfl (w.heap.size + 1) 0 rfl tbL _ hrange Try.underlying104 rfl Try.size104 ?_
        | refine wpList_store_mid rfl 104 _ _ rfl w.heap.size 0 tbL.toArray rfl rfl hthere Try.size104 tbL_one ?_)
      refine bodyPost_ret (v := .agg tbL.toArray) ?_ rfl ⟨rfl, below_setCells _ _ _ (Nat.le_refl _) hbel⟩
      have := run_loadVar_mid (P := Try.prog) _ w.heap.size 0 104 tbL _ hres Try.underlying104 rfl Try.size104
      simp [results, Try.results67, asAddr, Act.put, this]
end Go.Proofs.Ytgcdhenbpkcmgaa.Sm
namespace Go.Proofs.Ytgcdhenbpkcmgaa.Sm
open Go.RowKit
/-- The table lies in block b. -/
def Tab (W : World) (b : Nat) : Prop := b < W.heap.size ∧ ∀ i, i < 16 → W.cell? ⟨b, i, none⟩ = some (tb i)
theorem Tab.below {W W' : World} {b : Nat} (h : Tab W b) (hb : Below W.heap.size W W') : Tab W' b :=
  ⟨Nat.lt_of_lt_of_le h.1 hb.size, fun i hi => (hb.cell (p := ⟨b, i, none⟩) h.1).trans (h.2 i hi)⟩
theorem Tab.at {W : World} {b : Nat} (h : Tab W b) {i : Nat} (hi : i < 16) : W.cell? ⟨b, i, none⟩ = some (.int .u32 (mvs 4 i : Nat)) := h.2 i hi
theorem and_15 (x : Nat) (h : x < 4294967296) : bits .and .u32 (x : Int) 15 = ((x % 16 : Nat) : Int) := by
  have := u32_and_nat x 15 h (by omega)
  rwa [nat_mask4] at this
theorem xor_four (x : Nat) (h : x < 4294967296) : bits .xor .u32 ((x : Int) / 16) (mvs 4 (x % 16) : Nat) = (mvs 4 x : Nat) := by
  have := u32_xor_nat (x / 16) (mvs 4 (x % 16)) (by omega) (mvs_lt 4 (by omega))
  rw [mvs_four] at this
  simpa using this
set_option maxRecDepth 100000 in
set_option maxHeartbeats 1000000 in
theorem addByte_any (b c y : Nat) (w : World) (hT : Tab w b) (hc : c < 4294967296) (hy : y < 256) :
    Calls Try.prog 77 #[.pointer (some ⟨b, 0, none⟩), .int .u32 c, .int .u8 y] w fun e w' => e = .returned (.int .u32 (byF c y : Nat)) ∧ w' = w := by
  obtain ⟨x, hx⟩ : ∃ x, c ^^^ y = x := ⟨_, rfl⟩
  have hx32 : x < 4294967296 := by rw [← hx]; exact Nat.xor_lt_two_pow (n := 32) hc (by omega)
  have e1 := u32_xor_nat c y hc (by omega)
  rw [hx] at e1
  have HB : Hid (byF c y = mvs 8 x) := by rw [← hx]; exact rfl
  clear hx
  go_enter Try.func77, Try.ntmps77
  go_wp2
  go_loop [1, 11] (fun c i => ∃ j : Nat, j ≤ 2 ∧ i = .int .i64 j ∧ c = .int .u32 (mvs (4 * j) x : Nat)) (fun _ i => 2 - (intOf i).toNat)
  case atStart => exact ⟨0, by omega, rfl, rfl⟩
  case round =>
    obtain ⟨j, hj, rfl, rfl⟩ := hrel
    by_cases hlt : j < 2
    · have hm := mvs_lt (4 * j) hx32
      have HS : Hid (mvs (4 * (j + 1)) x = mvs 4 (mvs (4 * j) x)) := by rw [show 4 * (j + 1) = 4 + 4 * j by omega]; exact mvs_add 4 (4 * j) x
      generalize mvs (4 * j) x = s at hm HS
      have e2 := and_15 s hm
      have e3 := xor_four s hm
      have e4 := hT.at (show s % 16 < 16 by omega)
      obtain ⟨m, hm2⟩ : ∃ m, s % 16 = m := ⟨_, rfl⟩
      have hm16 : m < 16 := by omega
      rw [hm2] at e2 e3 e4
      clear hm2
      go_wp2
      go_round
      case rel => exact ⟨j + 1, by omega, by go_num, by rw [HS.out]⟩
      case measure => simp [intOf]; omega
    · obtain rfl : j = 2 := by omega
      go_wp2
      go_ret
      exact ⟨ret_int (by rw [HB.out]), rfl⟩
theorem wrap_u64_eq (z : Int) : IntKind.u64.wrap z = z % 18446744073709551616 := by simp [IntKind.wrap, IntKind.bits, IntKind.signed]
theorem bt_int (n j : Nat) : (n : Int) / 2 ^ (56 - 8 * j) % 256 = (bt n j : Nat) := by
  unfold bt
  rw [Int.natCast_emod, Int.natCast_ediv, Int.natCast_pow]
  rfl
set_option maxRecDepth 100000 in
set_option maxHeartbeats 1000000 in
theorem addWord_any (b c : Nat) (z : Int) (w : World) (hT : Tab w b) (hc : c < 4294967296) :
    Calls Try.prog 68 #[.pointer (some ⟨b, 0, none⟩), .int .u32 c, .int .i64 z] w fun e w' => e = .returned (.int .u32 (wd c (u64 z) : Nat)) ∧ w' = w := by
  obtain ⟨n, hn⟩ : ∃ n, u64 z = n := ⟨_, rfl⟩
  have hn64 : n < 18446744073709551616 := by rw [← hn]; exact u64_lt z
  have e1 : IntKind.u64.wrap z = (n : Int) := by rw [← hn, wrap_u64_eq]; unfold u64; omega
  have HW : Hid (wd c (u64 z) = wdU c n 8) := by rw [hn]; exact rfl
  clear hn
  go_enter Try.func68, Try.ntmps68
  go_wp2
  go_loop [1, 8] (fun c' i => ∃ j : Nat, j ≤ 8 ∧ i = .int .i64 j ∧ c' = .int .u32 (wdU c n j : Nat)) (fun _ i => 8 - (intOf i).toNat)
  case atStart => exact ⟨0, by omega, rfl, rfl⟩
  case round =>
    obtain ⟨j, hj, rfl, rfl⟩ := hrel
    by_cases hlt : j < 8
    · have hm := wdU_lt n j hc
      have HS : Hid (wdU c n (j + 1) = byF (wdU c n j) (bt n j)) := rfl
      have hb := bt_lt n j
      have e2 := bt_int n j
      go_wp2_with (go_at_call 77; refine (addByte_any _ _ _ _ hT hm hb).mono ?_; rintro e w' ⟨rfl, hw⟩; rw [hw]; clear hw w')
      go_round
      case rel => exact ⟨j + 1, by omega, by go_num, by rw [HS.out]⟩
      case measure => simp [intOf]; omega
    · obtain rfl : j = 8 := by omega
      go_wp2
      go_ret
      exact ⟨ret_int (by rw [HW.out]), rfl⟩
/-- A list that is the table's. -/
def IsTab (L : List Value) : Prop := L = tbL
theorem IsTab.size {L : List Value} (h : IsTab L) : (Try.prog.info? 104).map (·.size) = some L.toArray.size := by rw [h]; exact Try.size104
theorem IsTab.one {L : List Value} (h : IsTab L) : L.toArray.all (·.oneCell') = true := by rw [h]; exact tbL_one
theorem IsTab.there {L : List Value} (h : IsTab L) (W : World) : (W.alloc (.cells z16 104)).there W.heap.size 0 L.toArray.size := by rw [h]; exact row_there (z16_row W)
/-- A block of a table's size, made and filled. -/
theorem IsTab.tab {L : List Value} (h : IsTab L) (W : World) : Tab ((W.alloc (.cells z16 104)).setCells W.heap.size 0 L) W.heap.size := by
  rw [h]
  have ht : (W.alloc (.cells z16 104)).there W.heap.size 0 tbL.length := row_there (z16_row W)
  have hc : ∀ i, i < 16 → ((W.alloc (.cells z16 104)).setCells W.heap.size 0 tbL).cell? ⟨W.heap.size, i, none⟩ = some (tb i) := by
    intro i hi
    have := World.rangeAt_setCells_same _ _ _ tbL ht i (tb i) (by simp [tbL, hi])
    simpa using this
  exact ⟨World.block_lt_of_cell? _ _ (hc 0 (by omega)), hc⟩
theorem table_is (w : World) : Calls Try.prog 67 #[] w fun e w' => ∃ L : List Value, e = .returned (.agg L.toArray) ∧ IsTab L ∧ Below w.heap.size w w' := by
  refine (table_any w).mono ?_
  rintro e w' ⟨rfl, h⟩
  exact ⟨tbL, rfl, rfl, h⟩
/-- The slice v holds the ints zs. -/
def Rd (W : World) (v : Value) (zs : List Int) : Prop :=
  (∀ z ∈ zs, -9223372036854775808 ≤ z ∧ z < 9223372036854775808) ∧ zs.length ≤ 1000 ∧
  ∃ a cap, v = .slice a zs.length cap ∧ ((zs = [] ∧ (a = none → cap = 0)) ∨ ∃ b off, a = some ⟨b, off, none⟩ ∧ b < W.heap.size ∧ ∀ j, j < zs.length → W.cell? ⟨b, off + j, none⟩ = some (.int .i64 (zs[j]?.getD 0)))
theorem Rd.below {W W' : World} {v : Value} {zs : List Int} (h : Rd W v zs) (hb : Below W.heap.size W W') : Rd W' v zs := by
  obtain ⟨h1, h2, a, cap, rfl, h3⟩ := h
  refine ⟨h1, h2, a, cap, rfl, ?_⟩
  rcases h3 with h | ⟨b, off, rfl, hlt, hc⟩
  · exact .inl h
  · exact .inr ⟨b, off, rfl, Nat.lt_of_lt_of_le hlt hb.size, fun j hj => (hb.cell (p := ⟨b, off + j, none⟩) hlt).trans (hc j hj)⟩
theorem Rd.at {W : World} {a : Option Addr} {n cap : Nat} {zs : List Int} (h : Rd W (.slice a n cap) zs) (k : Nat) (hk : k < zs.length) :
    ∃ b off, a = some ⟨b, off, none⟩ ∧ W.cell? ⟨b, off + k, none⟩ = some (.int .i64 (zs[k]?.getD 0)) := by
  obtain ⟨_, _, a', cap', e, h3⟩ := h
  cases e
  rcases h3 with ⟨rfl, _⟩ | ⟨b, off, rfl, _, hc⟩
  · simp at hk
  · exact ⟨b, off, rfl, hc k hk⟩
theorem goF_take (c : Nat) (zs : List Int) (k : Nat) (h : k < zs.length) : goF c (zs.take (k + 1)) = wd (goF c (zs.take k)) (u64 (zs[k]'h)) := by
  rw [List.take_succ_eq_append_getElem h, goF_one]
set_option maxRecDepth 100000 in
set_option maxHeartbeats 1000000 in
theorem of_any (v : Value) (zs : List Int) (w : World) (hR : Rd w v zs) :
    Calls Try.prog 57 #[v] w fun e w' => e = .returned (.int .i64 (ofF zs : Nat)) ∧ Below w.heap.size w w' := by
  have hR' := hR
  obtain ⟨_, hl, a, cap, rfl, _⟩ := hR
  go_enter Try.func57, Try.ntmps57
  go_wp2_with (first
    | (go_at_call 67; refine (table_is _).mono ?_; rintro e w1 ⟨L, rfl, hL, hb1⟩; have hb2 := bstep hb1 (below_setCells w1.heap.size L 0 (Nat.le_refl _) ((Below.refl _ w1).alloc (Nat.le_refl _) (.cells z16 104))))
    | (refine wpList_store_mid rfl 104 _ _ rfl w1.heap.size 0 L.toArray rfl rfl (hL.there w1) hL.size hL.one ?_; have hT := hL.tab w1; have hR2 := hR'.below hb2; unfold z16 at hT hR2 hb2; generalize ((w1.alloc (.cells #[.int .u32 0, .int .u32 0, .int .u32 0, .int .u32 0, .int .u32 0, .int .u32 0, .int .u32 0, .int .u32 0, .int .u32 0, .int .u32 0, .int .u32 0, .int .u32 0, .int .u32 0, .int .u32 0, .int .u32 0, .int .u32 0] 104)).setCells w1.heap.size 0 L) = w2 at hT hR2 hb2 ⊢; clear hL))
  go_loop [4, 10] (fun c i => ∃ k : Nat, k ≤ zs.length ∧ i = .int .i64 k ∧ c = .int .u32 (goF 4294967295 (zs.take k) : Nat)) (fun _ i => zs.length - (intOf i).toNat)
  case atStart => exact ⟨0, by omega, rfl, rfl⟩
  case round =>
    obtain ⟨k, hk, rfl, rfl⟩ := hrel
    have hg := goF_lt (zs.take k) (show 4294967295 < 4294967296 by omega)
    by_cases hlt : k < zs.length
    · have HS : Hid (goF 4294967295 (zs.take (k + 1)) = wd (goF 4294967295 (zs.take k)) (u64 (zs[k]'hlt))) := goF_take _ zs k hlt
      obtain ⟨bb, off, rfl, hc⟩ := hR2.at k hlt
      go_wp2_with (go_at_call 68; refine (addWord_any _ _ _ _ hT hg).mono ?_; rintro e w' ⟨rfl, hw⟩; rw [hw]; clear hw w')
      go_round
      case rel => exact ⟨k + 1, by omega, by go_num, by rw [HS.out]⟩
      case measure => simp [intOf]; omega
    · have HE : Hid (ofF zs = 4294967295 - goF 4294967295 (zs.take k)) := by rw [List.take_of_length_le (by omega)]; exact rfl
      generalize goF 4294967295 (zs.take k) = g at hg HE
      go_wp2
      go_ret
      exact ⟨ret_int (by rw [HE.out]; omega), hb2⟩
end Go.Proofs.Ytgcdhenbpkcmgaa.Sm
