/- Set over from a lower layer: SSumz. -/
import Derived.Test.YtcgclhahonndbaaGreatBase
import Derived.Test.YtcgclhahonndbaaGreatNNumz
import Derived.Maps.OwnOps
import Derived.Laws.StructEq
import Derived.Deep.Strs
import Derived.Deep.Slices
import Derived.Deep.RegionLaw
import Derived.Deep.QuietTactic
import Derived.BigQuiet
import Derived.WalkSmall
import Derived.Laws.BitsAllLaws
import Derived.Deep.MidRow
import Derived.Deep.OwnRows
import Derived.Lib.SliceRun
import Derived.Deep.RegionHeld3
import Derived.Laws.ResultCell
import Derived.Deep.AppendLies
import Derived.Shelf.Abstract
import Derived.Deep.RegionWith
import Derived.Laws.CopyOwn
import Derived.RangeFuncBox
import Derived.RangeFuncNested
import Derived.RangeFuncBound
import Derived.RangeFuncCalls
import Derived.RangeFuncLeaves
import Derived.Shelf.RegionOpen
import Derived.OwnWalkIn
import Derived.TacticsInMore
import Derived.LoopNIn
import Derived.LoopIn
import Derived.Maps.AppendAt
import Derived.Shelf.SlSortCmp.QuietGrown
import Derived.Lib.AppendZeros
namespace Go.Proofs.YtcgclhahonndbaaGreat
open Go.RowKit Go.Shelf
set_option linter.unusedVariables false
/-- Steps of a box. -/
def B3 (W : World) (b : Nat) (x : Mi) : Prop := W.cell? ⟨b, 0, none⟩ = some (.int .i64 x.k) ∧ W.cell? ⟨b, 1, none⟩ = some (.int .i64 x.a) ∧ W.cell? ⟨b, 2, none⟩ = some (.int .i64 x.v)
end Go.Proofs.YtcgclhahonndbaaGreat
namespace Go.Proofs.YtcgclhahonndbaaGreat
open Go.RowKit Go.Shelf
set_option linter.unusedVariables false
/-- Three boxes are made: a step's, a memory's, the answer's. -/
def W3 (w : World) (x : Mi) (u1 u2 u3 : Value) : World := ((w.alloc (.cells #[.int .i64 x.k, .int .i64 x.a, .int .i64 x.v] 99999)).alloc (.cells #[u1, u2, u3] 99999)).alloc (.cells #[.slice none 0 0, .slice none 0 0, .slice none 0 0] 99999)
theorem W3.below (w : World) (x : Mi) (u1 u2 u3 : Value) : Below w.heap.size w (W3 w x u1 u2 u3) := (((Below.refl _ _).alloc (Nat.le_refl _) _).alloc (by simp) _).alloc (by simp; omega) _
end Go.Proofs.YtcgclhahonndbaaGreat
namespace Go.Proofs.YtcgclhahonndbaaGreat
open Go.RowKit Go.Shelf
set_option linter.unusedVariables false
end Go.Proofs.YtcgclhahonndbaaGreat
namespace Go.Proofs.YtcgclhahonndbaaGreat.Sm
/-- A check, moved once. -/
def mv (x : Nat) : Nat := if x % 2 = 1 then (x / 2) ^^^ 3988292384 else x / 2
def mvs : Nat → Nat → Nat
  | 0, x => x
  | k + 1, x => mv (mvs k x)
theorem mvs_succ (k x : Nat) : mvs (k + 1) x = mv (mvs k x) := rfl
theorem mv_odd {x : Nat} (h : x % 2 = 1) : mv x = (x / 2) ^^^ 3988292384 := if_pos h
theorem mv_even {x : Nat} (h : x % 2 = 0) : mv x = x / 2 := if_neg (by omega)
theorem xor_mod2 (a b : Nat) : (a ^^^ b) % 2 = (a % 2 + b % 2) % 2 := by
  have h := Nat.xor_mod_two_pow (a := a) (b := b) (n := 1)
  simp only [Nat.pow_one] at h
  rw [h]
  rcases Nat.mod_two_eq_zero_or_one a with ha | ha <;> rcases Nat.mod_two_eq_zero_or_one b with hb | hb <;> rw [ha, hb] <;> rfl
theorem xor_div2 (a b : Nat) : (a ^^^ b) / 2 = a / 2 ^^^ b / 2 := by
  have h := Nat.xor_div_two_pow (a := a) (b := b) (n := 1)
  simpa using h
theorem xor_swap (a b c d : Nat) : a ^^^ b ^^^ (c ^^^ d) = a ^^^ c ^^^ (b ^^^ d) := by
  rw [Nat.xor_assoc, ← Nat.xor_assoc b c d, Nat.xor_comm b c, Nat.xor_assoc c b d, ← Nat.xor_assoc]
theorem mv_xor (a b : Nat) : mv (a ^^^ b) = mv a ^^^ mv b := by
  have h2 := xor_mod2 a b
  have hd := xor_div2 a b
  rcases Nat.mod_two_eq_zero_or_one a with ha | ha <;> rcases Nat.mod_two_eq_zero_or_one b with hb | hb <;> rw [ha, hb] at h2
  · rw [mv_even h2, mv_even ha, mv_even hb, hd]
  · rw [mv_odd h2, mv_even ha, mv_odd hb, hd, Nat.xor_assoc]
  · rw [mv_odd h2, mv_odd ha, mv_even hb, hd, Nat.xor_assoc, Nat.xor_assoc, Nat.xor_comm (b / 2)]
  · rw [mv_even h2, mv_odd ha, mv_odd hb, hd, xor_swap, Nat.xor_self, Nat.xor_zero]
theorem mv_lt {x : Nat} (h : x < 4294967296) : mv x < 4294967296 := by
  unfold mv
  split
  · exact Nat.xor_lt_two_pow (n := 32) (by omega) (by omega)
  · omega
theorem mv_double (x : Nat) : mv (2 * x) = x := by rw [mv_even (by omega)]; omega
theorem mvs_xor (k a b : Nat) : mvs k (a ^^^ b) = mvs k a ^^^ mvs k b := by
  induction k with
  | zero => rfl
  | succ k ih => rw [mvs_succ, ih, mv_xor]; rfl
theorem mvs_lt (k : Nat) {x : Nat} (h : x < 4294967296) : mvs k x < 4294967296 := by
  induction k with
  | zero => exact h
  | succ k ih => exact mv_lt ih
theorem mvs_add (j k x : Nat) : mvs (j + k) x = mvs j (mvs k x) := by
  induction j with
  | zero => rw [Nat.zero_add]; rfl
  | succ j ih => rw [show j + 1 + k = j + k + 1 by omega, mvs_succ, ih]; rfl
theorem mvs_in (k x : Nat) : mvs (k + 1) x = mvs k (mv x) := mvs_add k 1 x
theorem mvs_up (k x : Nat) : mvs k (2 ^ k * x) = x := by
  induction k with
  | zero => simp [mvs]
  | succ k ih => rw [mvs_in, show 2 ^ (k + 1) * x = 2 * (2 ^ k * x) by rw [Nat.pow_succ]; simp [Nat.mul_comm, Nat.mul_left_comm], mv_double, ih]
theorem join_xor (k h r : Nat) (hr : r < 2 ^ k) : 2 ^ k * h + r = (2 ^ k * h) ^^^ r := by
  apply Nat.eq_of_testBit_eq
  intro i
  rw [Nat.testBit_xor, Nat.testBit_two_pow_mul_add h hr, Nat.testBit_two_pow_mul]
  by_cases hi : i < k
  · simp [hi, Nat.not_le.2 hi]
  · have : r.testBit i = false := Nat.testBit_lt_two_pow (Nat.lt_of_lt_of_le hr (Nat.pow_le_pow_right (by decide) (by omega)))
    simp [hi, this, Nat.le_of_not_lt hi]
/-- Four moves at once: what the lowest half byte becomes, and the rest, moved down. -/
theorem mvs_four (c : Nat) : c / 16 ^^^ mvs 4 (c % 16) = mvs 4 c := by
  have h : c = (2 ^ 4 * (c / 16)) ^^^ (c % 16) := by
    rw [← join_xor 4 _ _ (by omega)]
    omega
  conv => rhs; rw [h]
  rw [mvs_xor, mvs_up]
/-- The check with one byte more. -/
def byF (c b : Nat) : Nat := mvs 8 (c ^^^ b)
theorem byF_lt {c b : Nat} (hc : c < 4294967296) (hb : b < 256) : byF c b < 4294967296 := mvs_lt 8 (Nat.xor_lt_two_pow (n := 32) hc (by omega))
/-- The byte at place i of a word's eight, the highest first; and the check behind k of them. -/
def bt (n i : Nat) : Nat := n / 2 ^ (56 - 8 * i) % 256
def wdU (c n : Nat) : Nat → Nat
  | 0 => c
  | k + 1 => byF (wdU c n k) (bt n k)
/-- The check with a word more. -/
def wd (c n : Nat) : Nat := wdU c n 8
theorem bt_lt (n i : Nat) : bt n i < 256 := Nat.mod_lt _ (by decide)
theorem wdU_lt {c : Nat} (n k : Nat) (hc : c < 4294967296) : wdU c n k < 4294967296 := by
  induction k with
  | zero => exact hc
  | succ k ih => exact byF_lt ih (bt_lt _ _)
theorem wd_lt {c : Nat} (n : Nat) (hc : c < 4294967296) : wd c n < 4294967296 := wdU_lt n 8 hc
/-- A word as a number of 64 bits. -/
def u64 (z : Int) : Nat := (z % 18446744073709551616).toNat
theorem u64_lt (z : Int) : u64 z < 18446744073709551616 := by unfold u64; omega
/-- The check behind the words of a list, from c on. -/
def goF (c : Nat) : List Int → Nat
  | [] => c
  | z :: l => goF (wd c (u64 z)) l
theorem goF_append (c : Nat) (l m : List Int) : goF c (l ++ m) = goF (goF c l) m := by
  induction l generalizing c with
  | nil => rfl
  | cons z l ih => exact ih _
theorem goF_one (c : Nat) (l : List Int) (z : Int) : goF c (l ++ [z]) = wd (goF c l) (u64 z) := by rw [goF_append]; rfl
theorem goF_lt {c : Nat} (l : List Int) (h : c < 4294967296) : goF c l < 4294967296 := by
  induction l generalizing c with
  | nil => exact h
  | cons z l ih => exact ih (wd_lt _ h)
/-- The check of words. -/
def ofF (l : List Int) : Nat := 4294967295 - goF 4294967295 l
end Go.Proofs.YtcgclhahonndbaaGreat.Sm
namespace Go.Proofs.YtcgclhahonndbaaGreat.Sm
open Go.RowKit
theorem ret_int {k : IntKind} {a b : Int} (h : a = b) : Ending.returned (.int k a) = .returned (.int k b) := by rw [h]
theorem bstep {w a b : World} (h : Below w.heap.size w a) (k : Below a.heap.size a b) : Below w.heap.size w b := h.trans (k.mono h.size)
theorem and_one (x : Nat) (h : x < 4294967296) : bits .and .u32 (x : Int) 1 = (x : Int) % 2 := by
  have := u32_and_nat x 1 h (by omega)
  rw [nat_mask1] at this
  simpa using this
theorem xor_turns (x : Nat) (h : x < 4294967296) (e : x % 2 = 1) : bits .xor .u32 ((x : Int) / 2) 3988292384 = (mv x : Int) := by
  have := u32_xor_nat (x / 2) 3988292384 (by omega) (by omega)
  rw [mv_odd e]
  simpa using this
set_option maxRecDepth 100000 in
theorem move_any (x : Nat) (w : World) (h : x < 4294967296) : Calls Tryz.prog 109 #[.int .u32 x] w fun e w' => e = .returned (.int .u32 (mv x : Nat)) ∧ w' = w := by
  have h1 := and_one x h
  by_cases e : x % 2 = 1
  · have h2 := xor_turns x h e
    have h3 : ((x : Int) % 2 == 1) = true := by simp; omega
    clear e
    go_enter Tryz.func109, Tryz.ntmps109
    go_wp2
    go_ret
    exact ⟨ret_int rfl, rfl⟩
  · have h3 : ((x : Int) % 2 == 1) = false := by simp; omega
    have H : Hid (mv x = x / 2) := mv_even (by omega)
    clear e
    go_enter Tryz.func109, Tryz.ntmps109
    go_wp2
    go_ret
    exact ⟨ret_int (by rw [H.out]; simp), rfl⟩
end Go.Proofs.YtcgclhahonndbaaGreat.Sm
namespace Go.Proofs.YtcgclhahonndbaaGreat.Sm
open Go.RowKit
/-- What the table holds at a place. -/
def tb (i : Nat) : Value := .int .u32 (mvs 4 i : Nat)
/-- The table while it is made: k places are. -/
def tbU (k i : Nat) : Value := if i < k then tb i else .int .u32 0
def tbL : List Value := (List.range 16).map tb
def z16 : Array Value := #[.int .u32 0, .int .u32 0, .int .u32 0, .int .u32 0, .int .u32 0, .int .u32 0, .int .u32 0, .int .u32 0, .int .u32 0, .int .u32 0, .int .u32 0, .int .u32 0, .int .u32 0, .int .u32 0, .int .u32 0, .int .u32 0]
theorem z16_row (W : World) : (W.alloc (.cells z16 112)).rowIs W.heap.size 112 16 (tbU 0) := by
  refine World.rowIs_alloc W z16 112 (tbU 0) ?_
  intro i hi
  have hi : i < 16 := hi
  obtain rfl | rfl | rfl | rfl | rfl | rfl | rfl | rfl | rfl | rfl | rfl | rfl | rfl | rfl | rfl | rfl : i = 0 ∨ i = 1 ∨ i = 2 ∨ i = 3 ∨ i = 4 ∨ i = 5 ∨ i = 6 ∨ i = 7 ∨ i = 8 ∨ i = 9 ∨ i = 10 ∨ i = 11 ∨ i = 12 ∨ i = 13 ∨ i = 14 ∨ i = 15 := by omega
  all_goals rfl
theorem z16_start (w : World) : ((w.alloc (.cells z16 112)).alloc (.cells z16 112)).rowIs w.heap.size 112 16 (tbU 0) ∧ ((w.alloc (.cells z16 112)).alloc (.cells z16 112)).rowIs (w.heap.size + 1) 112 16 (tbU 0) ∧ Below w.heap.size w ((w.alloc (.cells z16 112)).alloc (.cells z16 112)) := by
  refine ⟨(z16_row w).alloc _, ?_, ((Below.refl _ w).alloc (Nat.le_refl _) _).alloc (by simp) _⟩
  have := z16_row (w.alloc (.cells z16 112))
  simpa using this
theorem tbU_succ (k i : Nat) : (if i = k then tb k else tbU k i) = tbU (k + 1) i := by
  unfold tbU
  by_cases h : i = k
  · subst h; simp
  · rw [if_neg h]
    by_cases h2 : i < k
    · rw [if_pos h2, if_pos (by omega)]
    · rw [if_neg h2, if_neg (by omega)]
theorem tbL_at (j : Nat) (v : Value) (h : tbL[j]? = some v) : j < 16 ∧ v = tb j := by
  unfold tbL at h
  rw [List.getElem?_map] at h
  by_cases hj : j < 16
  · rw [List.getElem?_range hj] at h
    exact ⟨hj, by simpa using h.symm⟩
  · rw [List.getElem?_eq_none (by simp; omega)] at h
    cases h
theorem tbL_len : tbL.length = 16 := by simp [tbL]
theorem tbL_one : tbL.toArray.all (·.oneCell') = true := all_oneCell_toArray (by
  intro v hv
  obtain ⟨j, _, rfl⟩ := List.mem_map.1 hv
  rfl)
theorem row_range {W : World} {b k : Nat} (h : W.rowIs b 112 16 (tbU k)) (hk : 16 ≤ k) : W.rangeAt b 0 tbL := by
  intro j v hv
  obtain ⟨hj, rfl⟩ := tbL_at j v hv
  rw [Nat.zero_add, h.cell hj]
  unfold tbU
  rw [if_pos (by omega)]
theorem row_there {W : World} {b : Nat} {f : Nat → Value} (h : W.rowIs b 112 16 f) : W.there b 0 tbL.length := by
  intro j hj
  rw [tbL_len] at hj
  rw [Nat.zero_add, h.cell hj]
  exact ⟨rfl, h.frozen j⟩
theorem below_setCells (b : Nat) : ∀ (vs : List Value) (o : Nat) {w W : World} (_ : w.heap.size ≤ b) (_ : Below w.heap.size w W), Below w.heap.size w (W.setCells b o vs)
  | [], _, _, _, _, h => h
  | v :: r, o, _, _, hb, h => below_setCells b r (o + 1) hb (h.setCell hb v)
theorem Tryz.size112 : (Tryz.prog.info? 112).map (·.size) = some tbL.length := by kernel_rfl
set_option maxRecDepth 100000 in
set_option maxHeartbeats 1000000 in
theorem table_any (w : World) : Calls Tryz.prog 81 #[] w fun e w' => e = .returned (.agg tbL.toArray) ∧ Below w.heap.size w w' := by
  go_enter Tryz.func81, Tryz.ntmps81
  go_wp2
  go_loopw [4] (fun i w1 => ∃ k : Nat, k ≤ 16 ∧ i = .int .u32 k ∧ w1.rowIs w.heap.size 112 16 (tbU 0) ∧ w1.rowIs (w.heap.size + 1) 112 16 (tbU k) ∧ Below w.heap.size w w1) (fun i _ => 16 - (intOf i).toNat)
  case atStart => exact ⟨0, by omega, rfl, z16_start w⟩
  case round =>
    obtain ⟨k, hk, rfl, hR0, hR1, hbel⟩ := hrel
    by_cases hlt : k < 16
    · have hltI : (k : Int) < 16 := by omega
      go_wp2
      go_loop [3, 8] (fun c i => ∃ j : Nat, j ≤ 4 ∧ i = .int .i64 j ∧ c = .int .u32 (mvs j k : Nat)) (fun _ i => 4 - (intOf i).toNat)
      case atStart => exact ⟨0, by omega, rfl, rfl⟩
      case round =>
        obtain ⟨j, hj, rfl, rfl⟩ := hrel
        by_cases hlt2 : j < 4
        · have hm := mvs_lt j (show k < 4294967296 by omega)
          go_wp2_with (go_at_call 109; refine (move_any _ _ hm).mono ?_; rintro e w' ⟨rfl, hw⟩; rw [hw]; clear hw w')
          go_round
          case rel => exact ⟨j + 1, by omega, by go_num, rfl⟩
          case measure => simp [intOf]; omega
        · obtain rfl : j = 4 := by omega
          have hc := hR1.cell hlt
          have hf := hR1.frozen k
          go_wp2
          go_roundw
          case rel => exact ⟨k + 1, by omega, by go_num, hR0.setOther (by simp) _, (hR1.set k (tb k)).congr (fun i _ => tbU_succ k i), hbel.setCell (by simp) _⟩
          case measure => simp [intOf]; omega
    · have hrange := row_range hR1 (by omega)
      have hthere := row_there hR0
      have hres := World.rangeAt_setCells_same wr w.heap.size 0 tbL hthere
      go_wp2_with (first
        | refine wpList_load_mid rfl 112 _ rfl (w.heap.size + 1) 0 rfl tbL _ hrange Tryz.underlying112 rfl Tryz.size112 ?_
        | refine wpList_store_mid rfl 112 _ _ rfl w.heap.size 0 tbL.toArray rfl rfl hthere Tryz.size112 tbL_one ?_)
      refine bodyPost_ret (v := .agg tbL.toArray) ?_ rfl ⟨rfl, below_setCells _ _ _ (Nat.le_refl _) hbel⟩
      have := run_loadVar_mid (P := Tryz.prog) _ w.heap.size 0 112 tbL _ hres Tryz.underlying112 rfl Tryz.size112
      simp [results, Tryz.results81, asAddr, Act.put, this]
end Go.Proofs.YtcgclhahonndbaaGreat.Sm
namespace Go.Proofs.YtcgclhahonndbaaGreat.Sm
open Go.RowKit
/-- The table lies in block b. -/
def Tab (W : World) (b : Nat) : Prop := b < W.heap.size ∧ ∀ i, i < 16 → W.cell? ⟨b, i, none⟩ = some (tb i)
theorem Tab.below {W W' : World} {b : Nat} (h : Tab W b) (hb : Below W.heap.size W W') : Tab W' b :=
  ⟨Nat.lt_of_lt_of_le h.1 hb.size, fun i hi => (hb.cell (p := ⟨b, i, none⟩) h.1).trans (h.2 i hi)⟩
theorem Tab.at {W : World} {b : Nat} (h : Tab W b) {i : Nat} (hi : i < 16) : W.cell? ⟨b, i, none⟩ = some (.int .u32 (mvs 4 i : Nat)) := h.2 i hi
theorem and_15 (x : Nat) (h : x < 4294967296) : bits .and .u32 (x : Int) 15 = ((x % 16 : Nat) : Int) := by
  have := u32_and_nat x 15 h (by omega)
  rwa [nat_mask4] at this
theorem xor_four (x : Nat) (h : x < 4294967296) : bits .xor .u32 ((x : Int) / 16) (mvs 4 (x % 16) : Nat) = (mvs 4 x : Nat) := by
  have := u32_xor_nat (x / 16) (mvs 4 (x % 16)) (by omega) (mvs_lt 4 (by omega))
  rw [mvs_four] at this
  simpa using this
set_option maxRecDepth 100000 in
set_option maxHeartbeats 1000000 in
theorem addByte_any (b c y : Nat) (w : World) (hT : Tab w b) (hc : c < 4294967296) (hy : y < 256) :
    Calls Tryz.prog 110 #[.pointer (some ⟨b, 0, none⟩), .int .u32 c, .int .u8 y] w fun e w' => e = .returned (.int .u32 (byF c y : Nat)) ∧ w' = w := by
  obtain ⟨x, hx⟩ : ∃ x, c ^^^ y = x := ⟨_, rfl⟩
  have hx32 : x < 4294967296 := by rw [← hx]; exact Nat.xor_lt_two_pow (n := 32) hc (by omega)
  have e1 := u32_xor_nat c y hc (by omega)
  rw [hx] at e1
  have HB : Hid (byF c y = mvs 8 x) := by rw [← hx]; exact rfl
  clear hx
  go_enter Tryz.func110, Tryz.ntmps110
  go_wp2
  go_loop [1, 11] (fun c i => ∃ j : Nat, j ≤ 2 ∧ i = .int .i64 j ∧ c = .int .u32 (mvs (4 * j) x : Nat)) (fun _ i => 2 - (intOf i).toNat)
  case atStart => exact ⟨0, by omega, rfl, rfl⟩
  case round =>
    obtain ⟨j, hj, rfl, rfl⟩ := hrel
    by_cases hlt : j < 2
    · have hm := mvs_lt (4 * j) hx32
      have HS : Hid (mvs (4 * (j + 1)) x = mvs 4 (mvs (4 * j) x)) := by rw [show 4 * (j + 1) = 4 + 4 * j by omega]; exact mvs_add 4 (4 * j) x
      generalize mvs (4 * j) x = s at hm HS
      have e2 := and_15 s hm
      have e3 := xor_four s hm
      have e4 := hT.at (show s % 16 < 16 by omega)
      obtain ⟨m, hm2⟩ : ∃ m, s % 16 = m := ⟨_, rfl⟩
      have hm16 : m < 16 := by omega
      rw [hm2] at e2 e3 e4
      clear hm2
      go_wp2
      go_round
      case rel => exact ⟨j + 1, by omega, by go_num, by rw [HS.out]⟩
      case measure => simp [intOf]; omega
    · obtain rfl : j = 2 := by omega
      go_wp2
      go_ret
      exact ⟨ret_int (by rw [HB.out]), rfl⟩
theorem wrap_u64_eq (z : Int) : IntKind.u64.wrap z = z % 18446744073709551616 := by simp [IntKind.wrap, IntKind.bits, IntKind.signed]
theorem bt_int (n j : Nat) : (n : Int) / 2 ^ (56 - 8 * j) % 256 = (bt n j : Nat) := by
  unfold bt
  rw [Int.natCast_emod, Int.natCast_ediv, Int.natCast_pow]
  rfl
set_option maxRecDepth 100000 in
set_option maxHeartbeats 1000000 in
theorem addWord_any (b c : Nat) (z : Int) (w : World) (hT : Tab w b) (hc : c < 4294967296) :
    Calls Tryz.prog 82 #[.pointer (some ⟨b, 0, none⟩), .int .u32 c, .int .i64 z] w fun e w' => e = .returned (.int .u32 (wd c (u64 z) : Nat)) ∧ w' = w := by
  obtain ⟨n, hn⟩ : ∃ n, u64 z = n := ⟨_, rfl⟩
  have hn64 : n < 18446744073709551616 := by rw [← hn]; exact u64_lt z
  have e1 : IntKind.u64.wrap z = (n : Int) := by rw [← hn, wrap_u64_eq]; unfold u64; omega
  have HW : Hid (wd c (u64 z) = wdU c n 8) := by rw [hn]; exact rfl
  clear hn
  go_enter Tryz.func82, Tryz.ntmps82
  go_wp2
  go_loop [1, 8] (fun c' i => ∃ j : Nat, j ≤ 8 ∧ i = .int .i64 j ∧ c' = .int .u32 (wdU c n j : Nat)) (fun _ i => 8 - (intOf i).toNat)
  case atStart => exact ⟨0, by omega, rfl, rfl⟩
  case round =>
    obtain ⟨j, hj, rfl, rfl⟩ := hrel
    by_cases hlt : j < 8
    · have hm := wdU_lt n j hc
      have HS : Hid (wdU c n (j + 1) = byF (wdU c n j) (bt n j)) := rfl
      have hb := bt_lt n j
      have e2 := bt_int n j
      go_wp2_with (go_at_call 110; refine (addByte_any _ _ _ _ hT hm hb).mono ?_; rintro e w' ⟨rfl, hw⟩; rw [hw]; clear hw w')
      go_round
      case rel => exact ⟨j + 1, by omega, by go_num, by rw [HS.out]⟩
      case measure => simp [intOf]; omega
    · obtain rfl : j = 8 := by omega
      go_wp2
      go_ret
      exact ⟨ret_int (by rw [HW.out]), rfl⟩
/-- A list that is the table's. -/
def IsTab (L : List Value) : Prop := L = tbL
theorem IsTab.size {L : List Value} (h : IsTab L) : (Tryz.prog.info? 112).map (·.size) = some L.toArray.size := by rw [h]; exact Tryz.size112
theorem IsTab.one {L : List Value} (h : IsTab L) : L.toArray.all (·.oneCell') = true := by rw [h]; exact tbL_one
theorem IsTab.there {L : List Value} (h : IsTab L) (W : World) : (W.alloc (.cells z16 112)).there W.heap.size 0 L.toArray.size := by rw [h]; exact row_there (z16_row W)
/-- A block of a table's size, made and filled. -/
theorem IsTab.tab {L : List Value} (h : IsTab L) (W : World) : Tab ((W.alloc (.cells z16 112)).setCells W.heap.size 0 L) W.heap.size := by
  rw [h]
  have ht : (W.alloc (.cells z16 112)).there W.heap.size 0 tbL.length := row_there (z16_row W)
  have hc : ∀ i, i < 16 → ((W.alloc (.cells z16 112)).setCells W.heap.size 0 tbL).cell? ⟨W.heap.size, i, none⟩ = some (tb i) := by
    intro i hi
    have := World.rangeAt_setCells_same _ _ _ tbL ht i (tb i) (by simp [tbL, hi])
    simpa using this
  exact ⟨World.block_lt_of_cell? _ _ (hc 0 (by omega)), hc⟩
theorem table_is (w : World) : Calls Tryz.prog 81 #[] w fun e w' => ∃ L : List Value, e = .returned (.agg L.toArray) ∧ IsTab L ∧ Below w.heap.size w w' := by
  refine (table_any w).mono ?_
  rintro e w' ⟨rfl, h⟩
  exact ⟨tbL, rfl, rfl, h⟩
/-- The slice v holds the ints zs. -/
def Rd (W : World) (v : Value) (zs : List Int) : Prop :=
  (∀ z ∈ zs, -9223372036854775808 ≤ z ∧ z < 9223372036854775808) ∧ zs.length ≤ 1000 ∧
  ∃ a cap, v = .slice a zs.length cap ∧ ((zs = [] ∧ (a = none → cap = 0)) ∨ ∃ b off, a = some ⟨b, off, none⟩ ∧ b < W.heap.size ∧ ∀ j, j < zs.length → W.cell? ⟨b, off + j, none⟩ = some (.int .i64 (zs[j]?.getD 0)))
theorem Rd.below {W W' : World} {v : Value} {zs : List Int} (h : Rd W v zs) (hb : Below W.heap.size W W') : Rd W' v zs := by
  obtain ⟨h1, h2, a, cap, rfl, h3⟩ := h
  refine ⟨h1, h2, a, cap, rfl, ?_⟩
  rcases h3 with h | ⟨b, off, rfl, hlt, hc⟩
  · exact .inl h
  · exact .inr ⟨b, off, rfl, Nat.lt_of_lt_of_le hlt hb.size, fun j hj => (hb.cell (p := ⟨b, off + j, none⟩) hlt).trans (hc j hj)⟩
theorem Rd.at {W : World} {a : Option Addr} {n cap : Nat} {zs : List Int} (h : Rd W (.slice a n cap) zs) (k : Nat) (hk : k < zs.length) :
    ∃ b off, a = some ⟨b, off, none⟩ ∧ W.cell? ⟨b, off + k, none⟩ = some (.int .i64 (zs[k]?.getD 0)) := by
  obtain ⟨_, _, a', cap', e, h3⟩ := h
  cases e
  rcases h3 with ⟨rfl, _⟩ | ⟨b, off, rfl, _, hc⟩
  · simp at hk
  · exact ⟨b, off, rfl, hc k hk⟩
theorem goF_take (c : Nat) (zs : List Int) (k : Nat) (h : k < zs.length) : goF c (zs.take (k + 1)) = wd (goF c (zs.take k)) (u64 (zs[k]'h)) := by
  rw [List.take_succ_eq_append_getElem h, goF_one]
set_option maxRecDepth 100000 in
set_option maxHeartbeats 1000000 in
theorem of_any (v : Value) (zs : List Int) (w : World) (hR : Rd w v zs) :
    Calls Tryz.prog 57 #[v] w fun e w' => e = .returned (.int .i64 (ofF zs : Nat)) ∧ Below w.heap.size w w' := by
  have hR' := hR
  obtain ⟨_, hl, a, cap, rfl, _⟩ := hR
  go_enter Tryz.func57, Tryz.ntmps57
  go_wp2_with (first
    | (go_at_call 81; refine (table_is _).mono ?_; rintro e w1 ⟨L, rfl, hL, hb1⟩; have hb2 := bstep hb1 (below_setCells w1.heap.size L 0 (Nat.le_refl _) ((Below.refl _ w1).alloc (Nat.le_refl _) (.cells z16 112))))
    | (refine wpList_store_mid rfl 112 _ _ rfl w1.heap.size 0 L.toArray rfl rfl (hL.there w1) hL.size hL.one ?_; have hT := hL.tab w1; have hR2 := hR'.below hb2; unfold z16 at hT hR2 hb2; generalize ((w1.alloc (.cells #[.int .u32 0, .int .u32 0, .int .u32 0, .int .u32 0, .int .u32 0, .int .u32 0, .int .u32 0, .int .u32 0, .int .u32 0, .int .u32 0, .int .u32 0, .int .u32 0, .int .u32 0, .int .u32 0, .int .u32 0, .int .u32 0] 112)).setCells w1.heap.size 0 L) = w2 at hT hR2 hb2 ⊢; clear hL))
  go_loop [4, 10] (fun c i => ∃ k : Nat, k ≤ zs.length ∧ i = .int .i64 k ∧ c = .int .u32 (goF 4294967295 (zs.take k) : Nat)) (fun _ i => zs.length - (intOf i).toNat)
  case atStart => exact ⟨0, by omega, rfl, rfl⟩
  case round =>
    obtain ⟨k, hk, rfl, rfl⟩ := hrel
    have hg := goF_lt (zs.take k) (show 4294967295 < 4294967296 by omega)
    by_cases hlt : k < zs.length
    · have HS : Hid (goF 4294967295 (zs.take (k + 1)) = wd (goF 4294967295 (zs.take k)) (u64 (zs[k]'hlt))) := goF_take _ zs k hlt
      obtain ⟨bb, off, rfl, hc⟩ := hR2.at k hlt
      go_wp2_with (go_at_call 82; refine (addWord_any _ _ _ _ hT hg).mono ?_; rintro e w' ⟨rfl, hw⟩; rw [hw]; clear hw w')
      go_round
      case rel => exact ⟨k + 1, by omega, by go_num, by rw [HS.out]⟩
      case measure => simp [intOf]; omega
    · have HE : Hid (ofF zs = 4294967295 - goF 4294967295 (zs.take k)) := by rw [List.take_of_length_le (by omega)]; exact rfl
      generalize goF 4294967295 (zs.take k) = g at hg HE
      go_wp2
      go_ret
      exact ⟨ret_int (by rw [HE.out]; omega), hb2⟩
end Go.Proofs.YtcgclhahonndbaaGreat.Sm
namespace Go.Proofs.YtcgclhahonndbaaGreat.Sm
open Go.RowKit
/-- A row of one number that was just laid is read. -/
theorem Rd.one (W : World) (z : Int) (h : -9223372036854775808 ≤ z ∧ z < 9223372036854775808) : Rd (W.alloc (.cells #[.int .i64 z] 3)) (.slice (some ⟨W.heap.size, 0, none⟩) 1 1) [z] := by
  refine ⟨by intro y hy; rw [List.mem_singleton.1 hy]; exact h, by simp, some ⟨W.heap.size, 0, none⟩, 1, rfl, .inr ⟨W.heap.size, 0, rfl, by simp, ?_⟩⟩
  intro j hj
  have : j = 0 := by simpa using hj
  subst this
  exact cell_one_new W (.int .i64 z) 3 0 _ rfl
end Go.Proofs.YtcgclhahonndbaaGreat.Sm
namespace Go.Proofs.YtcgclhahonndbaaGreat.Sm
open Go.RowKit
end Go.Proofs.YtcgclhahonndbaaGreat.Sm
namespace Go.Proofs.YtcgclhahonndbaaGreat.Sm
open Go.RowKit
end Go.Proofs.YtcgclhahonndbaaGreat.Sm
namespace Go.Proofs.YtcgclhahonndbaaGreat
open Go.RowKit
set_option linter.unusedVariables false
/-- There is an arena of so many blocks, with that root. -/
def mbB (n r : Int) : Bool := decide (2 ≤ n ∧ n ≤ 256 ∧ 1 ≤ r ∧ r < n)
theorem mbB_iff {n r : Int} : mbB n r = true ↔ 2 ≤ n ∧ n ≤ 256 ∧ 1 ≤ r ∧ r < n := by simp [mbB]
theorem mbB_no {n r : Int} (h : ¬ (2 ≤ n ∧ n ≤ 256 ∧ 1 ≤ r ∧ r < n)) : mbB n r = false := decide_eq_false h
theorem mbB_yes {n r : Int} (h : 2 ≤ n ∧ n ≤ 256 ∧ 1 ≤ r ∧ r < n) : mbB n r = true := decide_eq_true h
/-- The check of a first block. -/
def ckN (n : Int) : Int := ((Sm.ofF [7015, n] : Nat) : Int)
/-- A first block with a check. -/
def hdQ (n q r : Int) : List Int := [7015, n, q, r, 0, 0, 0, 0, 0, 0, 0, 0, 0, 0, 0, 0]
def hdW (n r : Int) : List Int := hdQ n (ckN n) r
theorem hdW_eq (n r : Int) : hdW n r = hdQ n (ckN n) r := by rw [hdW]
def wdL (n r : Int) : List Int := if mbB n r then hdW n r else []
def wdE (n r : Int) : Int := if mbB n r then 0 else 1
theorem wd_yes {n r : Int} (h : mbB n r = true) : wdL n r = hdW n r ∧ wdE n r = 0 := by simp [wdL, wdE, h]
theorem wd_no {n r : Int} (h : mbB n r = false) : wdL n r = [] ∧ wdE n r = 1 := by simp [wdL, wdE, h]
/-- What words tell. -/
def nbI (zs : List Int) : Int := ((zs.length / 16 : Nat) : Int)
def rtI (zs : List Int) : Int := zs.getD 3 0
def rdB (zs : List Int) : Bool := mbB (nbI zs) (rtI zs) && decide (zs.take 16 = hdW (nbI zs) (rtI zs))
def rdN (zs : List Int) : Int := if rdB zs then nbI zs else 0
def rdR (zs : List Int) : Int := if rdB zs then rtI zs else 0
def rdE (zs : List Int) : Int := if rdB zs then 0 else 80
theorem rd_yes {zs : List Int} (h : rdB zs = true) : rdN zs = nbI zs ∧ rdR zs = rtI zs ∧ rdE zs = 0 := by simp [rdN, rdR, rdE, h]
theorem rd_no {zs : List Int} (h : rdB zs = false) : rdN zs = 0 ∧ rdR zs = 0 ∧ rdE zs = 80 := by simp [rdN, rdR, rdE, h]
theorem rdB_short {zs : List Int} (h : zs.length < 32) : rdB zs = false := by
  unfold rdB nbI
  rw [mbB_no (by omega), Bool.false_and]
end Go.Proofs.YtcgclhahonndbaaGreat
namespace Go.Proofs.YtcgclhahonndbaaGreat
open Go.RowKit Go.Shelf
set_option linter.unusedVariables false
end Go.Proofs.YtcgclhahonndbaaGreat
namespace Go.Proofs.YtcgclhahonndbaaGreat
open Go.RowKit Go.Shelf
set_option linter.unusedVariables false
theorem rd_two (W : World) (x y : Int) {b : Nat} (hb : b = W.heap.size) : Rd (W.alloc (.cells #[.int .i64 x, .int .i64 y] 3)) (.slice (some ⟨b, 0, none⟩) 2 2) [x, y] := by
  subst hb
  refine ⟨rfl, by simp, some ⟨W.heap.size, 0, none⟩, 2, rfl, Nat.le_refl _, .inr ⟨W.heap.size, 0, rfl, by simp, ?_⟩⟩
  intro j u hj
  match j, hj with
  | 0, hj => cases hj; simp
  | 1, hj => cases hj; simp
end Go.Proofs.YtcgclhahonndbaaGreat
namespace Go.Proofs.YtcgclhahonndbaaGreat.Sm
open Go.RowKit
end Go.Proofs.YtcgclhahonndbaaGreat.Sm
namespace Go.Proofs.YtcgclhahonndbaaGreat
open Go.RowKit Go.Shelf Classical
set_option linter.unusedVariables false
def Fits (zs : List Int) : Prop := ∀ z ∈ zs, -9223372036854775808 ≤ z ∧ z < 9223372036854775808
theorem Rd.sm {W : World} {v : Value} {zs : List Int} (h : Rd W v zs) (hb : Fits zs) : Sm.Rd W v zs := by
  obtain ⟨h1, h2, a, cap, rfl, h0, h3⟩ := h
  refine ⟨hb, h2, a, cap, rfl, ?_⟩
  rcases h3 with ⟨h, h'⟩ | ⟨b, off, rfl, hlt, hc⟩
  · exact .inl ⟨List.eq_nil_of_length_eq_zero h, h'⟩
  · exact .inr ⟨b, off, rfl, hlt, fun j hj => hc j _ (by simp [List.getElem?_eq_getElem hj])⟩
/-- A head in a block of its own: sixteen words. -/
def SHw (W : World) (g : Nat) (L : List Int) : Prop := W.heap[g]? = some (.cells (L.map (Value.int .i64)).toArray 83 (0, 0))
theorem SHw.lt {W : World} {g : Nat} {L : List Int} (h : SHw W g L) : g < W.heap.size := (Array.getElem?_eq_some_iff.1 h).1
theorem SHw.belowN {W W' : World} {g n : Nat} {L : List Int} (h : SHw W g L) (hb : Below n W W') (hg : g < n) : SHw W' g L := (hb.block g hg).trans h
theorem SHw.below {W W' : World} {g : Nat} {L : List Int} (h : SHw W g L) (hb : Below W.heap.size W W') : SHw W' g L := h.belowN hb h.lt
theorem SHw.cell {W : World} {g : Nat} {L : List Int} (h : SHw W g L) {k : Nat} {z : Int} (hk : L[k]? = some z) : W.cell? ⟨g, k, none⟩ = some (.int .i64 z) := by
  simp [World.cell?, show W.heap[g]? = _ from h, hk]
theorem SHw.range {W : World} {g : Nat} {L : List Int} (h : SHw W g L) : W.rangeAt g 0 (L.map (Value.int .i64)) := by
  intro j v hv
  rw [List.getElem?_map] at hv
  obtain ⟨z, hz, rfl⟩ := Option.map_eq_some_iff.1 hv
  rw [Nat.zero_add]
  exact h.cell hz
theorem SHw.frozen {W : World} {g : Nat} {L : List Int} (h : SHw W g L) (k : Nat) : W.frozen? ⟨g, k, none⟩ = false := by
  simp [World.frozen?, show W.heap[g]? = _ from h]
theorem SHw.there {W : World} {g : Nat} {L : List Int} (h : SHw W g L) : W.there g 0 L.length := by
  intro j hj
  rw [Nat.zero_add, h.cell (List.getElem?_eq_getElem hj)]
  exact ⟨rfl, h.frozen j⟩
theorem SHw.rd {W : World} {g : Nat} {L : List Int} (h : SHw W g L) (off n c : Nat) (hn : off + n ≤ L.length) (hc : n ≤ c) (hl : n ≤ 1000) : Rd W (.slice (some ⟨g, off, none⟩) n c) ((L.drop off).take n) := by
  have e : ((L.drop off).take n).length = n := by simp; omega
  unfold Rd
  rw [e]
  refine ⟨by rw [List.length_map, e, Nat.mul_one], hl, some ⟨g, off, none⟩, c, rfl, hc, .inr ⟨g, off, rfl, h.lt, ?_⟩⟩
  intro j u hu
  rw [List.getElem?_map] at hu
  obtain ⟨z, hz, rfl⟩ := Option.map_eq_some_iff.1 hu
  refine h.cell ?_
  rw [List.getElem?_take] at hz
  split at hz
  · rw [List.getElem?_drop] at hz; exact hz
  · cases hz
theorem SHw.set {W : World} {g : Nat} {L : List Int} (h : SHw W g L) (k : Nat) (z : Int) : SHw (W.setCell ⟨g, k, none⟩ (.int .i64 z)) g (L.set k z) := by
  have := heap_setCell_same W g k _ 83 (.int .i64 z) h
  unfold SHw
  rw [this]
  simp
theorem Tryz.size83' : (Tryz.prog.info? 83).map (·.size) = some 16 := by kernel_rfl
theorem Shw_size {L : List Int} (h : L.length = 16) : (Tryz.prog.info? 83).map (·.size) = some (L.map (Value.int .i64)).toArray.size := by rw [Tryz.size83']; simp [h]
theorem Shw_sizeL {L : List Int} (h : L.length = 16) : (Tryz.prog.info? 83).map (·.size) = some (L.map (Value.int .i64)).length := by rw [Tryz.size83']; simp [h]
theorem SHw.laid {W : World} {g : Nat} {L : List Int} (h : SHw W g L) (M : List Int) (hM : M.length = L.length) : (W.setCells g 0 (M.map (Value.int .i64))).rangeAt g 0 (M.map (Value.int .i64)) := World.rangeAt_setCells_same W g 0 _ (by rw [List.length_map, hM]; exact h.there)
/-- 'copy(h.rest[:], l)', as one step of a region that draws. -/
theorem Sstep_hw {ops : Array Oper} {o : Oper} {a : Act} {w : World} {K : Act → World → Prop} {Q : Exit → Act → World → Prop} {E : Prop} (hgd : o.guard = none) (d s : Operand)
    (ho : o.op = .call { callee := .builtin .copy, args := #[d, s], argTypes := #[22, 22] }) (g off n c : Nat) (zs L : List Int) (v : Value) (hd : a.eval d = .slice (some ⟨g, off, none⟩) n c) (hs : a.eval s = v)
    (hR : Rl w v zs) (hI : SHw w g L) (hL : off + n ≤ L.length)
    (h : ∀ w', SHw w' g (splice L off (zs.take n)) → Below g w w' → K (a.put o.dst (goInt (zs.take n).length)) w') :
    if Region.wanted o (yielded ops a.tmps) = true then Oper.wp Tryz.prog o a w K Q else E := by
  have hsz : (Tryz.prog.info? 3).map (·.size) = some 1 := by
    obtain ⟨i0, hi, _, hz1, _⟩ := info_parts Tryz.info3
    rw [hi]; simp [hz1]
  obtain ⟨hk, ad, cap, rfl, hcap, h3⟩ := hR
  refine step_copy_splice hgd d s 22 22 ho 3 Tryz.underlying22 hsz _ _ n c zs.length cap hd hs g off (L.map (Value.int .i64)) 83 hI ((zs.take n).map (Value.int .i64)) (by simp; exact Nat.min_comm _ _) ?_ (by simp; omega) (ints_one _) g w (Below.refl _ _) (Nat.le_refl _) ?_
  · intro h0
    refine ⟨rfl, ?_⟩
    rcases h3 with ⟨hz, _⟩ | ⟨b, o', rfl, _, hc⟩
    · simp [hz] at h0
    · refine ⟨_, rfl, fun j v hv => ?_⟩
      rw [Addr.add_lit]
      refine hc j v ?_
      rw [List.map_take, List.getElem?_take] at hv
      split at hv
      · exact hv
      · cases hv
  · intro w' h1 h2
    have e : splice (L.map (Value.int .i64)) off ((zs.take n).map (Value.int .i64)) = (splice L off (zs.take n)).map (Value.int .i64) := by simp [splice]
    rw [e] at h1
    have := h w' h1.out h2
    rwa [List.length_map]
end Go.Proofs.YtcgclhahonndbaaGreat
