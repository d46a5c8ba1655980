/- Walks of layer 3: the table. -/
import Derived.Test.YtnbcpoeabgcgdaaWalka
namespace Go.Proofs.Ytnbcpoeabgcgdaa
open Go.RowKit

/-- What the table holds at a place. -/
def tb (i : Nat) : Value := .int .u32 (mvs 4 i : Nat)
/-- The table while it is made: k places are. -/
def tbU (k i : Nat) : Value := if i < k then tb i else .int .u32 0
def tbL : List Value := (List.range 16).map tb
def z16 : Array Value := #[.int .u32 0, .int .u32 0, .int .u32 0, .int .u32 0, .int .u32 0, .int .u32 0, .int .u32 0, .int .u32 0, .int .u32 0, .int .u32 0, .int .u32 0, .int .u32 0, .int .u32 0, .int .u32 0, .int .u32 0, .int .u32 0]
theorem z16_row (W : World) : (W.alloc (.cells z16 37)).rowIs W.heap.size 37 16 (tbU 0) := by
  refine World.rowIs_alloc W z16 37 (tbU 0) ?_
  intro i hi
  have hi : i < 16 := hi
  obtain rfl | rfl | rfl | rfl | rfl | rfl | rfl | rfl | rfl | rfl | rfl | rfl | rfl | rfl | rfl | rfl : i = 0 ∨ i = 1 ∨ i = 2 ∨ i = 3 ∨ i = 4 ∨ i = 5 ∨ i = 6 ∨ i = 7 ∨ i = 8 ∨ i = 9 ∨ i = 10 ∨ i = 11 ∨ i = 12 ∨ i = 13 ∨ i = 14 ∨ i = 15 := by omega
  all_goals rfl
theorem z16_start (w : World) : ((w.alloc (.cells z16 37)).alloc (.cells z16 37)).rowIs w.heap.size 37 16 (tbU 0) ∧ ((w.alloc (.cells z16 37)).alloc (.cells z16 37)).rowIs (w.heap.size + 1) 37 16 (tbU 0) ∧ Below w.heap.size w ((w.alloc (.cells z16 37)).alloc (.cells z16 37)) := by
  refine ⟨(z16_row w).alloc _, ?_, ((Below.refl _ w).alloc (Nat.le_refl _) _).alloc (by simp) _⟩
  have := z16_row (w.alloc (.cells z16 37))
  simpa using this
theorem tbU_succ (k i : Nat) : (if i = k then tb k else tbU k i) = tbU (k + 1) i := by
  unfold tbU
  by_cases h : i = k
  · subst h; simp
  · rw [if_neg h]
    by_cases h2 : i < k
    · rw [if_pos h2, if_pos (by omega)]
    · rw [if_neg h2, if_neg (by omega)]

theorem tbL_at (j : Nat) (v : Value) (h : tbL[j]? = some v) : j < 16 ∧ v = tb j := by
  unfold tbL at h
  rw [List.getElem?_map] at h
  by_cases hj : j < 16
  · rw [List.getElem?_range hj] at h
    exact ⟨hj, by simpa using h.symm⟩
  · rw [List.getElem?_eq_none (by simp; omega)] at h
    cases h
theorem tbL_len : tbL.length = 16 := by simp [tbL]
theorem tbL_one : tbL.toArray.all (·.oneCell') = true := all_oneCell_toArray (by
  intro v hv
  obtain ⟨j, _, rfl⟩ := List.mem_map.1 hv
  rfl)
theorem row_range {W : World} {b k : Nat} (h : W.rowIs b 37 16 (tbU k)) (hk : 16 ≤ k) : W.rangeAt b 0 tbL := by
  intro j v hv
  obtain ⟨hj, rfl⟩ := tbL_at j v hv
  rw [Nat.zero_add, h.cell hj]
  unfold tbU
  rw [if_pos (by omega)]
theorem row_there {W : World} {b : Nat} {f : Nat → Value} (h : W.rowIs b 37 16 f) : W.there b 0 tbL.length := by
  intro j hj
  rw [tbL_len] at hj
  rw [Nat.zero_add, h.cell hj]
  exact ⟨rfl, h.frozen j⟩
theorem below_setCells (b : Nat) : ∀ (vs : List Value) (o : Nat) {w W : World} (_ : w.heap.size ≤ b) (_ : Below w.heap.size w W), Below w.heap.size w (W.setCells b o vs)
  | [], _, _, _, _, h => h
  | v :: r, o, _, _, hb, h => below_setCells b r (o + 1) hb (h.setCell hb v)
theorem Try.size37 : (Try.prog.info? 37).map (·.size) = some tbL.length := by kernel_rfl

set_option maxRecDepth 100000 in
set_option maxHeartbeats 1000000 in
theorem table_any (w : World) : Calls Try.prog 16 #[] w fun e w' => e = .returned (.agg tbL.toArray) ∧ Below w.heap.size w w' := by
  go_enter Try.func16, Try.ntmps16
  go_wp2
  go_loopw [4] (fun i w1 => ∃ k : Nat, k ≤ 16 ∧ i = .int .u32 k ∧ w1.rowIs w.heap.size 37 16 (tbU 0) ∧ w1.rowIs (w.heap.size + 1) 37 16 (tbU k) ∧ Below w.heap.size w w1) (fun i _ => 16 - (intOf i).toNat)
  case atStart => exact ⟨0, by omega, rfl, z16_start w⟩
  case round =>
    obtain ⟨k, hk, rfl, hR0, hR1, hbel⟩ := hrel
    by_cases hlt : k < 16
    · have hltI : (k : Int) < 16 := by omega
      go_wp2
      go_loop [3, 8] (fun c i => ∃ j : Nat, j ≤ 4 ∧ i = .int .i64 j ∧ c = .int .u32 (mvs j k : Nat)) (fun _ i => 4 - (intOf i).toNat)
      case atStart => exact ⟨0, by omega, rfl, rfl⟩
      case round =>
        obtain ⟨j, hj, rfl, rfl⟩ := hrel
        by_cases hlt2 : j < 4
        · have hm := mvs_lt j (show k < 4294967296 by omega)
          go_wp2_with (go_at_call 21; refine (move_any _ _ hm).mono ?_; rintro e w' ⟨rfl, hw⟩; rw [hw]; clear hw w')
          go_round
          case rel => exact ⟨j + 1, by omega, by go_num, rfl⟩
          case measure => simp [intOf]; omega
        · obtain rfl : j = 4 := by omega
          have hc := hR1.cell hlt
          have hf := hR1.frozen k
          go_wp2
          go_roundw
          case rel => exact ⟨k + 1, by omega, by go_num, hR0.setOther (by simp) _, (hR1.set k (tb k)).congr (fun i _ => tbU_succ k i), hbel.setCell (by simp) _⟩
          case measure => simp [intOf]; omega
    · have hrange := row_range hR1 (by omega)
      have hthere := row_there hR0
      have hres := World.rangeAt_setCells_same wr w.heap.size 0 tbL hthere
      go_wp2_with (first
        | refine wpList_load_mid rfl 37 _ rfl (w.heap.size + 1) 0 rfl tbL _ hrange Try.underlying37 rfl Try.size37 ?_
        | refine wpList_store_mid rfl 37 _ _ rfl w.heap.size 0 tbL.toArray rfl rfl hthere Try.size37 tbL_one ?_)
      refine bodyPost_ret (v := .agg tbL.toArray) ?_ rfl ⟨rfl, below_setCells _ _ _ (Nat.le_refl _) hbel⟩
      have := run_loadVar_mid (P := Try.prog) _ w.heap.size 0 37 tbL _ hres Try.underlying37 rfl Try.size37
      simp [results, Try.results16, asAddr, Act.put, this]
end Go.Proofs.Ytnbcpoeabgcgdaa
