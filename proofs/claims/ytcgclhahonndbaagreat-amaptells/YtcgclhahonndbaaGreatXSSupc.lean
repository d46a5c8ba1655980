/- Set over from a lower layer: Sumnums. · Set over from a lower layer: Lib. · Set over from a lower layer: Sumwalkd. · Set over from a lower layer: Supa. · Set over from a lower layer: Supc. -/
import Derived.Test.YtcgclhahonndbaaGreatSSumz
import Derived.Test.YtcgclhahonndbaaGreatBase
import Derived.WalkKit
import Derived.WalkSpells
import Derived.WalkLawsBesides
import Derived.LoopN
import Derived.Laws.BytesArg
import Derived.Laws.AppendOwnNone
import Derived.Test.YtcgclhahonndbaaGreatRKeywalkc
import Derived.Deep.QuietTactic
import Derived.BigQuiet
import Derived.WalkSmall
import Derived.Laws.BitsAllLaws
import Derived.Deep.MidRow
import Derived.Deep.OwnRows
import Derived.Lib.SliceRun
import Derived.Deep.RegionHeld3
import Derived.Laws.ResultCell
import Derived.Deep.AppendLies
import Derived.Shelf.Abstract
import Derived.Deep.RegionWith
import Derived.Laws.CopyOwn
import Derived.RangeFuncBox
import Derived.RangeFuncNested
import Derived.RangeFuncBound
import Derived.RangeFuncCalls
import Derived.RangeFuncLeaves
import Derived.Shelf.RegionOpen
import Derived.OwnWalkIn
import Derived.TacticsInMore
import Derived.LoopNIn
import Derived.LoopIn
import Derived.Maps.AppendAt
import Derived.Shelf.SlSortCmp.QuietGrown
import Derived.Maps.OwnOps
import Derived.Laws.StructEq
import Derived.Deep.Strs
import Derived.Deep.Slices
import Derived.Deep.RegionLaw
import Derived.Lib.AppendZeros
import Derived.Test.YtcgclhahonndbaaGreatSSupa
namespace Go.Proofs.YtcgclhahonndbaaGreat.Sm
theorem or_mod2 (a b : Nat) : (a ||| b) % 2 = (a % 2 + b % 2 + a % 2 * (b % 2)) % 2 := by
  have h := Nat.or_mod_two_pow (a := a) (b := b) (n := 1)
  simp only [Nat.pow_one] at h
  rw [h]
  rcases Nat.mod_two_eq_zero_or_one a with ha | ha <;> rcases Nat.mod_two_eq_zero_or_one b with hb | hb <;> rw [ha, hb] <;> rfl
theorem and_mod2 (a b : Nat) : (a &&& b) % 2 = a % 2 * (b % 2) := by
  have h := Nat.and_mod_two_pow (a := a) (b := b) (n := 1)
  simp only [Nat.pow_one] at h
  rw [h]
  rcases Nat.mod_two_eq_zero_or_one a with ha | ha <;> rcases Nat.mod_two_eq_zero_or_one b with hb | hb <;> rw [ha, hb] <;> rfl
/-- Or less and. -/
theorem or_and (a b : Nat) : a ||| b = (a ^^^ b) + (a &&& b) := by
  induction a using Nat.strongRecOn generalizing b with
  | ind a ih =>
    by_cases h0 : a = 0
    · subst h0; simp
    · have hi := ih (a / 2) (by omega) (b / 2)
      have o2 : (a ||| b) / 2 = a / 2 ||| b / 2 := by simpa using Nat.or_div_two_pow (a := a) (b := b) (n := 1)
      have n2 : (a &&& b) / 2 = a / 2 &&& b / 2 := by simpa using Nat.and_div_two_pow (a := a) (b := b) (n := 1)
      have x2 := xor_div2 a b
      have om := or_mod2 a b
      have nm := and_mod2 a b
      have xm := xor_mod2 a b
      rcases Nat.mod_two_eq_zero_or_one a with ha | ha <;> rcases Nat.mod_two_eq_zero_or_one b with hb | hb <;> rw [ha, hb] at om nm xm <;> omega
end Go.Proofs.YtcgclhahonndbaaGreat.Sm
namespace Go.Proofs.YtcgclhahonndbaaGreat
open Go.RowKit
/-- 'append(s, x...)', both rows the call's own. -/
theorem wpList_append_two {P : Program} {w : World} {ops : Array Oper} {rest : List Oper} {o : Oper} {a : Act} {Q : Exit → Act → World → Prop} (hgd : o.guard = none) (s x : Operand) (t : TypeId)
    (ho : o.op = .call { callee := .builtin .append, args := #[s, x], argTypes := #[t, t] })
    (base base2 : Nat) (e : TypeId) (i : TypeInfo) (z : Value) (size bytes : Nat) (ht : P.underlying t = some (.slice e)) (hi : P.info? e = some i) (hz : i.zero = some z)
    (hsize : i.size = size) (hby : i.bytes = bytes) (hzs : z.cells.size = size) (hsz : 0 < size)
    (v : Value) (n : Nat) (xs : List Value) (hs : a.eval s = v) (hown : w.ownsRow base e size v n xs)
    (v2 : Value) (m : Nat) (ys : List Value) (hx : a.eval x = v2) (hown2 : w.ownsRow base2 e size v2 m ys) (h1 : ∀ u ∈ ys, u.oneCell' = true)
    (h63 : n + m ≤ maxLen) (hbytes : (n + m) * bytes ≤ 140737488355328) (hbase : base ≤ w.heap.size)
    (h : ∀ v' w', w'.ownsRow base e size v' (n + m) (xs ++ ys) → w.grownBy w' v.ownBlock → wpList P ops Q rest (a.put o.dst v') w') : wpList P ops Q (o :: rest) a w := by
  have hc := hown2
  rcases hown2.2 with ⟨rfl, rfl⟩ | ⟨g, cap, cur, rfl, _, _, _, _, _, _⟩
  · have hl := hown2.1
    have : ys = [] := List.eq_nil_of_length_eq_zero (by simpa using hl)
    subst this
    refine wpList_append_own_none hgd s x t ho base e i size ht hi v n xs hs hown hx ?_
    exact h v w (by simpa using hown) (World.grownBy.refl w _)
  · exact wpList_append_own w hgd s x t ho base e i z size bytes ht hi hz hsize hby hzs hsz v n xs hs hown ⟨g, 0, none⟩ m cap ys hx hc.1 (hc.cells rfl) h1 h63 hbytes hbase fun v' w' r1 r2 _ => h v' w' r1 r2
end Go.Proofs.YtcgclhahonndbaaGreat
namespace Go.Proofs.YtcgclhahonndbaaGreat.Sm
open Go.RowKit
theorem turn_any (a b : Nat) (w : World) (ha : a < 4294967296) (hb : b < 4294967296) :
    Calls Tryz.prog 128 #[.int .u32 a, .int .u32 b] w fun e w' => e = .returned (.int .u32 (a ^^^ b : Nat)) ∧ w' = w := by
  have e1 := u32_or_nat a b ha hb
  have e2 := u32_and_nat a b ha hb
  have e3 := or_and a b
  have hx : a ^^^ b < 4294967296 := Nat.xor_lt_two_pow (n := 32) ha hb
  have ho : a ||| b < 4294967296 := Nat.or_lt_two_pow (n := 32) ha hb
  generalize a ||| b = o at e1 e3 ho
  generalize a &&& b = m at e2 e3
  generalize a ^^^ b = x at e3 hx ⊢
  have HE : Hid (o = x + m) := e3
  have hmo : (m : Int) ≤ (o : Int) := by omega
  clear e3
  go_enter Tryz.func128, Tryz.ntmps128
  go_wp2
  go_ret
  exact ⟨ret_int (by have := HE.out; omega), rfl⟩
set_option maxRecDepth 100000 in
theorem moveR_any (x : Nat) (w : World) (h : x < 4294967296) : Calls Tryz.prog 129 #[.int .u32 x] w fun e w' => e = .returned (.int .u32 (mv x : Nat)) ∧ w' = w := by
  obtain ⟨q, hq⟩ : ∃ q, x / 2 = q := ⟨_, rfl⟩
  have e1 : (x : Int) / 2 = (q : Int) := by omega
  have hq32 : q < 4294967296 := by omega
  by_cases e : x % 2 = 1
  · have H : Hid (mv x = q ^^^ 3988292384) := by rw [← hq]; exact mv_odd e
    have h3 : ((x : Int) % 2 == 1) = true := by simp; omega
    clear e hq
    go_enter Tryz.func129, Tryz.ntmps129
    go_wp2_with (go_at_call 128; refine (turn_any q 3988292384 _ hq32 (by omega)).mono ?_; rintro e w' ⟨rfl, hw⟩; rw [hw]; clear hw w')
    go_ret
    exact ⟨ret_int (by rw [H.out]), rfl⟩
  · have h3 : ((x : Int) % 2 == 1) = false := by simp; omega
    have H : Hid (mv x = q) := by rw [← hq]; exact mv_even (by omega)
    clear e hq
    go_enter Tryz.func129, Tryz.ntmps129
    go_wp2
    go_ret
    exact ⟨ret_int (by rw [H.out]), rfl⟩
set_option maxRecDepth 100000 in
set_option maxHeartbeats 1000000 in
theorem byteR_any (c y : Nat) (w : World) (hc : c < 4294967296) (hy : y < 256) :
    Calls Tryz.prog 126 #[.int .u32 c, .int .u8 y] w fun e w' => e = .returned (.int .u32 (byF c y : Nat)) ∧ w' = w := by
  have hx32 : c ^^^ y < 4294967296 := Nat.xor_lt_two_pow (n := 32) hc (by omega)
  go_enter Tryz.func126, Tryz.ntmps126
  go_wp2_with (go_at_call 128; refine (turn_any c y _ hc (by omega)).mono ?_; rintro e w' ⟨rfl, hw⟩; rw [hw]; clear hw w')
  go_loop [0, 5] (fun c' i => ∃ j : Nat, j ≤ 8 ∧ i = .int .i64 j ∧ c' = .int .u32 (mvs j (c ^^^ y) : Nat)) (fun _ i => 8 - (Go.RowKit.intOf i).toNat)
  case atStart => exact ⟨0, by omega, rfl, rfl⟩
  case round =>
    obtain ⟨j, hj, rfl, rfl⟩ := hrel
    by_cases hlt : j < 8
    · have hm := mvs_lt j hx32
      go_wp2_with (go_at_call 129; refine (moveR_any _ _ hm).mono ?_; rintro e w' ⟨rfl, hw⟩; rw [hw]; clear hw w')
      go_round
      case rel => exact ⟨j + 1, by omega, by go_num, rfl⟩
      case measure => simp [Go.RowKit.intOf]; omega
    · obtain rfl : j = 8 := by omega
      go_wp2
      go_ret
      exact ⟨rfl, rfl⟩
theorem Tryz.info5 : (Tryz.prog.info? 5).map (fun i => (i.zero, i.size, i.bytes)) = some (some (.int .u8 0), 1, 1) := by kernel_rfl
/-- n over 256, k times. -/
def dv (n : Int) : Nat → Int
  | 0 => n
  | k + 1 => dv n k / 256
/-- The last k bytes of n. -/
def lastB (n : Int) : Nat → List Int
  | 0 => []
  | k + 1 => (dv n k % 256) :: lastB n k
theorem dv_bd (n : Int) (h0 : 0 ≤ n) (h : n < 18446744073709551616) : ∀ k, 0 ≤ dv n k ∧ dv n k < 18446744073709551616
  | 0 => ⟨h0, h⟩
  | k + 1 => by
    have := dv_bd n h0 h k
    show 0 ≤ dv n k / 256 ∧ dv n k / 256 < _
    omega
theorem dv_eq (n k : Nat) : dv (n : Int) k = (n / 2 ^ (8 * k) : Nat) := by
  induction k with
  | zero => simp [dv]
  | succ k ih =>
    show dv n k / 256 = _
    rw [ih, show 8 * (k + 1) = 8 * k + 8 by omega, Nat.pow_add, ← Nat.div_div_eq_div_mul]
    rfl
theorem lastB_at (n : Nat) : ∀ k j, j < k → (lastB (n : Int) k)[j]? = some (dv (n : Int) (k - 1 - j) % 256)
  | 0, j, h => by omega
  | k + 1, 0, _ => rfl
  | k + 1, j + 1, h => by
    show (lastB (n : Int) k)[j]? = _
    rw [lastB_at n k j (by omega), show k + 1 - 1 - (j + 1) = k - 1 - j by omega]
theorem lastB_bt (n j : Nat) (h : j < 8) : (lastB (n : Int) 8)[j]? = some ((bt n j : Nat) : Int) := by
  rw [lastB_at n 8 j h, dv_eq]
  unfold bt
  rw [show 8 * (8 - 1 - j) = 56 - 8 * j by omega]
  rfl
set_option maxRecDepth 100000 in
set_option maxHeartbeats 2000000 in
theorem wordR_any (c : Nat) (z : Int) (w : World) (hc : c < 4294967296) :
    Calls Tryz.prog 120 #[.int .u32 c, .int .i64 z] w fun e w' => e = .returned (.int .u32 (wd c (u64 z) : Nat)) ∧ Below w.heap.size w w' := by
  obtain ⟨i0, hi, hz0, hz1, hz2⟩ := info_parts Tryz.info5
  obtain ⟨n, hn⟩ : ∃ n, u64 z = n := ⟨_, rfl⟩
  have hn64 : n < 18446744073709551616 := by rw [← hn]; exact u64_lt z
  have e1 : IntKind.u64.wrap z = (n : Int) := by rw [← hn, wrap_u64_eq]; unfold u64; omega
  have HW : Hid (wd c (u64 z) = wdU c n 8) := by rw [hn]; exact rfl
  have HD : Hid (∀ k, 0 ≤ dv (n : Int) k ∧ dv (n : Int) k < 18446744073709551616) := dv_bd (n : Int) (by omega) (by omega)
  clear hn
  go_enter Tryz.func120, Tryz.ntmps120
  go_wp2
  go_loopw [5, 6, 7] (fun t5 t6 t7 w1 => ∃ k : Nat, k ≤ 8 ∧ t7 = .int .i64 k ∧ t5 = .int .u64 (dv (n : Int) k) ∧ w1.ownsRow w.heap.size 5 1 t6 k ((lastB (n : Int) k).map (Value.int .u8)) ∧ Below w.heap.size w w1) (fun _ _ t7 _ => 8 - (Go.RowKit.intOf t7).toNat)
  case atStart => exact ⟨0, by omega, rfl, rfl, World.ownsRow_nil _ _ _ _, Below.refl _ _⟩
  case round =>
    obtain ⟨k, hk, rfl, rfl, hown, hbel⟩ := hrel
    obtain ⟨d0, d1⟩ := HD.out k
    by_cases hlt : k < 8
    · have hsz := hbel.size
      go_wp2_with (first | (at_builtin; refine wpList_append_two rfl _ _ 127 rfl w.heap.size w.heap.size 5 i0 (.int .u8 0) 1 1 Tryz.underlying127 hi hz0 hz1 hz2 rfl (by decide) (.slice (some ⟨wr.heap.size, 0, none⟩) 1 1) 1 [.int .u8 (dv (n : Int) k % 256)] rfl (by exact World.ownsRow_lit _ _ 1 (by omega) (by unfold maxLen; omega) rfl) _ k _ rfl (hown.alloc _) (fun u hu => by obtain ⟨y, _, rfl⟩ := List.mem_map.1 hu; rfl) (by unfold maxLen; omega) (by omega) (by simp; omega) ?_; intro v' w3 hown' hgrow3))
      have hb3 : Below w.heap.size w w3 := (hbel.alloc hsz _).grown hgrow3 (by simp; omega) (by intro j hj; cases hj; exact hsz)
      rw [Nat.add_comm 1 k] at hown'
      exact ⟨⟨k + 1, by omega, by go_num, rfl, hown', hb3⟩, by simp [Go.RowKit.intOf]; omega⟩
    · obtain rfl : k = 8 := by omega
      have hcs := hown
      rcases hown.2 with ⟨_, h0⟩ | ⟨g, cap, cur, rfl, _, _, _⟩
      · omega
      · have HC : Hid (∀ j, j < 8 → wr.cell? ⟨g, j, none⟩ = some (.int .u8 (bt n j : Nat))) := by
          intro j hj
          have := hcs.cells rfl j (.int .u8 (bt n j : Nat)) (by rw [List.getElem?_map, lastB_bt n j hj]; rfl)
          rwa [Addr.add_lit, Nat.zero_add] at this
        clear hown hcs d0 d1
        rw [show ((8 : Nat) : Int) = (8 : Int) from rfl]
        go_wp2
        go_loop [0, 8] (fun c' i => ∃ j : Nat, j ≤ 8 ∧ i = .int .i64 j ∧ c' = .int .u32 (wdU c n j : Nat)) (fun _ i => 8 - (Go.RowKit.intOf i).toNat)
        case atStart => exact ⟨0, by omega, rfl, rfl⟩
        case round =>
          obtain ⟨j, hj, rfl, rfl⟩ := hrel
          by_cases hlt2 : j < 8
          · have hm := wdU_lt n j hc
            have hb := bt_lt n j
            have hcell := HC.out j hlt2
            go_wp2_with (go_at_call 126; refine (byteR_any _ _ _ hm hb).mono ?_; rintro e w' ⟨rfl, hw⟩; rw [hw]; clear hw w')
            go_round
            case rel => exact ⟨j + 1, by omega, by go_num, rfl⟩
            case measure => simp [Go.RowKit.intOf]; omega
          · obtain rfl : j = 8 := by omega
            go_wp2
            go_ret
            exact ⟨ret_int (by rw [HW.out]), hbel⟩
set_option maxRecDepth 100000 in
set_option maxHeartbeats 1000000 in
theorem ofR_any (v : Value) (zs : List Int) (w : World) (hR : Rd w v zs) :
    Calls Tryz.prog 103 #[v] w fun e w' => e = .returned (.int .i64 (ofF zs : Nat)) ∧ Below w.heap.size w w' := by
  have hR' := hR
  obtain ⟨_, hl, a, cap, rfl, _⟩ := hR
  go_enter Tryz.func103, Tryz.ntmps103
  go_wp2
  go_loopw [3, 4] (fun c i w1 => ∃ k : Nat, k ≤ zs.length ∧ i = .int .i64 k ∧ c = .int .u32 (goF 4294967295 (zs.take k) : Nat) ∧ Below w.heap.size w w1) (fun _ i _ => zs.length - (Go.RowKit.intOf i).toNat)
  case atStart => exact ⟨0, by omega, rfl, rfl, Below.refl _ _⟩
  case round =>
    obtain ⟨k, hk, rfl, rfl, hbel⟩ := hrel
    have hg := goF_lt (zs.take k) (show 4294967295 < 4294967296 by omega)
    have hR2 := hR'.below hbel
    by_cases hlt : k < zs.length
    · have HS : Hid (goF 4294967295 (zs.take (k + 1)) = wd (goF 4294967295 (zs.take k)) (u64 (zs[k]'hlt))) := goF_take _ zs k hlt
      obtain ⟨bb, off, rfl, hc⟩ := hR2.at k hlt
      go_wp2_with (go_at_call 120; refine (wordR_any _ _ _ hg).mono ?_; rintro e w2 ⟨rfl, hb2⟩)
      have hb3 := bstep hbel hb2
      go_roundw
      case rel => exact ⟨k + 1, by omega, by go_num, by rw [HS.out], hb3⟩
      case measure => simp [Go.RowKit.intOf]; omega
    · have HE : Hid (ofF zs = 4294967295 - goF 4294967295 (zs.take k)) := by rw [List.take_of_length_le (by omega)]; exact rfl
      generalize goF 4294967295 (zs.take k) = g at hg HE
      go_wp2
      go_ret
      exact ⟨ret_int (by rw [HE.out]; omega), hbel⟩
end Go.Proofs.YtcgclhahonndbaaGreat.Sm
namespace Go.Proofs.YtcgclhahonndbaaGreat.Sm
open Go.RowKit
end Go.Proofs.YtcgclhahonndbaaGreat.Sm
namespace Go.Proofs.YtcgclhahonndbaaGreat.Sm
open Go.RowKit
end Go.Proofs.YtcgclhahonndbaaGreat.Sm
namespace Go.Proofs.YtcgclhahonndbaaGreat
open Go.RowKit Go.Shelf
set_option linter.unusedVariables false
set_option maxRecDepth 100000 in
theorem mayR_any (n r : Int) (w : World) : Calls Tryz.prog 102 #[.int .i64 n, .int .i64 r] w fun e w' => e = .returned (.bool (mbB n r)) ∧ w' = w := by
  by_cases h1 : n ≥ 2
  · by_cases h2 : n ≤ 256
    · by_cases h3 : r ≥ 1
      · by_cases h4 : r < n
        · have H : Hid (mbB n r = true) := mbB_yes ⟨h1, h2, h3, h4⟩
          go_enter Tryz.func102, Tryz.ntmps102
          go_wp2
          go_ret
          exact ⟨ret_bool H.out.symm, rfl⟩
        · have H : Hid (mbB n r = false) := mbB_no (by omega)
          go_enter Tryz.func102, Tryz.ntmps102
          go_wp2
          go_ret
          exact ⟨ret_bool H.out.symm, rfl⟩
      · have H : Hid (mbB n r = false) := mbB_no (by omega)
        go_enter Tryz.func102, Tryz.ntmps102
        go_wp2
        go_ret
        exact ⟨ret_bool H.out.symm, rfl⟩
    · have H : Hid (mbB n r = false) := mbB_no (by omega)
      go_enter Tryz.func102, Tryz.ntmps102
      go_wp2
      go_ret
      exact ⟨ret_bool H.out.symm, rfl⟩
  · have H : Hid (mbB n r = false) := mbB_no (by omega)
    go_enter Tryz.func102, Tryz.ntmps102
    go_wp2
    go_ret
    exact ⟨ret_bool H.out.symm, rfl⟩
theorem ofR_ck (n : Int) (v : Value) (w : World) (hR : Rd w v [7015, n]) (hF : Fits [7015, n]) : Calls Tryz.prog 103 #[v] w fun e w' => e = .returned (.int .i64 (ckN n)) ∧ Below w.heap.size w w' := by
  unfold ckN
  exact Sm.ofR_any v [7015, n] w (hR.sm hF)
end Go.Proofs.YtcgclhahonndbaaGreat
namespace Go.Proofs.YtcgclhahonndbaaGreat
open Go.RowKit Go.Shelf
set_option linter.unusedVariables false
set_option maxRecDepth 100000 in
set_option maxHeartbeats 2000000 in
theorem wordsR_any (n r : Int) (w : World) : Calls Tryz.prog 73 #[.int .i64 n, .int .i64 r] w fun e w' => ∃ v, e = .returned (.tuple #[v, .int .i64 (wdE n r)]) ∧ Rd w' v (wdL n r) ∧ Below w.heap.size w w' := by
  cases hc : mbB n r with
  | false =>
    have H1 : Hid (wdE n r = 1) := (wd_no hc).2
    have H2 : Hid (wdL n r = []) := (wd_no hc).1
    go_enter Tryz.func73, Tryz.ntmps73
    go_wp2_with (go_at_call 102; refine (mayR_any n r _).mono ?_; rintro e w1 ⟨rfl, hw⟩; rw [hw, hc]; clear hw w1)
    refine bodyPost_ret (results_tmp2 Tryz.results73 _ _ _) rfl ?_
    exact ⟨_, by rw [H1.out]; rfl, by rw [H2.out]; exact nil_rd _, Below.refl _ _⟩
  | true =>
    obtain ⟨h0, h1, h2, h3⟩ := mbB_iff.1 hc
    have H1 : Hid (wdE n r = 0) := (wd_yes hc).2
    have H2 : Hid (wdL n r = hdQ n (ckN n) r) := show _ = _ by rw [(wd_yes hc).1, hdW_eq]
    have k21 : Hid (∀ (v : Value) (w : World), Rd w v [7015, n] → Calls Tryz.prog 103 #[v] w fun e w' => e = .returned (.int .i64 (ckN n)) ∧ Below w.heap.size w w') := fun v w hR => ofR_ck n v w hR (nb_fits ⟨h0, h1⟩)
    generalize ckN n = q at *
    go_enter Tryz.func73, Tryz.ntmps73
    go_wp2_with (first
      | (go_at_call 102; refine (mayR_any n r _).mono ?_; rintro e w1 ⟨rfl, hw⟩; rw [hw, hc]; clear hw w1)
      | (go_at_call 103; refine (k21.out _ _ (rd_two _ 7015 n (by simp))).mono ?_; rintro e w1 ⟨rfl, hb1⟩; have hb2 := bstep ((Below.refl _ _).alloc (Nat.le_refl _) _) hb1; clear hb1))
    refine bodyPost_ret (results_tmp2 Tryz.results73 _ _ _) rfl ?_
    exact ⟨_, by rw [H1.out]; rfl, by rw [H2.out]; exact rd_lit (hdQ n q r) rfl (show 16 ≤ 1000 by decide), bstep hb2 ((Below.refl _ _).alloc (Nat.le_refl _) _)⟩
end Go.Proofs.YtcgclhahonndbaaGreat
