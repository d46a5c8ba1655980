/- Walks of layer 3: the document's own answers; awake. · A slice of ints that came in, as it is read. · Walks of layer 3's statements: the same words behind. -/
import Derived.Test.YtmenkolceahebaaSumwalka
namespace Go.Proofs.Ytmenkolceahebaa.Sm
open Go.RowKit

theorem turn_any (a b : Nat) (w : World) (ha : a < 4294967296) (hb : b < 4294967296) :
    Calls Try.prog 50 #[.int .u32 a, .int .u32 b] w fun e w' => e = .returned (.int .u32 (a ^^^ b : Nat)) ∧ w' = w := by
  have e1 := u32_or_nat a b ha hb
  have e2 := u32_and_nat a b ha hb
  have e3 := or_and a b
  have hx : a ^^^ b < 4294967296 := Nat.xor_lt_two_pow (n := 32) ha hb
  have ho : a ||| b < 4294967296 := Nat.or_lt_two_pow (n := 32) ha hb
  generalize a ||| b = o at e1 e3 ho
  generalize a &&& b = m at e2 e3
  generalize a ^^^ b = x at e3 hx ⊢
  have HE : Hid (o = x + m) := e3
  have hmo : (m : Int) ≤ (o : Int) := by omega
  clear e3
  go_enter Try.func50, Try.ntmps50
  go_wp2
  go_ret
  exact ⟨ret_int (by have := HE.out; omega), rfl⟩
set_option maxRecDepth 100000 in
theorem moveR_any (x : Nat) (w : World) (h : x < 4294967296) : Calls Try.prog 51 #[.int .u32 x] w fun e w' => e = .returned (.int .u32 (mv x : Nat)) ∧ w' = w := by
  obtain ⟨q, hq⟩ : ∃ q, x / 2 = q := ⟨_, rfl⟩
  have e1 : (x : Int) / 2 = (q : Int) := by omega
  have hq32 : q < 4294967296 := by omega
  by_cases e : x % 2 = 1
  · have H : Hid (mv x = q ^^^ 3988292384) := by rw [← hq]; exact mv_odd e
    have h3 : ((x : Int) % 2 == 1) = true := by simp; omega
    clear e hq
    go_enter Try.func51, Try.ntmps51
    go_wp2_with (go_at_call 50; refine (turn_any q 3988292384 _ hq32 (by omega)).mono ?_; rintro e w' ⟨rfl, hw⟩; rw [hw]; clear hw w')
    go_ret
    exact ⟨ret_int (by rw [H.out]), rfl⟩
  · have h3 : ((x : Int) % 2 == 1) = false := by simp; omega
    have H : Hid (mv x = q) := by rw [← hq]; exact mv_even (by omega)
    clear e hq
    go_enter Try.func51, Try.ntmps51
    go_wp2
    go_ret
    exact ⟨ret_int (by rw [H.out]), rfl⟩

set_option maxRecDepth 100000 in
set_option maxHeartbeats 1000000 in
theorem byteR_any (c y : Nat) (w : World) (hc : c < 4294967296) (hy : y < 256) :
    Calls Try.prog 39 #[.int .u32 c, .int .u8 y] w fun e w' => e = .returned (.int .u32 (byF c y : Nat)) ∧ w' = w := by
  have hx32 : c ^^^ y < 4294967296 := Nat.xor_lt_two_pow (n := 32) hc (by omega)
  go_enter Try.func39, Try.ntmps39
  go_wp2_with (go_at_call 50; refine (turn_any c y _ hc (by omega)).mono ?_; rintro e w' ⟨rfl, hw⟩; rw [hw]; clear hw w')
  go_loop [0, 5] (fun c' i => ∃ j : Nat, j ≤ 8 ∧ i = .int .i64 j ∧ c' = .int .u32 (mvs j (c ^^^ y) : Nat)) (fun _ i => 8 - (intOf i).toNat)
  case atStart => exact ⟨0, by omega, rfl, rfl⟩
  case round =>
    obtain ⟨j, hj, rfl, rfl⟩ := hrel
    by_cases hlt : j < 8
    · have hm := mvs_lt j hx32
      go_wp2_with (go_at_call 51; refine (moveR_any _ _ hm).mono ?_; rintro e w' ⟨rfl, hw⟩; rw [hw]; clear hw w')
      go_round
      case rel => exact ⟨j + 1, by omega, by go_num, rfl⟩
      case measure => simp [intOf]; omega
    · obtain rfl : j = 8 := by omega
      go_wp2
      go_ret
      exact ⟨rfl, rfl⟩

theorem Try.info5 : (Try.prog.info? 5).map (fun i => (i.zero, i.size, i.bytes)) = some (some (.int .u8 0), 1, 1) := by kernel_rfl
/-- n over 256, k times. -/
def dv (n : Int) : Nat → Int
  | 0 => n
  | k + 1 => dv n k / 256
/-- The last k bytes of n. -/
def lastB (n : Int) : Nat → List Int
  | 0 => []
  | k + 1 => (dv n k % 256) :: lastB n k
theorem dv_bd (n : Int) (h0 : 0 ≤ n) (h : n < 18446744073709551616) : ∀ k, 0 ≤ dv n k ∧ dv n k < 18446744073709551616
  | 0 => ⟨h0, h⟩
  | k + 1 => by
    have := dv_bd n h0 h k
    show 0 ≤ dv n k / 256 ∧ dv n k / 256 < _
    omega
theorem dv_eq (n k : Nat) : dv (n : Int) k = (n / 2 ^ (8 * k) : Nat) := by
  induction k with
  | zero => simp [dv]
  | succ k ih =>
    show dv n k / 256 = _
    rw [ih, show 8 * (k + 1) = 8 * k + 8 by omega, Nat.pow_add, ← Nat.div_div_eq_div_mul]
    rfl
theorem lastB_at (n : Nat) : ∀ k j, j < k → (lastB (n : Int) k)[j]? = some (dv (n : Int) (k - 1 - j) % 256)
  | 0, j, h => by omega
  | k + 1, 0, _ => rfl
  | k + 1, j + 1, h => by
    show (lastB (n : Int) k)[j]? = _
    rw [lastB_at n k j (by omega), show k + 1 - 1 - (j + 1) = k - 1 - j by omega]
theorem lastB_bt (n j : Nat) (h : j < 8) : (lastB (n : Int) 8)[j]? = some ((bt n j : Nat) : Int) := by
  rw [lastB_at n 8 j h, dv_eq]
  unfold bt
  rw [show 8 * (8 - 1 - j) = 56 - 8 * j by omega]
  rfl

set_option maxRecDepth 100000 in
set_option maxHeartbeats 2000000 in
theorem wordR_any (c : Nat) (z : Int) (w : World) (hc : c < 4294967296) :
    Calls Try.prog 29 #[.int .u32 c, .int .i64 z] w fun e w' => e = .returned (.int .u32 (wd c (u64 z) : Nat)) ∧ Below w.heap.size w w' := by
  obtain ⟨i0, hi, hz0, hz1, hz2⟩ := info_parts Try.info5
  obtain ⟨n, hn⟩ : ∃ n, u64 z = n := ⟨_, rfl⟩
  have hn64 : n < 18446744073709551616 := by rw [← hn]; exact u64_lt z
  have e1 : IntKind.u64.wrap z = (n : Int) := by rw [← hn, wrap_u64_eq]; unfold u64; omega
  have HW : Hid (wd c (u64 z) = wdU c n 8) := by rw [hn]; exact rfl
  have HD : Hid (∀ k, 0 ≤ dv (n : Int) k ∧ dv (n : Int) k < 18446744073709551616) := dv_bd (n : Int) (by omega) (by omega)
  clear hn
  go_enter Try.func29, Try.ntmps29
  go_wp2
  go_loopw [5, 6, 7] (fun t5 t6 t7 w1 => ∃ k : Nat, k ≤ 8 ∧ t7 = .int .i64 k ∧ t5 = .int .u64 (dv (n : Int) k) ∧ w1.ownsRow w.heap.size 5 1 t6 k ((lastB (n : Int) k).map (Value.int .u8)) ∧ Below w.heap.size w w1) (fun _ _ t7 _ => 8 - (intOf t7).toNat)
  case atStart => exact ⟨0, by omega, rfl, rfl, World.ownsRow_nil _ _ _ _, Below.refl _ _⟩
  case round =>
    obtain ⟨k, hk, rfl, rfl, hown, hbel⟩ := hrel
    obtain ⟨d0, d1⟩ := HD.out k
    by_cases hlt : k < 8
    · have hsz := hbel.size
      go_wp2_with (first | (at_builtin; refine wpList_append_two rfl _ _ 78 rfl w.heap.size w.heap.size 5 i0 (.int .u8 0) 1 1 Try.underlying78 hi hz0 hz1 hz2 rfl (by decide) (.slice (some ⟨wr.heap.size, 0, none⟩) 1 1) 1 [.int .u8 (dv (n : Int) k % 256)] rfl (by exact World.ownsRow_lit _ _ 1 (by omega) (by unfold maxLen; omega) rfl) _ k _ rfl (hown.alloc _) (fun u hu => by obtain ⟨y, _, rfl⟩ := List.mem_map.1 hu; rfl) (by unfold maxLen; omega) (by omega) (by simp; omega) ?_; intro v' w3 hown' hgrow3))
      have hb3 : Below w.heap.size w w3 := (hbel.alloc hsz _).grown hgrow3 (by simp; omega) (by intro j hj; cases hj; exact hsz)
      rw [Nat.add_comm 1 k] at hown'
      exact ⟨⟨k + 1, by omega, by go_num, rfl, hown', hb3⟩, by simp [intOf]; omega⟩
    · obtain rfl : k = 8 := by omega
      have hcs := hown
      rcases hown.2 with ⟨_, h0⟩ | ⟨g, cap, cur, rfl, _, _, _⟩
      · omega
      · have HC : Hid (∀ j, j < 8 → wr.cell? ⟨g, j, none⟩ = some (.int .u8 (bt n j : Nat))) := by
          intro j hj
          have := hcs.cells rfl j (.int .u8 (bt n j : Nat)) (by rw [List.getElem?_map, lastB_bt n j hj]; rfl)
          rwa [Addr.add_lit, Nat.zero_add] at this
        clear hown hcs d0 d1
        rw [show ((8 : Nat) : Int) = (8 : Int) from rfl]
        go_wp2
        go_loop [0, 8] (fun c' i => ∃ j : Nat, j ≤ 8 ∧ i = .int .i64 j ∧ c' = .int .u32 (wdU c n j : Nat)) (fun _ i => 8 - (intOf i).toNat)
        case atStart => exact ⟨0, by omega, rfl, rfl⟩
        case round =>
          obtain ⟨j, hj, rfl, rfl⟩ := hrel
          by_cases hlt2 : j < 8
          · have hm := wdU_lt n j hc
            have hb := bt_lt n j
            have hcell := HC.out j hlt2
            go_wp2_with (go_at_call 39; refine (byteR_any _ _ _ hm hb).mono ?_; rintro e w' ⟨rfl, hw⟩; rw [hw]; clear hw w')
            go_round
            case rel => exact ⟨j + 1, by omega, by go_num, rfl⟩
            case measure => simp [intOf]; omega
          · obtain rfl : j = 8 := by omega
            go_wp2
            go_ret
            exact ⟨ret_int (by rw [HW.out]), hbel⟩

set_option maxRecDepth 100000 in
set_option maxHeartbeats 1000000 in
theorem ofR_any (v : Value) (zs : List Int) (w : World) (hR : Rd w v zs) :
    Calls Try.prog 21 #[v] w fun e w' => e = .returned (.int .i64 (ofF zs : Nat)) ∧ Below w.heap.size w w' := by
  have hR' := hR
  obtain ⟨_, hl, a, cap, rfl, _⟩ := hR
  go_enter Try.func21, Try.ntmps21
  go_wp2
  go_loopw [3, 4] (fun c i w1 => ∃ k : Nat, k ≤ zs.length ∧ i = .int .i64 k ∧ c = .int .u32 (goF 4294967295 (zs.take k) : Nat) ∧ Below w.heap.size w w1) (fun _ i _ => zs.length - (intOf i).toNat)
  case atStart => exact ⟨0, by omega, rfl, rfl, Below.refl _ _⟩
  case round =>
    obtain ⟨k, hk, rfl, rfl, hbel⟩ := hrel
    have hg := goF_lt (zs.take k) (show 4294967295 < 4294967296 by omega)
    have hR2 := hR'.below hbel
    by_cases hlt : k < zs.length
    · have HS : Hid (goF 4294967295 (zs.take (k + 1)) = wd (goF 4294967295 (zs.take k)) (u64 (zs[k]'hlt))) := goF_take _ zs k hlt
      obtain ⟨bb, off, rfl, hc⟩ := hR2.at k hlt
      go_wp2_with (go_at_call 29; refine (wordR_any _ _ _ hg).mono ?_; rintro e w2 ⟨rfl, hb2⟩)
      have hb3 := bstep hbel hb2
      go_roundw
      case rel => exact ⟨k + 1, by omega, by go_num, by rw [HS.out], hb3⟩
      case measure => simp [intOf]; omega
    · have HE : Hid (ofF zs = 4294967295 - goF 4294967295 (zs.take k)) := by rw [List.take_of_length_le (by omega)]; exact rfl
      generalize goF 4294967295 (zs.take k) = g at hg HE
      go_wp2
      go_ret
      exact ⟨ret_int (by rw [HE.out]; omega), hbel⟩

/-- A row of one number that was just laid is read. -/
theorem Rd.one (W : World) (z : Int) (h : -9223372036854775808 ≤ z ∧ z < 9223372036854775808) : Rd (W.alloc (.cells #[.int .i64 z] 3)) (.slice (some ⟨W.heap.size, 0, none⟩) 1 1) [z] := by
  refine ⟨by intro y hy; rw [List.mem_singleton.1 hy]; exact h, by simp, some ⟨W.heap.size, 0, none⟩, 1, rfl, .inr ⟨W.heap.size, 0, rfl, by simp, ?_⟩⟩
  intro j hj
  have : j = 0 := by simpa using hj
  subst this
  exact cell_one_new W (.int .i64 z) 3 0 _ rfl
theorem Rd.bare (W : World) : Rd W (.slice none 0 0) [] := ⟨(by intro y hy; cases hy), by simp, none, 0, rfl, .inl ⟨rfl, fun _ => rfl⟩⟩

end Go.Proofs.Ytmenkolceahebaa.Sm
namespace Go.Proofs.Ytmenkolceahebaa.Sm
open Go.RowKit

/-- What the opening of an argument tells of a slice of ints: its cells, the spare ones too. -/
def IsRow (k : IntKind) (W : World) (a : Option Addr) (len cap : Nat) (zs : List Int) : Prop :=
  (a = none ∧ len = 0 ∧ cap = 0 ∧ zs = []) ∨ ∃ x : Addr, a = some x ∧ len ≤ cap ∧ cap ≤ maxLen ∧ zs.length = cap ∧ (∀ i, i < zs.length → W.cell? (x.add i) = some (.int k (zs.getD i 0))) ∧ (∀ n ∈ zs, (Lit.int k n).wf = true)
theorem IsRow.len {k : IntKind} {W : World} {a : Option Addr} {len cap : Nat} {zs : List Int} (h : IsRow k W a len cap zs) : (zs.take len).length = len := by
  rcases h with ⟨_, rfl, _, rfl⟩ | ⟨x, _, h1, _, h2, _⟩
  · rfl
  · rw [List.length_take]; omega
theorem IsRow.small {k : IntKind} {W : World} {a : Option Addr} {len cap : Nat} {zs : List Int} (h : IsRow k W a len cap zs) : len ≤ 9223372036854775807 := by
  rcases h with ⟨_, rfl, _, _⟩ | ⟨x, _, h1, h2, _⟩
  · omega
  · unfold maxLen at h2; omega
theorem wf_i64 {z : Int} (h : (Lit.int .i64 z).wf = true) : -9223372036854775808 ≤ z ∧ z < 9223372036854775808 := by
  simp [Lit.wf, IntKind.min, IntKind.max, IntKind.bits, IntKind.signed] at h
  omega
theorem cell_spot {W : World} {x : Addr} {v : Value} (h : W.cell? x = some v) : x = ⟨x.block, x.off, none⟩ := by
  obtain ⟨b, o, sp⟩ := x
  cases sp with
  | none => rfl
  | some p =>
    simp only [World.cell?] at h
    split at h
    · simp at h
    · cases h
theorem Rd.of_row {W : World} {a : Option Addr} {len cap : Nat} {zs : List Int} (h : IsRow .i64 W a len cap zs) (hl : len ≤ 1000) : Rd W (.slice a len cap) (zs.take len) := by
  have hlen := h.len
  rcases h with ⟨rfl, rfl, rfl, rfl⟩ | ⟨x, rfl, h1, h2, h3, h4, h5⟩
  · exact ⟨by intro z hz; simp at hz, by simp, none, 0, rfl, .inl ⟨rfl, fun _ => rfl⟩⟩
  · refine ⟨fun z hz => wf_i64 (h5 z (List.mem_of_mem_take hz)), by omega, some x, cap, by rw [hlen], ?_⟩
    by_cases h0 : len = 0
    · exact .inl ⟨by subst h0; simp, fun h => by cases h⟩
    · right
      have hx := cell_spot (h4 0 (by omega))
      have hx0 : x.add 0 = x := rfl
      rw [hx0] at hx
      have hlt := World.block_lt_of_cell? W _ (h4 0 (by omega))
      rw [hx0] at hlt
      refine ⟨x.block, x.off, by rw [← hx], hlt, ?_⟩
      intro j hj
      have := h4 j (by omega)
      rw [hx, Addr.add_lit] at this
      rw [this]
      congr 2
      rw [List.getElem?_take, if_pos (by omega)]
      simp [List.getD]
end Go.Proofs.Ytmenkolceahebaa.Sm
namespace Go.Proofs.Ytmenkolceahebaa.Sm
open Go.RowKit

theorem Try.info3 : (Try.prog.info? 3).map (fun i => (i.zero, i.size, i.bytes)) = some (some (.int .i64 0), 1, 8) := by kernel_rfl

/-- 'append(s, x...)': a row of the call's own, and a slice that is read. -/
theorem wpList_append_rd {w : World} {ops : Array Oper} {rest : List Oper} {o : Oper} {a : Act} {Q : Exit → Act → World → Prop} (hgd : o.guard = none) (s x : Operand)
    (ho : o.op = .call { callee := .builtin .append, args := #[s, x], argTypes := #[22, 22] }) (base : Nat)
    (v : Value) (n : Nat) (xs : List Value) (hs : a.eval s = v) (hown : w.ownsRow base 3 1 v n xs)
    (v2 : Value) (zs : List Int) (hx : a.eval x = v2) (hR : Rd w v2 zs) (hn : n ≤ 100000) (hbase : base ≤ w.heap.size)
    (h : ∀ v' w', w'.ownsRow base 3 1 v' (n + zs.length) (xs ++ zs.map (Value.int .i64)) → w.grownBy w' v.ownBlock → wpList Try.prog ops Q rest (a.put o.dst v') w') : wpList Try.prog ops Q (o :: rest) a w := by
  obtain ⟨i0, hi, hz0, hz1, hz2⟩ := info_parts Try.info3
  obtain ⟨_, hl, ad, cap, rfl, h3⟩ := hR
  have h1 : ∀ u ∈ zs.map (Value.int .i64), u.oneCell' = true := fun u hu => by obtain ⟨y, _, rfl⟩ := List.mem_map.1 hu; rfl
  rcases h3 with ⟨rfl, hcap⟩ | ⟨b, off, rfl, _, hc⟩
  · cases ad with
    | none =>
      rw [hcap rfl] at hx
      exact wpList_append_own_none hgd s x 22 ho base 3 i0 1 Try.underlying22 hi v n xs hs hown hx (h v w (by simpa using hown) (World.grownBy.refl w _))
    | some p =>
      exact wpList_append_own w hgd s x 22 ho base 3 i0 (.int .i64 0) 1 8 Try.underlying22 hi hz0 hz1 hz2 rfl (by decide) v n xs hs hown p _ cap ([].map (Value.int .i64)) hx (by simp) (by intro j u hu; simp at hu) h1 (by unfold maxLen; simp; omega) (by simp; omega) hbase fun v' w' r1 r2 _ => h v' w' r1 r2
  · exact wpList_append_own w hgd s x 22 ho base 3 i0 (.int .i64 0) 1 8 Try.underlying22 hi hz0 hz1 hz2 rfl (by decide) v n xs hs hown ⟨b, off, none⟩ _ cap (zs.map (Value.int .i64)) hx (by simp) (by
      intro j u hu
      rw [List.getElem?_map] at hu
      obtain ⟨y, hy, rfl⟩ := Option.map_eq_some_iff.1 hu
      have hj : j < zs.length := (List.getElem?_eq_some_iff.1 hy).1
      rw [Addr.add_lit, hc j hj, hy]
      rfl) h1 (by unfold maxLen; omega) (by omega) hbase fun v' w' r1 r2 _ => h v' w' r1 r2

theorem own_below {W W' : World} {base : Nat} {e : TypeId} {size : Nat} {v : Value} {n : Nat} {xs : List Value} (h : W.ownsRow base e size v n xs) (hb : Below W.heap.size W W') : W'.ownsRow base e size v n xs := by
  refine ⟨h.1, ?_⟩
  rcases h.2 with hn | ⟨g, cap, cur, rfl, hg, hgg, rest⟩
  · exact .inl hn
  · exact .inr ⟨g, cap, cur, rfl, hg, (hb.block g (Array.getElem?_eq_some_iff.1 hgg).1).trans hgg, rest⟩
/-- What a call's own row holds is read. -/
theorem Rd.of_own {W : World} {base : Nat} {v : Value} {n : Nat} {zs : List Int} (h : W.ownsRow base 3 1 v n (zs.map (Value.int .i64))) (hb : ∀ z ∈ zs, -9223372036854775808 ≤ z ∧ z < 9223372036854775808) (hl : zs.length ≤ 1000) : Rd W v zs := by
  have hc := h
  have hn : zs.length = n := by simpa using h.1
  subst hn
  refine ⟨hb, hl, ?_⟩
  rcases h.2 with ⟨rfl, h0⟩ | ⟨g, cap, cur, rfl, _, hg, _⟩
  · have e : zs = [] := List.eq_nil_of_length_eq_zero h0
    subst e
    exact ⟨none, 0, rfl, .inl ⟨rfl, fun _ => rfl⟩⟩
  · refine ⟨some ⟨g, 0, none⟩, cap, rfl, .inr ⟨g, 0, rfl, (Array.getElem?_eq_some_iff.1 hg).1, ?_⟩⟩
    intro j hj
    have := hc.cells rfl j (.int .i64 (zs[j]?.getD 0)) (by simp [List.getElem?_eq_getElem hj])
    rwa [Addr.add_lit] at this
theorem own_two {W : World} {base : Nat} {v : Value} {n : Nat} {l m : List Int} (h : W.ownsRow base 3 1 v n ([] ++ l.map (Value.int .i64) ++ m.map (Value.int .i64))) (hl : ∀ z ∈ l, -9223372036854775808 ≤ z ∧ z < 9223372036854775808) (hm : ∀ z ∈ m, -9223372036854775808 ≤ z ∧ z < 9223372036854775808) (hlm : (l ++ m).length ≤ 1000) : Rd W v (l ++ m) := by
  refine Rd.of_own (n := n) (base := base) ?_ ?_ hlm
  · rw [List.map_append]; exact h
  · intro z hz
    rcases List.mem_append.1 hz with hz | hz
    · exact hl z hz
    · exact hm z hz

end Go.Proofs.Ytmenkolceahebaa.Sm
