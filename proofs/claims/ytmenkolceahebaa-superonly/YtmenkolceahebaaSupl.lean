/- Layer 8: what is read, for each of the layers below; rows of the call's own; heads. -/
import Derived.Test.YtmenkolceahebaaSupnum
import Derived.Test.YtmenkolceahebaaStepa
import Derived.Test.YtmenkolceahebaaLawa
import Derived.Test.YtmenkolceahebaaQuietb
import Derived.Deep.RegionLaw
import Derived.Deep.RegionHeld3
import Derived.Laws.CopyOwn
import Derived.Lib.AppendZeros
namespace Go.Proofs.Ytmenkolceahebaa.Sm
open Go.RowKit
theorem u64_bits (z : Int) : u64 z = (BitVec.ofInt 64 z).toNat := by
  rw [BitVec.toNat_ofInt]
  rfl
theorem u64_wrap (z : Int) : u64 (IntKind.i64.wrap z) = u64 z := by
  rw [IntKind.wrap_i64]
  unfold u64
  omega
theorem u64_nat (n : Nat) (h : n < 18446744073709551616) : u64 (n : Int) = n := by unfold u64; omega
theorem u64_xor (a b : Int) : u64 (bits .xor .i64 a b) = u64 a ^^^ u64 b := by
  show u64 (IntKind.i64.wrap ((BitVec.ofInt 64 a ^^^ BitVec.ofInt 64 b).toNat : Int)) = _
  rw [u64_wrap, BitVec.toNat_xor, ← u64_bits, ← u64_bits, u64_nat _ (Nat.xor_lt_two_pow (n := 64) (u64_lt a) (u64_lt b))]
theorem xor_bd (a b : Int) : -9223372036854775808 ≤ bits .xor .i64 a b ∧ bits .xor .i64 a b < 9223372036854775808 := by
  show -9223372036854775808 ≤ IntKind.i64.wrap ((BitVec.ofInt 64 a ^^^ BitVec.ofInt 64 b).toNat : Int) ∧ IntKind.i64.wrap ((BitVec.ofInt 64 a ^^^ BitVec.ofInt 64 b).toNat : Int) < _
  rw [IntKind.wrap_i64]
  omega
theorem xor_other (a d : Int) (h0 : d ≠ 0) (h1 : -9223372036854775808 ≤ d ∧ d < 9223372036854775808) : bits .xor .i64 a d ≠ a := by
  intro h
  have hx := u64_xor a d
  rw [h] at hx
  have h2 : u64 a ^^^ u64 a = u64 a ^^^ (u64 a ^^^ u64 d) := by rw [← hx]
  rw [Nat.xor_self, ← Nat.xor_assoc, Nat.xor_self, Nat.zero_xor] at h2
  unfold u64 at h2
  omega
end Go.Proofs.Ytmenkolceahebaa.Sm
namespace Go.Proofs.Ytmenkolceahebaa
open Go.RowKit Go.Shelf Classical
set_option linter.unusedVariables false

def Fits (zs : List Int) : Prop := ∀ z ∈ zs, -9223372036854775808 ≤ z ∧ z < 9223372036854775808
theorem Rd.sm {W : World} {v : Value} {zs : List Int} (h : Rd W v zs) (hb : Fits zs) : Sm.Rd W v zs := by
  obtain ⟨h1, h2, a, cap, rfl, h0, h3⟩ := h
  refine ⟨hb, h2, a, cap, rfl, ?_⟩
  rcases h3 with ⟨h, h'⟩ | ⟨b, off, rfl, hlt, hc⟩
  · exact .inl ⟨List.eq_nil_of_length_eq_zero h, h'⟩
  · exact .inr ⟨b, off, rfl, hlt, fun j hj => hc j _ (by simp [List.getElem?_eq_getElem hj])⟩
theorem Rd.own {W : World} {base : Nat} {v : Value} {n : Nat} {zs : List Int} (h : W.ownsRow base 3 1 v n (zs.map (Value.int .i64))) (hl : zs.length ≤ 1000) : Rd W v zs := by
  have hc := h
  have hn : zs.length = n := by simpa using h.1
  subst hn
  rcases h.2 with ⟨rfl, h0⟩ | ⟨g, cap, cur, rfl, _, hg, hcap, _⟩
  · exact ⟨by simp, hl, none, 0, by rw [h0], by omega, .inl ⟨h0, fun _ => rfl⟩⟩
  · refine ⟨by simp, hl, some ⟨g, 0, none⟩, cap, rfl, hcap, .inr ⟨g, 0, rfl, (Array.getElem?_eq_some_iff.1 hg).1, ?_⟩⟩
    intro j u hu
    have := hc.cells rfl j u hu
    rwa [Addr.add_lit] at this
theorem all_range_int : ∀ (xs ys : List Int), xs.length = ys.length → ((List.range xs.length).all fun i => xs.getD i 0 == ys.getD i 0) = (xs == ys)
  | [], [], _ => rfl
  | x :: xs, y :: ys, h => by
    have ih := all_range_int xs ys (by simpa using h)
    rw [List.length_cons, List.range_succ_eq_map, List.all_cons, List.all_map]
    simp only [List.getD_cons_zero, Function.comp_def, List.getD_cons_succ, ih]
    simp [List.cons_beq_cons]
  | [], _ :: _, h => by simp at h
  | _ :: _, [], h => by simp at h
theorem Rd.drop {W : World} {b off n c : Nat} {zs : List Int} (h : Rd W (.slice (some ⟨b, off, none⟩) n c) zs) (k : Nat) (hk : k ≤ zs.length) : Rd W (.slice (some ⟨b, off + k, none⟩) (n - k) (c - k)) (zs.drop k) := by
  obtain ⟨h1, h2, a, cap, e, h0, h3⟩ := h
  cases e
  have hlen : (zs.drop k).length = zs.length - k := by simp
  unfold Rd
  rw [hlen]
  rcases h3 with ⟨hz, h⟩ | ⟨b', off', e, hlt, hc⟩
  · exact ⟨by simp, by omega, some ⟨b, off + k, none⟩, c - k, rfl, by omega, .inl ⟨by omega, fun h => by cases h⟩⟩
  · cases e
    refine ⟨by simp, by omega, some ⟨b, off + k, none⟩, c - k, rfl, by omega, .inr ⟨b, off + k, rfl, hlt, ?_⟩⟩
    intro j u hu
    rw [Nat.add_assoc]
    refine hc (k + j) u ?_
    rw [← hu, List.map_drop, List.getElem?_drop]
theorem wf_u8 {z : Int} (h : (Lit.int .u8 z).wf = true) : ∃ n : Nat, z = (n : Int) ∧ n < 256 := by
  simp [Lit.wf, IntKind.min, IntKind.max, IntKind.bits, IntKind.signed] at h
  exact ⟨z.toNat, by omega, by omega⟩
theorem own_none {base : Nat} (w : World) (h : base ≤ w.heap.size) : (w.alloc (.cells #[] 3)).ownsRow base 3 1 (.slice (some ⟨w.heap.size, 0, none⟩) 0 0) 0 [] := World.ownsRow_made (base := base) (e := 3) (size := 1) w #[] 0 h (by unfold maxLen; omega) rfl
theorem rem_nums (m : Nat) (h : m < 256) : ∃ j : Nat, (m : Int) % 16 = (j : Int) ∧ j < 16 ∧ (m : Int).tmod 16 = (j : Int) ∧ IntKind.u8.wrap (j : Int) = (j : Int) ∧ IntKind.i64.wrap (j : Int) = (j : Int) ∧ m % 16 = j ∧ IntKind.u8.wrap 16 = 16 := by
  refine ⟨m % 16, by omega, by omega, ?_, ?_, ?_, rfl, by rfl⟩
  · rw [Int.tmod_eq_emod_of_nonneg (by omega)]; omega
  · simp [IntKind.wrap, IntKind.bits, IntKind.signed]; omega
  · rw [IntKind.wrap_i64]; omega
/-- The walk stands at the operation that writes slot n: facts can be laid there. -/
theorem stop_at {P : Program} {ops : Array Oper} {Q : Exit → Act → World → Prop} {rest : List Oper} {a : Act} {w : World} (n : Nat) {o : Oper} (hd : o.dst = some n) (h : wpList P ops Q (o :: rest) a w) : wpList P ops Q (o :: rest) a w := h
theorem Rd.take {W : World} {b off n c : Nat} {zs : List Int} (h : Rd W (.slice (some ⟨b, off, none⟩) n c) zs) (k : Nat) (hk : k ≤ zs.length) : Rd W (.slice (some ⟨b, off, none⟩) k c) (zs.take k) := by
  obtain ⟨h1, h2, a, cap, e, h0, h3⟩ := h
  cases e
  have hlen : (zs.take k).length = k := by simp; omega
  unfold Rd
  rw [hlen]
  rcases h3 with ⟨hz, h⟩ | ⟨b', off', e, hlt, hc⟩
  · exact ⟨by simp; omega, by omega, some ⟨b, off, none⟩, c, rfl, by omega, .inl ⟨by omega, fun h => by cases h⟩⟩
  · cases e
    refine ⟨by simp; omega, by omega, some ⟨b, off, none⟩, c, rfl, by omega, .inr ⟨b, off, rfl, hlt, ?_⟩⟩
    intro j u hu
    refine hc j u ?_
    rw [List.map_take, List.getElem?_take] at hu
    split at hu
    · exact hu
    · cases hu
/-- What is read is appended to a row of the call's own. -/
theorem append_own_rd {w : World} {ops : Array Oper} {rest : List Oper} {o : Oper} {a : Act} {Q : Exit → Act → World → Prop} (hgd : o.guard = none) (s x : Operand)
    (ho : o.op = .call { callee := .builtin .append, args := #[s, x], argTypes := #[22, 22] }) (base : Nat) (v : Value) (zs : List Int) (hs : a.eval s = v) (hown : OwnI w base v zs)
    (v2 : Value) (ys : List Int) (hx : a.eval x = v2) (hR : Rd w v2 ys) (hn : zs.length ≤ 1000) (hbase : base ≤ w.heap.size) (M : List Int) (hM : zs ++ ys = M)
    (h : ∀ a' c' w', OwnI w' base (.slice a' M.length c') M → Below base w w' → wpList Try.prog ops Q rest (a.put o.dst (.slice a' M.length c')) w') : wpList Try.prog ops Q (o :: rest) a w := by
  refine append_rdc hgd s x 22 ho base 3 1 (.int .i64 0) 8 Try.underlying22 Try.info3 rfl (by decide) (by decide) v zs.length (zs.map (Value.int .i64)) hs hown v2 ys.length (ys.map (Value.int .i64)) hx hR (ints_one ys) (by omega) hbase ?_
  intro v' w' o' g'
  have o2 : OwnI w' base v' M := by
    unfold OwnI
    rw [← hM, List.length_append, List.map_append]
    exact o'
  obtain ⟨a', c', rfl⟩ := o2.form
  exact h a' c' w' o2 ((Below.refl base w).grown g' hbase (fun k hk => (World.ownsRow.lt hown k hk).1))
theorem own_lit {W : World} {base b : Nat} (zs : List Int) (hb : b = W.heap.size) (h : base ≤ W.heap.size) (hl : zs.length ≤ 1000) : OwnI (W.alloc (.cells (zs.map (Value.int .i64)).toArray 3)) base (.slice (some ⟨b, 0, none⟩) zs.length zs.length) zs := by
  subst hb
  refine ⟨by simp, .inr ⟨W.heap.size, zs.length, (zs.map (Value.int .i64)).toArray, rfl, h, heap_alloc_new W _, Nat.le_refl _, ?_, ?_, ?_⟩⟩
  · unfold maxLen; omega
  · simp
  · rw [Nat.mul_one, List.take_of_length_le (by simp)]
theorem rd_lit {W : World} {b : Nat} (zs : List Int) (hb : b = W.heap.size) (hl : zs.length ≤ 1000) : Rd (W.alloc (.cells (zs.map (Value.int .i64)).toArray 3)) (.slice (some ⟨b, 0, none⟩) zs.length zs.length) zs := (own_lit zs hb (Nat.le_refl _) hl).rd hl
theorem ownI_below {W W' : World} {base : Nat} {v : Value} {zs : List Int} (h : OwnI W base v zs) (hb : Below W.heap.size W W') : OwnI W' base v zs := own_below h hb
theorem nil_rd (W : World) : Rd W (.slice none 0 0) [] := ⟨rfl, by simp, none, 0, rfl, Nat.le_refl _, .inl ⟨rfl, fun _ => rfl⟩⟩
theorem stwo {W : World} {b : Nat} (p q : Mi) (hb : b = W.heap.size) : RdS (W.alloc (.cells #[.int .i64 p.k, .int .i64 p.a, .int .i64 p.v, .int .i64 q.k, .int .i64 q.a, .int .i64 q.v] 44)) (.slice (some ⟨b, 0, none⟩) 2 2) [p, q] := by
  subst hb
  refine ⟨rfl, by simp, _, _, rfl, Nat.le_refl _, .inr ⟨_, _, rfl, by simp, fun j u hj => ?_⟩⟩
  match j, hj with
  | 0, h => cases h; simp
  | 1, h => cases h; simp
  | 2, h => cases h; simp
  | 3, h => cases h; simp
  | 4, h => cases h; simp
  | 5, h => cases h; simp
  | j + 6, h => simp [mcs, mc1] at h
open Classical in
theorem neq52 (x y z x' y' z' : Int) (w : World) : (binOp .neq 44 (.agg #[.int .i64 x, .int .i64 y, .int .i64 z]) (.agg #[.int .i64 x', .int .i64 y', .int .i64 z'])).run Try.prog w = .ok (.bool (!decide (Mi.mk x y z = Mi.mk x' y' z'))) w := by
  have u3 := Try.underlying3
  have a3 := Try.isAgg3
  have z3 := Try.sizeOf3
  have hS : Try.prog.underlying 44 = some (.struct (Try.prog.fieldsOf 44)) := by kernel_rfl
  have hp : Try.prog.stoodInHeld 44 = false := by kernel_rfl
  rw [run_neq_struct, show (10000 : Nat) = 9999 + 1 from rfl, run_equalIn_agg w 9999 44 _ _ hS hp]
  simp only [Program.fieldsOf, Try.underlying44]
  go_simp
  by_cases h1 : x = x' <;> by_cases h2 : y = y' <;> by_cases h3 : z = z' <;> simp [h1, h2, h3]
set_option maxRecDepth 100000 in
set_option maxHeartbeats 2000000 in
/-- Steps are the same. -/
theorem sameS_any (u v : Value) (l1 l2 : List Mi) (w : World) (hu : RdS w u l1) (hv : RdS w v l2) : Calls Try.prog 15 #[u, v] w fun e w' => e = .returned (.bool (decide (l1 = l2))) ∧ Below w.heap.size w w' := by
  have hu' : Hid (RdS w u l1) := hu
  have hv' : Hid (RdS w v l2) := hv
  obtain ⟨hz, a, cap, rfl⟩ := hu.form
  obtain ⟨hy, a2, cap2, rfl⟩ := hv.form
  clear hu hv
  have q52 : ∀ (x y z x' y' z' : Int) (w : World), (binOp .neq 44 (.agg #[.int .i64 x, .int .i64 y, .int .i64 z]) (.agg #[.int .i64 x', .int .i64 y', .int .i64 z'])).run Try.prog w = .ok (.bool (!decide (Mi.mk x y z = Mi.mk x' y' z'))) w := neq52
  by_cases hl : l1.length = l2.length
  · have hl2 : ((l1.length : Int) != (l2.length : Int)) = false := by simp [hl]
    have Hl : Hid (l1.length = l2.length) := hl
    clear hl
    go_enter Try.func15, Try.ntmps15
    go_wp2
    go_loopw [5] (fun i w1 => ∃ k : Nat, k ≤ l1.length ∧ i = .int .i64 k ∧ l1.take k = l2.take k ∧ Below w.heap.size w w1) (fun i _ => l1.length - (intOf i).toNat)
    case atStart => exact ⟨0, Nat.zero_le _, rfl, rfl, Below.refl _ _⟩
    case round =>
      obtain ⟨k, hk, rfl, ht, hbel⟩ := hrel
      have Ht : Hid (l1.take k = l2.take k) := ht
      have HB : Hid (Below w.heap.size w wr) := hbel
      clear ht hbel
      by_cases hlt : k < l1.length
      · have hltI : (k : Int) < (l1.length : Int) := by omega
        have hlt2 : k < l2.length := by have := Hl.out; omega
        have hltI2 : (k : Int) < (l2.length : Int) := by omega
        obtain ⟨x, hx⟩ : ∃ x, l1[k]? = some x := ⟨_, List.getElem?_eq_getElem hlt⟩
        obtain ⟨y, hy'⟩ : ∃ y, l2[k]? = some y := ⟨_, List.getElem?_eq_getElem hlt2⟩
        obtain ⟨b, off, rfl, x0, x1, x2⟩ := (hu'.out.below HB.out).get hx
        obtain ⟨b2, off2, rfl, y0, y1, y2⟩ := (hv'.out.below HB.out).get hy'
        have Hx : Hid (l1[k]? = some x) := hx
        have Hy : Hid (l2[k]? = some y) := hy'
        clear hx hy'
        obtain ⟨xk, xa, xv⟩ := x
        obtain ⟨yk, ya, yv⟩ := y
        dsimp only at x0 x1 x2 y0 y1 y2
        by_cases hne : Mi.mk xk xa xv = Mi.mk yk ya yv
        · have hd : decide (Mi.mk xk xa xv = Mi.mk yk ya yv) = true := decide_eq_true hne
          have hq : ∀ w, (binOp .neq 44 (.agg #[.int .i64 xk, .int .i64 xa, .int .i64 xv]) (.agg #[.int .i64 yk, .int .i64 ya, .int .i64 yv])).run Try.prog w = .ok (.bool false) w := fun w => by rw [q52, hd]; rfl
          have Hn : Hid (l1.take (k + 1) = l2.take (k + 1)) := by (show _ = _; rw [take_next Hx.out, take_next Hy.out, Ht.out, hne])
          clear hne hd q52
          go_wp2
          go_quiet (fail)
          go_wp2
          go_roundw
          case rel => exact ⟨k + 1, by omega, by go_num, Hn.out, below_drewN HB.out _⟩
          case measure => simp [intOf]; omega
        · have hd : decide (Mi.mk xk xa xv = Mi.mk yk ya yv) = false := decide_eq_false hne
          have hq : ∀ w, (binOp .neq 44 (.agg #[.int .i64 xk, .int .i64 xa, .int .i64 xv]) (.agg #[.int .i64 yk, .int .i64 ya, .int .i64 yv])).run Try.prog w = .ok (.bool true) w := fun w => by rw [q52, hd]; rfl
          have Hn : Hid (decide (l1 = l2) = false) := decide_eq_false (fun e => hne (by have h1 := Hx.out; have h2 := Hy.out; rw [e, h2] at h1; cases h1; rfl))
          clear hne hd q52
          go_wp2
          go_quiet (fail)
          go_wp2
          go_ret
          exact ⟨ret_bool Hn.out.symm, below_drewN HB.out _⟩
      · have hge : ¬ (k : Int) < (l1.length : Int) := by omega
        have Hn : Hid (decide (l1 = l2) = true) := decide_eq_true (by have := Ht.out; rwa [List.take_of_length_le (by omega), List.take_of_length_le (by have := Hl.out; omega)] at this)
        go_wp2
        go_ret
        exact ⟨ret_bool Hn.out.symm, HB.out⟩
  · have hl2 : ((l1.length : Int) != (l2.length : Int)) = true := by simp; omega
    go_enter Try.func15, Try.ntmps15
    go_wp2
    go_ret
    exact ⟨ret_bool (decide_eq_false (fun e => hl (by rw [e]))).symm, Below.refl _ _⟩
/-- Many words that are read. -/
def Rl (W : World) (v : Value) (zs : List Int) : Prop :=
  zs.length ≤ 6000 ∧ ∃ a cap, v = .slice a zs.length cap ∧ zs.length ≤ cap ∧ ((zs.length = 0 ∧ (a = none → cap = 0)) ∨ ∃ b off, a = some ⟨b, off, none⟩ ∧ b < W.heap.size ∧ ∀ j u, (zs.map (Value.int .i64))[j]? = some u → W.cell? ⟨b, off + j, none⟩ = some u)
theorem Rl.below {W W' : World} {v : Value} {zs : List Int} (h : Rl W v zs) (hb : Below W.heap.size W W') : Rl W' v zs := by
  obtain ⟨h2, a, cap, rfl, hcap, h3⟩ := h
  refine ⟨h2, a, cap, rfl, hcap, ?_⟩
  rcases h3 with h | ⟨b, off, rfl, hlt, hc⟩
  · exact .inl h
  · exact .inr ⟨b, off, rfl, Nat.lt_of_lt_of_le hlt hb.size, fun j u hj => (hb.cell (p := ⟨b, off + j, none⟩) hlt).trans (hc j u hj)⟩
theorem Rd.rl {W : World} {v : Value} {zs : List Int} (h : Rd W v zs) : Rl W v zs := by
  obtain ⟨_, h2, a, cap, rfl, h0, h3⟩ := h
  exact ⟨by omega, a, cap, rfl, h0, h3⟩
theorem Rl.form {W : World} {v : Value} {zs : List Int} (h : Rl W v zs) : zs.length ≤ 6000 ∧ ∃ a cap, v = .slice a zs.length cap ∧ zs.length ≤ cap := by
  obtain ⟨h2, a, cap, rfl, h0, _⟩ := h
  exact ⟨h2, a, cap, rfl, h0⟩
theorem Rl.base {W : World} {a : Option Addr} {n c : Nat} {zs : List Int} (h : Rl W (.slice a n c) zs) (h0 : 0 < zs.length) : ∃ b off, a = some ⟨b, off, none⟩ ∧ ∀ k z, zs[k]? = some z → W.cell? ⟨b, off + k, none⟩ = some (.int .i64 z) := by
  obtain ⟨_, a', cap', e, _, h3⟩ := h
  cases e
  rcases h3 with ⟨h, _⟩ | ⟨b, off, rfl, _, hc⟩
  · omega
  · exact ⟨b, off, rfl, fun k z hz => hc k _ (by simp [hz])⟩
theorem Rl.cell {W : World} {b off n c : Nat} {zs : List Int} (h : Rl W (.slice (some ⟨b, off, none⟩) n c) zs) {k : Nat} {z : Int} (hz : zs[k]? = some z) : W.cell? ⟨b, off + k, none⟩ = some (.int .i64 z) := by
  obtain ⟨hk, _⟩ := List.getElem?_eq_some_iff.1 hz
  obtain ⟨b', off', e, hc⟩ := h.base (by omega)
  cases e
  exact hc k z hz
theorem Rl.take {W : World} {b off n c : Nat} {zs : List Int} (h : Rl W (.slice (some ⟨b, off, none⟩) n c) zs) (k : Nat) (hk : k ≤ zs.length) (hk2 : k ≤ 1000) : Rd W (.slice (some ⟨b, off, none⟩) k c) (zs.take k) := by
  obtain ⟨h2, a, cap, e, h0, h3⟩ := h
  cases e
  have hlen : (zs.take k).length = k := by simp; omega
  unfold Rd
  rw [hlen]
  rcases h3 with ⟨hz, h⟩ | ⟨b', off', e, hlt, hc⟩
  · exact ⟨by simp; omega, by omega, some ⟨b, off, none⟩, c, rfl, by omega, .inl ⟨by omega, fun h => by cases h⟩⟩
  · cases e
    refine ⟨by simp; omega, by omega, some ⟨b, off, none⟩, c, rfl, by omega, .inr ⟨b, off, rfl, hlt, ?_⟩⟩
    intro j u hu
    refine hc j u ?_
    rw [List.map_take, List.getElem?_take] at hu
    split at hu
    · exact hu
    · cases hu
theorem Rl.drop {W : World} {b off n c : Nat} {zs : List Int} (h : Rl W (.slice (some ⟨b, off, none⟩) n c) zs) (k : Nat) (hk : k ≤ zs.length) : Rl W (.slice (some ⟨b, off + k, none⟩) (n - k) (c - k)) (zs.drop k) := by
  obtain ⟨h2, a, cap, e, h0, h3⟩ := h
  cases e
  have hlen : (zs.drop k).length = zs.length - k := by simp
  unfold Rl
  rw [hlen]
  rcases h3 with ⟨hz, h⟩ | ⟨b', off', e, hlt, hc⟩
  · exact ⟨by omega, some ⟨b, off + k, none⟩, c - k, rfl, by omega, .inl ⟨by omega, fun h => by cases h⟩⟩
  · cases e
    refine ⟨by omega, some ⟨b, off + k, none⟩, c - k, rfl, by omega, .inr ⟨b, off + k, rfl, hlt, ?_⟩⟩
    intro j u hu
    rw [Nat.add_assoc]
    refine hc (k + j) u ?_
    rw [← hu, List.map_drop, List.getElem?_drop]
theorem OwnI.rl {W : World} {base : Nat} {v : Value} {zs : List Int} (h : OwnI W base v zs) (hl : zs.length ≤ 6000) : Rl W v zs := by
  have hc : W.ownsRow base 3 1 v zs.length (zs.map (Value.int .i64)) := h
  rcases h.2 with ⟨rfl, h0⟩ | ⟨g, cap, cur, rfl, _, hg, hcap, _⟩
  · exact ⟨hl, none, 0, by rw [h0], by omega, .inl ⟨h0, fun _ => rfl⟩⟩
  · refine ⟨hl, some ⟨g, 0, none⟩, cap, rfl, hcap, .inr ⟨g, 0, rfl, (Array.getElem?_eq_some_iff.1 hg).1, ?_⟩⟩
    intro j u hu
    have := hc.cells rfl j u hu
    rwa [Addr.add_lit] at this
/-- Many words that come in. -/
def RowIn (W : World) (a : Option Addr) (n c : Nat) : Prop := n ≤ 6000 → ∃ zs : List Int, zs.length = n ∧ Rl W (.slice a n c) zs ∧ Bd zs
theorem RowIn.of_row {W : World} {a : Option Addr} {len cap : Nat} {zs : List Int} (h : IsRow .i64 W a len cap zs) : RowIn W a len cap := by
  intro hl
  rcases h with ⟨rfl, rfl, rfl, rfl⟩ | ⟨x, rfl, h1, h2, h3, h4, h5⟩
  · exact ⟨[], rfl, (Rd.bare _).rl, fun x hx => by cases hx⟩
  · have hlen : (zs.take len).length = len := by rw [List.length_take]; omega
    refine ⟨zs.take len, hlen, ⟨by omega, some x, cap, by rw [hlen], by omega, ?_⟩, fun z hz => wf_i64 (h5 z (List.mem_of_mem_take hz))⟩
    by_cases h0 : len = 0
    · exact .inl ⟨by omega, fun h => by cases h⟩
    · right
      have hx := cell_spot (h4 0 (by omega))
      have hx0 : x.add 0 = x := rfl
      rw [hx0] at hx
      have hlt := World.block_lt_of_cell? W _ (h4 0 (by omega))
      rw [hx0] at hlt
      refine ⟨x.block, x.off, by rw [← hx], hlt, ?_⟩
      intro j u hj
      rw [List.getElem?_map] at hj
      obtain ⟨z, hz, rfl⟩ := Option.map_eq_some_iff.1 hj
      have hj' : j < len := by have := (List.getElem?_eq_some_iff.1 hz).1; omega
      have := h4 j (by omega)
      rw [hx, Addr.add_lit] at this
      rw [this]
      rw [List.getElem?_take, if_pos hj'] at hz
      simp [List.getD, hz]
section
open Go.ChangeShapes Go.WideShapes
variable {H : Type} {enc : TypeId × Value → H} {W : World} {base : Nat} {held : Bool}
theorem wide_of_trod {fuel : Nat} {v : Value} {x : DataW H × List MemPlace} (h : DataW.trod enc Try.prog W base (fun _ => true) held fuel 22 [v] = some x) : ∃ a len cap, v = .slice a len cap ∧ RowIn W a len cap := by
  rcases open_ints Try.underlying22 Try.underlying3 (by kernel_rfl) h with ⟨hcs, _⟩ | ⟨x, l, c, zs, hcs, _, hl, hm, hz, _, hcell, hwz⟩
  · cases hcs
    exact ⟨none, 0, 0, rfl, RowIn.of_row (.inl ⟨rfl, rfl, rfl, rfl⟩)⟩
  · cases hcs
    exact ⟨some x, l, c, rfl, RowIn.of_row (zs := zs) (.inr ⟨_, rfl, hl, hm, by simpa using hz, hcell, hwz⟩)⟩
end
/-- What is read, however long, is appended to a row of the call's own. -/
theorem append_own_rl {w : World} {ops : Array Oper} {rest : List Oper} {o : Oper} {a : Act} {Q : Exit → Act → World → Prop} (hgd : o.guard = none) (s x : Operand)
    (ho : o.op = .call { callee := .builtin .append, args := #[s, x], argTypes := #[22, 22] }) (base : Nat) (v : Value) (zs : List Int) (hs : a.eval s = v) (hown : OwnI w base v zs)
    (v2 : Value) (ys : List Int) (hx : a.eval x = v2) (hR : Rl w v2 ys) (hn : zs.length ≤ 1000) (hbase : base ≤ w.heap.size) (M : List Int) (hM : zs ++ ys = M)
    (h : ∀ a' c' w', OwnI w' base (.slice a' M.length c') M → Below base w w' → wpList Try.prog ops Q rest (a.put o.dst (.slice a' M.length c')) w') : wpList Try.prog ops Q (o :: rest) a w := by
  have fin : ∀ v' w', w'.ownsRow base 3 1 v' (zs.length + ys.length) (zs.map (Value.int .i64) ++ ys.map (Value.int .i64)) → w.grownBy w' v.ownBlock → wpList Try.prog ops Q rest (a.put o.dst v') w' := by
    intro v' w' o' g'
    have o2 : OwnI w' base v' M := by
      unfold OwnI
      rw [← hM, List.length_append, List.map_append]
      exact o'
    obtain ⟨a', c', rfl⟩ := o2.form
    exact h a' c' w' o2 ((Below.refl base w).grown g' hbase (fun k hk => (World.ownsRow.lt hown k hk).1))
  obtain ⟨i0, hi, hz0, hz1, hz2⟩ := info_parts Try.info3
  obtain ⟨hk, ad, cap, rfl, -, h3⟩ := hR
  have hb : (zs.length + ys.length) * 8 ≤ 140737488355328 := by omega
  rcases h3 with ⟨h0, hcap⟩ | ⟨b, off, rfl, _, hc⟩
  · have e0 : ys = [] := List.eq_nil_of_length_eq_zero h0
    subst e0
    cases ad with
    | none =>
      rw [hcap rfl] at hx
      exact wpList_append_own_none hgd s x 22 ho base 3 i0 1 Try.underlying22 hi v _ _ hs hown hx (fin v w (by simpa [OwnI] using hown) (World.grownBy.refl w _))
    | some p =>
      exact wpList_append_own w hgd s x 22 ho base 3 i0 (.int .i64 0) 1 8 Try.underlying22 hi hz0 hz1 hz2 rfl (by decide) v _ _ hs hown p _ cap [] hx (by simp) (by intro j u hu; simp at hu) (by simp) (by unfold maxLen; omega) hb hbase fun v' w' r1 r2 _ => fin v' w' r1 r2
  · exact wpList_append_own w hgd s x 22 ho base 3 i0 (.int .i64 0) 1 8 Try.underlying22 hi hz0 hz1 hz2 rfl (by decide) v _ _ hs hown ⟨b, off, none⟩ _ cap (ys.map (Value.int .i64)) hx (by simp) (by
      intro j u hu
      rw [Addr.add_lit]
      exact hc j u hu) (ints_one ys) (by unfold maxLen; omega) hb hbase fun v' w' r1 r2 _ => fin v' w' r1 r2
/-- A head in a block of its own: sixteen words. -/
def Hw (W : World) (g : Nat) (L : List Int) : Prop := W.heap[g]? = some (.cells (L.map (Value.int .i64)).toArray 48 (0, 0))
theorem Hw.lt {W : World} {g : Nat} {L : List Int} (h : Hw W g L) : g < W.heap.size := (Array.getElem?_eq_some_iff.1 h).1
theorem Hw.belowN {W W' : World} {g n : Nat} {L : List Int} (h : Hw W g L) (hb : Below n W W') (hg : g < n) : Hw W' g L := (hb.block g hg).trans h
theorem Hw.below {W W' : World} {g : Nat} {L : List Int} (h : Hw W g L) (hb : Below W.heap.size W W') : Hw W' g L := h.belowN hb h.lt
theorem Hw.cell {W : World} {g : Nat} {L : List Int} (h : Hw W g L) {k : Nat} {z : Int} (hk : L[k]? = some z) : W.cell? ⟨g, k, none⟩ = some (.int .i64 z) := by
  simp [World.cell?, show W.heap[g]? = _ from h, hk]
theorem Hw.range {W : World} {g : Nat} {L : List Int} (h : Hw W g L) : W.rangeAt g 0 (L.map (Value.int .i64)) := by
  intro j v hv
  rw [List.getElem?_map] at hv
  obtain ⟨z, hz, rfl⟩ := Option.map_eq_some_iff.1 hv
  rw [Nat.zero_add]
  exact h.cell hz
theorem Hw.frozen {W : World} {g : Nat} {L : List Int} (h : Hw W g L) (k : Nat) : W.frozen? ⟨g, k, none⟩ = false := by
  simp [World.frozen?, show W.heap[g]? = _ from h]
theorem Hw.there {W : World} {g : Nat} {L : List Int} (h : Hw W g L) : W.there g 0 L.length := by
  intro j hj
  rw [Nat.zero_add, h.cell (List.getElem?_eq_getElem hj)]
  exact ⟨rfl, h.frozen j⟩
theorem Hw.rd {W : World} {g : Nat} {L : List Int} (h : Hw W g L) (off n c : Nat) (hn : off + n ≤ L.length) (hc : n ≤ c) (hl : n ≤ 1000) : Rd W (.slice (some ⟨g, off, none⟩) n c) ((L.drop off).take n) := by
  have e : ((L.drop off).take n).length = n := by simp; omega
  unfold Rd
  rw [e]
  refine ⟨by rw [List.length_map, e, Nat.mul_one], hl, some ⟨g, off, none⟩, c, rfl, hc, .inr ⟨g, off, rfl, h.lt, ?_⟩⟩
  intro j u hu
  rw [List.getElem?_map] at hu
  obtain ⟨z, hz, rfl⟩ := Option.map_eq_some_iff.1 hu
  refine h.cell ?_
  rw [List.getElem?_take] at hz
  split at hz
  · rw [List.getElem?_drop] at hz; exact hz
  · cases hz
theorem Hw.set {W : World} {g : Nat} {L : List Int} (h : Hw W g L) (k : Nat) (z : Int) : Hw (W.setCell ⟨g, k, none⟩ (.int .i64 z)) g (L.set k z) := by
  have := heap_setCell_same W g k _ 48 (.int .i64 z) h
  unfold Hw
  rw [this]
  simp
theorem Hw.other {W : World} {b g k : Nat} {L : List Int} (h : Hw W b L) (hn : b ≠ g) (u : Value) : Hw (W.setCell ⟨g, k, none⟩ u) b L := (Below.heap_setCell _ _ _ b hn).trans h
theorem Try.size48' : (Try.prog.info? 48).map (·.size) = some 16 := by kernel_rfl
theorem hw_size {L : List Int} (h : L.length = 16) : (Try.prog.info? 48).map (·.size) = some (L.map (Value.int .i64)).toArray.size := by rw [Try.size48']; simp [h]
theorem hw_sizeL {L : List Int} (h : L.length = 16) : (Try.prog.info? 48).map (·.size) = some (L.map (Value.int .i64)).length := by rw [Try.size48']; simp [h]
theorem hw_one (L : List Int) : (L.map (Value.int .i64)).toArray.all (·.oneCell') = true := all_oneCell_toArray (ints_one L)
theorem Hw.laid {W : World} {g : Nat} {L : List Int} (h : Hw W g L) (M : List Int) (hM : M.length = L.length) : (W.setCells g 0 (M.map (Value.int .i64))).rangeAt g 0 (M.map (Value.int .i64)) := World.rangeAt_setCells_same W g 0 _ (by rw [List.length_map, hM]; exact h.there)
def zeros16 : List Int := List.replicate 16 0
/-- 'copy(h.rest[:], l)', as one step of a region that draws. -/
theorem step_hw {ops : Array Oper} {o : Oper} {a : Act} {w : World} {K : Act → World → Prop} {Q : Exit → Act → World → Prop} {E : Prop} (hgd : o.guard = none) (d s : Operand)
    (ho : o.op = .call { callee := .builtin .copy, args := #[d, s], argTypes := #[22, 22] }) (g off n c : Nat) (zs L : List Int) (v : Value) (hd : a.eval d = .slice (some ⟨g, off, none⟩) n c) (hs : a.eval s = v)
    (hR : Rl w v zs) (hI : Hw w g L) (hL : off + n ≤ L.length)
    (h : ∀ w', Hw w' g (splice L off (zs.take n)) → Below g w w' → K (a.put o.dst (goInt (zs.take n).length)) w') :
    if Region.wanted o (yielded ops a.tmps) = true then Oper.wp Try.prog o a w K Q else E := by
  have hsz : (Try.prog.info? 3).map (·.size) = some 1 := by
    obtain ⟨i0, hi, _, hz1, _⟩ := info_parts Try.info3
    rw [hi]; simp [hz1]
  obtain ⟨hk, ad, cap, rfl, hcap, h3⟩ := hR
  refine step_copy_splice hgd d s 22 22 ho 3 Try.underlying22 hsz _ _ n c zs.length cap hd hs g off (L.map (Value.int .i64)) 48 hI ((zs.take n).map (Value.int .i64)) (by simp; exact Nat.min_comm _ _) ?_ (by simp; omega) (ints_one _) g w (Below.refl _ _) (Nat.le_refl _) ?_
  · intro h0
    refine ⟨rfl, ?_⟩
    rcases h3 with ⟨hz, _⟩ | ⟨b, o', rfl, _, hc⟩
    · simp [hz] at h0
    · refine ⟨_, rfl, fun j v hv => ?_⟩
      rw [Addr.add_lit]
      refine hc j v ?_
      rw [List.map_take, List.getElem?_take] at hv
      split at hv
      · exact hv
      · cases hv
  · intro w' h1 h2
    have e : splice (L.map (Value.int .i64)) off ((zs.take n).map (Value.int .i64)) = (splice L off (zs.take n)).map (Value.int .i64) := by simp [splice]
    rw [e] at h1
    have := h w' h1.out h2
    rwa [List.length_map]
end Go.Proofs.Ytmenkolceahebaa
