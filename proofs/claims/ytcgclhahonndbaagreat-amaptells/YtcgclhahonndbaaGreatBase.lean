/- Set over from a lower layer: Base. -/
import Derived.Test.YtcgclhahonndbaaGreatChecked
import Derived.WalkKit
import Derived.WalkSpells
import Derived.WalkLawsBesides
import Derived.LoopN
import Derived.Laws.BytesArg
import Derived.Laws.AppendOwnNone
import Derived.Deep.QuietTactic
import Derived.BigQuiet
import Derived.WalkSmall
import Derived.Deep.MidRow
import Derived.Deep.OwnRows
import Derived.Lib.SliceRun
import Derived.Deep.RegionHeld3
import Derived.Deep.RegionLaw
import Derived.Laws.ResultCell
import Derived.Laws.CopyOwn
import Derived.Lib.AppendZeros
import Derived.Deep.AppendLies
import Derived.Lib.SmallJoins
namespace Go.Proofs.YtcgclhahonndbaaGreat
open Go.RowKit
end Go.Proofs.YtcgclhahonndbaaGreat
namespace Go.Proofs.YtcgclhahonndbaaGreat
open Go.RowKit
set_option linter.unusedVariables false
def Bd (L : List Int) : Prop := ∀ x ∈ L, -9223372036854775808 ≤ x ∧ x < 9223372036854775808
theorem ret_int {k : IntKind} {a b : Int} (h : a = b) : Ending.returned (.int k a) = .returned (.int k b) := by rw [h]
theorem ret_bool {a b : Bool} (h : a = b) : Ending.returned (.bool a) = .returned (.bool b) := by rw [h]
theorem bstep {w a b : World} (h : Below w.heap.size w a) (k : Below a.heap.size a b) : Below w.heap.size w b := h.trans (k.mono h.size)
/-- The slice v, of n elements of so many cells, holds the cells xs. -/
def RdC (W : World) (size : Nat) (v : Value) (n : Nat) (xs : List Value) : Prop :=
  xs.length = n * size ∧ n ≤ 1000 ∧ ∃ a cap, v = .slice a n cap ∧ n ≤ cap ∧ ((n = 0 ∧ (a = none → cap = 0)) ∨ ∃ b off, a = some ⟨b, off, none⟩ ∧ b < W.heap.size ∧ ∀ j u, xs[j]? = some u → W.cell? ⟨b, off + j, none⟩ = some u)
theorem RdC.below {W W' : World} {size : Nat} {v : Value} {n : Nat} {xs : List Value} (h : RdC W size v n xs) (hb : Below W.heap.size W W') : RdC W' size v n xs := by
  obtain ⟨h1, h2, a, cap, rfl, hcap, h3⟩ := h
  refine ⟨h1, h2, a, cap, rfl, hcap, ?_⟩
  rcases h3 with h | ⟨b, off, rfl, hlt, hc⟩
  · exact .inl h
  · exact .inr ⟨b, off, rfl, Nat.lt_of_lt_of_le hlt hb.size, fun j u hj => (hb.cell (p := ⟨b, off + j, none⟩) hlt).trans (hc j u hj)⟩
/-- The slice v holds the ints zs. -/
def Rd (W : World) (v : Value) (zs : List Int) : Prop := RdC W 1 v zs.length (zs.map (Value.int .i64))
theorem Rd.below {W W' : World} {v : Value} {zs : List Int} (h : Rd W v zs) (hb : Below W.heap.size W W') : Rd W' v zs := RdC.below h hb
theorem Rd.form {W : World} {v : Value} {zs : List Int} (h : Rd W v zs) : zs.length ≤ 1000 ∧ ∃ a cap, v = .slice a zs.length cap := by
  obtain ⟨_, h2, a, cap, rfl, _⟩ := h
  exact ⟨h2, a, cap, rfl⟩
theorem Rd.at {W : World} {a : Option Addr} {n cap : Nat} {zs : List Int} (h : Rd W (.slice a n cap) zs) (k : Nat) (hk : k < zs.length) :
    ∃ b off, a = some ⟨b, off, none⟩ ∧ W.cell? ⟨b, off + k, none⟩ = some (.int .i64 (zs[k]'hk)) := by
  obtain ⟨_, _, a', cap', e, _, h3⟩ := h
  cases e
  rcases h3 with ⟨h0, _⟩ | ⟨b, off, rfl, _, hc⟩
  · omega
  · exact ⟨b, off, rfl, hc k _ (by simp [List.getElem?_eq_getElem hk])⟩
theorem Tryz.info3 : (Tryz.prog.info? 3).map (fun i => (i.zero, i.size, i.bytes)) = some (some (.int .i64 0), 1, 8) := by kernel_rfl
/-- 'append(s, x...)': a row of the call's own, and a slice that is read. -/
theorem append_rdc {w : World} {ops : Array Oper} {rest : List Oper} {o : Oper} {a : Act} {Q : Exit → Act → World → Prop} (hgd : o.guard = none) (s x : Operand) (t : TypeId)
    (ho : o.op = .call { callee := .builtin .append, args := #[s, x], argTypes := #[t, t] }) (base : Nat) (e : TypeId) (size : Nat) (z : Value) (bytes : Nat) (ht : Tryz.prog.underlying t = some (.slice e))
    (hinfo : (Tryz.prog.info? e).map (fun i => (i.zero, i.size, i.bytes)) = some (some z, size, bytes)) (hzs : z.cells.size = size) (hsz : 0 < size) (hby : bytes ≤ 100)
    (v : Value) (n : Nat) (xs : List Value) (hs : a.eval s = v) (hown : w.ownsRow base e size v n xs)
    (v2 : Value) (k : Nat) (ys : List Value) (hx : a.eval x = v2) (hR : RdC w size v2 k ys) (h1 : ∀ u ∈ ys, u.oneCell' = true) (hn : n ≤ 100000) (hbase : base ≤ w.heap.size)
    (h : ∀ v' w', w'.ownsRow base e size v' (n + k) (xs ++ ys) → w.grownBy w' v.ownBlock → wpList Tryz.prog ops Q rest (a.put o.dst v') w') : wpList Tryz.prog ops Q (o :: rest) a w := by
  obtain ⟨i0, hi, hz0, hz1, hz2⟩ := info_parts hinfo
  obtain ⟨hl, hk, ad, cap, rfl, -, h3⟩ := hR
  have hb : (n + k) * bytes ≤ 140737488355328 := Nat.le_trans (Nat.mul_le_mul_left _ hby) (by omega)
  rcases h3 with ⟨rfl, hcap⟩ | ⟨b, off, rfl, _, hc⟩
  · have : ys = [] := List.eq_nil_of_length_eq_zero (by simpa using hl)
    subst this
    cases ad with
    | none =>
      rw [hcap rfl] at hx
      exact wpList_append_own_none hgd s x t ho base e i0 size ht hi v n xs hs hown hx (h v w (by simpa using hown) (World.grownBy.refl w _))
    | some p =>
      exact wpList_append_own w hgd s x t ho base e i0 z size bytes ht hi hz0 hz1 hz2 hzs hsz v n xs hs hown p _ cap [] hx (by simp) (by intro j u hu; simp at hu) h1 (by unfold maxLen; omega) hb hbase fun v' w' r1 r2 _ => h v' w' r1 r2
  · exact wpList_append_own w hgd s x t ho base e i0 z size bytes ht hi hz0 hz1 hz2 hzs hsz v n xs hs hown ⟨b, off, none⟩ _ cap ys hx hl (by
      intro j u hu
      rw [Addr.add_lit]
      exact hc j u hu) h1 (by unfold maxLen; omega) hb hbase fun v' w' r1 r2 _ => h v' w' r1 r2
theorem ints_one (zs : List Int) : ∀ u ∈ zs.map (Value.int .i64), u.oneCell' = true := fun u hu => by obtain ⟨y, _, rfl⟩ := List.mem_map.1 hu; rfl
theorem own_below {W W' : World} {base : Nat} {e : TypeId} {size : Nat} {v : Value} {n : Nat} {xs : List Value} (h : W.ownsRow base e size v n xs) (hb : Below W.heap.size W W') : W'.ownsRow base e size v n xs := by
  refine ⟨h.1, ?_⟩
  rcases h.2 with hn | ⟨g, cap, cur, rfl, hg, hgg, rest⟩
  · exact .inl hn
  · exact .inr ⟨g, cap, cur, rfl, hg, (hb.block g (Array.getElem?_eq_some_iff.1 hgg).1).trans hgg, rest⟩
/-- What a call's own row holds is read. -/
theorem RdC.of_own {W : World} {base : Nat} {e : TypeId} {size : Nat} {v : Value} {n : Nat} {xs : List Value} (h : W.ownsRow base e size v n xs) (hl : n ≤ 1000) : RdC W size v n xs := by
  have hc := h
  refine ⟨h.1, hl, ?_⟩
  rcases h.2 with ⟨rfl, rfl⟩ | ⟨g, cap, cur, rfl, _, hg, _⟩
  · exact ⟨none, 0, rfl, Nat.le_refl _, .inl ⟨rfl, fun _ => rfl⟩⟩
  · refine ⟨some ⟨g, 0, none⟩, cap, rfl, by omega, .inr ⟨g, 0, rfl, (Array.getElem?_eq_some_iff.1 hg).1, ?_⟩⟩
    intro j u hu
    have := hc.cells rfl j u hu
    rwa [Addr.add_lit] at this
/-- A row of ints, of what is pending, of the call's own. -/
def OwnI (W : World) (base : Nat) (v : Value) (zs : List Int) : Prop := W.ownsRow base 3 1 v zs.length (zs.map (Value.int .i64))
theorem OwnI.rd {W : World} {base : Nat} {v : Value} {zs : List Int} (h : OwnI W base v zs) (hl : zs.length ≤ 1000) : Rd W v zs := RdC.of_own h hl
theorem OwnI.below {W W' : World} {base : Nat} {v : Value} {zs : List Int} (h : OwnI W base v zs) (hb : Below W.heap.size W W') : OwnI W' base v zs := own_below h hb
set_option maxRecDepth 100000 in
set_option maxHeartbeats 1000000 in
theorem cloneI_any (v : Value) (zs : List Int) (w : World) (hR : Rd w v zs) : Calls Tryz.prog 115 #[v] w fun e w' => ∃ v', e = .returned v' ∧ OwnI w' w.heap.size v' zs ∧ Below w.heap.size w w' := by
  have hR' := hR
  obtain ⟨_, hl, a, cap, rfl, -, h3⟩ := hR
  have q : ∀ (w : World) (a : Option Addr) (n c n' c' : Nat), (binOp .eql 22 (.slice a n c) (.slice none n' c')).run Tryz.prog w = .ok (.bool a.isNone) w := fun w a n c n' c' => Lib.run_eql_slice_nil w _ _ a n c n' c' Tryz.underlying22
  cases a with
  | none =>
    have h0 : zs.length = 0 ∧ cap = 0 := by
      rcases h3 with ⟨h0, hc⟩ | ⟨b, off, h, _⟩
      · exact ⟨h0, hc rfl⟩
      · cases h
    have hz : zs = [] := List.eq_nil_of_length_eq_zero h0.1
    obtain ⟨-, rfl⟩ := h0
    subst hz
    go_enter Tryz.func115, Tryz.ntmps115
    go_wp2
    go_ret
    exact ⟨_, rfl, World.ownsRow_nil _ _ _ _, Below.refl _ _⟩
  | some p =>
    clear h3
    go_enter Tryz.func115, Tryz.ntmps115
    go_wp2_with (first | (at_builtin; refine append_rdc rfl _ _ 22 rfl w.heap.size 3 1 _ 8 Tryz.underlying22 Tryz.info3 rfl (by decide) (by decide) _ 0 [] rfl (World.ownsRow_made (base := w.heap.size) (e := 3) (size := 1) w #[] 0 (Nat.le_refl _) (by omega) rfl) _ zs.length _ rfl (hR'.below ((Below.refl _ w).alloc (Nat.le_refl _) _)) (ints_one zs) (by omega) (by simp) ?_; intro v2 w2 o2 g2; have B2 : Below w.heap.size w w2 := ((Below.refl _ w).alloc (Nat.le_refl _) _).grown g2 (by simp) (by intro q hq; cases hq; exact Nat.le_refl _)))
    go_ret
    rw [Nat.zero_add] at o2
    exact ⟨_, rfl, o2, B2⟩
theorem OwnI.form {W : World} {base : Nat} {v : Value} {zs : List Int} (h : OwnI W base v zs) : ∃ a cap, v = .slice a zs.length cap := by
  rcases h.2 with ⟨rfl, h0⟩ | ⟨g, cap, cur, rfl, _⟩
  · exact ⟨none, 0, by rw [h0]⟩
  · exact ⟨_, _, rfl⟩
theorem Rd.cell {W : World} {b off n c : Nat} {zs : List Int} (h : Rd W (.slice (some ⟨b, off, none⟩) n c) zs) {k : Nat} {z : Int} (hz : zs[k]? = some z) : W.cell? ⟨b, off + k, none⟩ = some (.int .i64 z) := by
  obtain ⟨hk, rfl⟩ := List.getElem?_eq_some_iff.1 hz
  obtain ⟨b', off', e, hc⟩ := h.at k hk
  cases e
  exact hc
theorem wf_i64 {z : Int} (h : (Lit.int .i64 z).wf = true) : -9223372036854775808 ≤ z ∧ z < 9223372036854775808 := by
  simp [Lit.wf, IntKind.min, IntKind.max, IntKind.bits, IntKind.signed] at h
  omega
theorem cell_spot {W : World} {x : Addr} {v : Value} (h : W.cell? x = some v) : x = ⟨x.block, x.off, none⟩ := by
  obtain ⟨b, o, sp⟩ := x
  cases sp with
  | none => rfl
  | some p =>
    simp only [World.cell?] at h
    split at h
    · simp at h
    · cases h
/-- What the opening of an argument tells of a slice of ints: its cells, the spare ones too. -/
def IsRow (k : IntKind) (W : World) (a : Option Addr) (len cap : Nat) (zs : List Int) : Prop :=
  (a = none ∧ len = 0 ∧ cap = 0 ∧ zs = []) ∨ ∃ x : Addr, a = some x ∧ len ≤ cap ∧ cap ≤ maxLen ∧ zs.length = cap ∧ (∀ i, i < zs.length → W.cell? (x.add i) = some (.int k (zs.getD i 0))) ∧ (∀ n ∈ zs, (Lit.int k n).wf = true)
theorem Rd.drop {W : World} {b off n c : Nat} {zs : List Int} (h : Rd W (.slice (some ⟨b, off, none⟩) n c) zs) (k : Nat) (hk : k ≤ zs.length) : Rd W (.slice (some ⟨b, off + k, none⟩) (n - k) (c - k)) (zs.drop k) := by
  obtain ⟨h1, h2, a, cap, e, h0, h3⟩ := h
  cases e
  have hlen : (zs.drop k).length = zs.length - k := by simp
  unfold Rd
  rw [hlen]
  rcases h3 with ⟨hz, h⟩ | ⟨b', off', e, hlt, hc⟩
  · exact ⟨by simp, by omega, some ⟨b, off + k, none⟩, c - k, rfl, by omega, .inl ⟨by omega, fun h => by cases h⟩⟩
  · cases e
    refine ⟨by simp, by omega, some ⟨b, off + k, none⟩, c - k, rfl, by omega, .inr ⟨b, off + k, rfl, hlt, ?_⟩⟩
    intro j u hu
    rw [Nat.add_assoc]
    refine hc (k + j) u ?_
    rw [← hu, List.map_drop, List.getElem?_drop]
theorem Rd.take {W : World} {b off n c : Nat} {zs : List Int} (h : Rd W (.slice (some ⟨b, off, none⟩) n c) zs) (k : Nat) (hk : k ≤ zs.length) : Rd W (.slice (some ⟨b, off, none⟩) k c) (zs.take k) := by
  obtain ⟨h1, h2, a, cap, e, h0, h3⟩ := h
  cases e
  have hlen : (zs.take k).length = k := by simp; omega
  unfold Rd
  rw [hlen]
  rcases h3 with ⟨hz, h⟩ | ⟨b', off', e, hlt, hc⟩
  · exact ⟨by simp; omega, by omega, some ⟨b, off, none⟩, c, rfl, by omega, .inl ⟨by omega, fun h => by cases h⟩⟩
  · cases e
    refine ⟨by simp; omega, by omega, some ⟨b, off, none⟩, c, rfl, by omega, .inr ⟨b, off, rfl, hlt, ?_⟩⟩
    intro j u hu
    refine hc j u ?_
    rw [List.map_take, List.getElem?_take] at hu
    split at hu
    · exact hu
    · cases hu
/-- What is read is appended to a row of the call's own. -/
theorem append_own_rd {w : World} {ops : Array Oper} {rest : List Oper} {o : Oper} {a : Act} {Q : Exit → Act → World → Prop} (hgd : o.guard = none) (s x : Operand)
    (ho : o.op = .call { callee := .builtin .append, args := #[s, x], argTypes := #[22, 22] }) (base : Nat) (v : Value) (zs : List Int) (hs : a.eval s = v) (hown : OwnI w base v zs)
    (v2 : Value) (ys : List Int) (hx : a.eval x = v2) (hR : Rd w v2 ys) (hn : zs.length ≤ 1000) (hbase : base ≤ w.heap.size) (M : List Int) (hM : zs ++ ys = M)
    (h : ∀ a' c' w', OwnI w' base (.slice a' M.length c') M → Below base w w' → wpList Tryz.prog ops Q rest (a.put o.dst (.slice a' M.length c')) w') : wpList Tryz.prog ops Q (o :: rest) a w := by
  refine append_rdc hgd s x 22 ho base 3 1 (.int .i64 0) 8 Tryz.underlying22 Tryz.info3 rfl (by decide) (by decide) v zs.length (zs.map (Value.int .i64)) hs hown v2 ys.length (ys.map (Value.int .i64)) hx hR (ints_one ys) (by omega) hbase ?_
  intro v' w' o' g'
  have o2 : OwnI w' base v' M := by
    unfold OwnI
    rw [← hM, List.length_append, List.map_append]
    exact o'
  obtain ⟨a', c', rfl⟩ := o2.form
  exact h a' c' w' o2 ((Below.refl base w).grown g' hbase (fun k hk => (World.ownsRow.lt hown k hk).1))
theorem own_lit {W : World} {base b : Nat} (zs : List Int) (hb : b = W.heap.size) (h : base ≤ W.heap.size) (hl : zs.length ≤ 1000) : OwnI (W.alloc (.cells (zs.map (Value.int .i64)).toArray 3)) base (.slice (some ⟨b, 0, none⟩) zs.length zs.length) zs := by
  subst hb
  refine ⟨by simp, .inr ⟨W.heap.size, zs.length, (zs.map (Value.int .i64)).toArray, rfl, h, heap_alloc_new W _, Nat.le_refl _, ?_, ?_, ?_⟩⟩
  · unfold maxLen; omega
  · simp
  · rw [Nat.mul_one, List.take_of_length_le (by simp)]
theorem rd_lit {W : World} {b : Nat} (zs : List Int) (hb : b = W.heap.size) (hl : zs.length ≤ 1000) : Rd (W.alloc (.cells (zs.map (Value.int .i64)).toArray 3)) (.slice (some ⟨b, 0, none⟩) zs.length zs.length) zs := (own_lit zs hb (Nat.le_refl _) hl).rd hl
theorem ownI_below {W W' : World} {base : Nat} {v : Value} {zs : List Int} (h : OwnI W base v zs) (hb : Below W.heap.size W W') : OwnI W' base v zs := own_below h hb
theorem nil_rd (W : World) : Rd W (.slice none 0 0) [] := ⟨rfl, by simp, none, 0, rfl, Nat.le_refl _, .inl ⟨rfl, fun _ => rfl⟩⟩
/-- Many words that are read. -/
def Rl (W : World) (v : Value) (zs : List Int) : Prop :=
  zs.length ≤ 6000 ∧ ∃ a cap, v = .slice a zs.length cap ∧ zs.length ≤ cap ∧ ((zs.length = 0 ∧ (a = none → cap = 0)) ∨ ∃ b off, a = some ⟨b, off, none⟩ ∧ b < W.heap.size ∧ ∀ j u, (zs.map (Value.int .i64))[j]? = some u → W.cell? ⟨b, off + j, none⟩ = some u)
theorem Rl.below {W W' : World} {v : Value} {zs : List Int} (h : Rl W v zs) (hb : Below W.heap.size W W') : Rl W' v zs := by
  obtain ⟨h2, a, cap, rfl, hcap, h3⟩ := h
  refine ⟨h2, a, cap, rfl, hcap, ?_⟩
  rcases h3 with h | ⟨b, off, rfl, hlt, hc⟩
  · exact .inl h
  · exact .inr ⟨b, off, rfl, Nat.lt_of_lt_of_le hlt hb.size, fun j u hj => (hb.cell (p := ⟨b, off + j, none⟩) hlt).trans (hc j u hj)⟩
theorem Rd.rl {W : World} {v : Value} {zs : List Int} (h : Rd W v zs) : Rl W v zs := by
  obtain ⟨_, h2, a, cap, rfl, h0, h3⟩ := h
  exact ⟨by omega, a, cap, rfl, h0, h3⟩
theorem Rl.form {W : World} {v : Value} {zs : List Int} (h : Rl W v zs) : zs.length ≤ 6000 ∧ ∃ a cap, v = .slice a zs.length cap ∧ zs.length ≤ cap := by
  obtain ⟨h2, a, cap, rfl, h0, _⟩ := h
  exact ⟨h2, a, cap, rfl, h0⟩
/-- Many words that come in. -/
def RowIn (W : World) (a : Option Addr) (n c : Nat) : Prop := n ≤ 6000 → ∃ zs : List Int, zs.length = n ∧ Rl W (.slice a n c) zs ∧ Bd zs
theorem RowIn.of_row {W : World} {a : Option Addr} {len cap : Nat} {zs : List Int} (h : IsRow .i64 W a len cap zs) : RowIn W a len cap := by
  intro hl
  rcases h with ⟨rfl, rfl, rfl, rfl⟩ | ⟨x, rfl, h1, h2, h3, h4, h5⟩
  · exact ⟨[], rfl, (nil_rd _).rl, fun x hx => by cases hx⟩
  · have hlen : (zs.take len).length = len := by rw [List.length_take]; omega
    refine ⟨zs.take len, hlen, ⟨by omega, some x, cap, by rw [hlen], by omega, ?_⟩, fun z hz => wf_i64 (h5 z (List.mem_of_mem_take hz))⟩
    by_cases h0 : len = 0
    · exact .inl ⟨by omega, fun h => by cases h⟩
    · right
      have hx := cell_spot (h4 0 (by omega))
      have hx0 : x.add 0 = x := rfl
      rw [hx0] at hx
      have hlt := World.block_lt_of_cell? W _ (h4 0 (by omega))
      rw [hx0] at hlt
      refine ⟨x.block, x.off, by rw [← hx], hlt, ?_⟩
      intro j u hj
      rw [List.getElem?_map] at hj
      obtain ⟨z, hz, rfl⟩ := Option.map_eq_some_iff.1 hj
      have hj' : j < len := by have := (List.getElem?_eq_some_iff.1 hz).1; omega
      have := h4 j (by omega)
      rw [hx, Addr.add_lit] at this
      rw [this]
      rw [List.getElem?_take, if_pos hj'] at hz
      simp [List.getD, hz]
section
open Go.ChangeShapes Go.WideShapes
variable {H : Type} {enc : TypeId × Value → H} {W : World} {base : Nat} {held : Bool}
theorem wide_of_trod {fuel : Nat} {v : Value} {x : DataW H × List MemPlace} (h : DataW.trod enc Tryz.prog W base (fun _ => true) held fuel 22 [v] = some x) : ∃ a len cap, v = .slice a len cap ∧ RowIn W a len cap := by
  rcases open_ints Tryz.underlying22 Tryz.underlying3 (by kernel_rfl) h with ⟨hcs, _⟩ | ⟨x, l, c, zs, hcs, _, hl, hm, hz, _, hcell, hwz⟩
  · cases hcs
    exact ⟨none, 0, 0, rfl, RowIn.of_row (.inl ⟨rfl, rfl, rfl, rfl⟩)⟩
  · cases hcs
    exact ⟨some x, l, c, rfl, RowIn.of_row (zs := zs) (.inr ⟨_, rfl, hl, hm, by simpa using hz, hcell, hwz⟩)⟩
end
theorem Rl.rd {W : World} {v : Value} {zs : List Int} (h : Rl W v zs) (hl : zs.length ≤ 1000) : Rd W v zs := by
  obtain ⟨_, a, cap, rfl, h0, h3⟩ := h
  exact ⟨by simp, hl, a, cap, rfl, h0, h3⟩
end Go.Proofs.YtcgclhahonndbaaGreat
namespace Go.Proofs.YtcgclhahonndbaaGreat
open Go.RowKit
/-- A world in which all that was there in W is as it was. -/
structure BW (W : World) where
  w : World
  b : Below W.heap.size W w
theorem bw_some (W : World) : Nonempty (BW W) := ⟨⟨W, Below.refl _ _⟩⟩
/-- The walk in the order of the text, as a thing of its own: nothing unfolds it unasked. -/
structure QW (P : Program) (ops : Array Oper) (W : World) (Q : Exit → Act → World → Prop) (rest : List Oper) (a : Act) : Prop where
  out : wpQuiet P ops (fun w' => ∃ p : BW W, w' = p.w) (fun a' => ∀ w', (∃ p : BW W, w' = p.w) → Q .normal a' w') rest a
theorem wp_region_bw {P : Program} {id : Nat} {Q : Exit → Act → World → Prop} {a : Act} {w : World} {l : List Oper} (hm : P.follows .mixedOrders = true) (hB : Region.lexB .any l.toArray = true)
    (h : Nonempty (BW w) → QW P l.toArray w Q l a) : (Code.region id l.toArray true).wp P Q a w :=
  wp_region_quiet (C := fun w' => ∃ p : BW w, w' = p.w) hm hB ⟨⟨w.drew, (Below.refl _ _).drew⟩, rfl⟩ (by simpa using (h (bw_some w)).out)
theorem QW.step {P : Program} {ops : Array Oper} {W : World} {Q : Exit → Act → World → Prop} {o : Oper} {rest : List Oper} {a : Act}
    (h : ∀ K : Act → Prop, (∀ a, QW P ops W Q rest a → K a) → if Region.wanted o (yielded ops a.tmps) then o.quiet P a (fun w' => ∃ p : BW W, w' = p.w) K else K (a.put o.dst undef)) : QW P ops W Q (o :: rest) a :=
  ⟨wpQuiet_step fun K hK => h K (fun a h => hK a h.out)⟩
theorem QW.nil {P : Program} {ops : Array Oper} {W : World} {Q : Exit → Act → World → Prop} {a : Act} (h : ∀ p : BW W, Q .normal a p.w) : QW P ops W Q [] a :=
  ⟨wpQuiet_nil fun _ ⟨p, hp⟩ => hp ▸ h p⟩
theorem Calls.bw_of {P : Program} {f : FuncId} {args : Array Value} {W : World} {p : BW W} {v : Value}
    (h : Calls P f args p.w fun e w' => e = .returned v ∧ Below p.w.heap.size p.w w') : Calls P f args p.w fun e w'' => e = .returned v ∧ ∃ p' : BW W, w'' = p'.w :=
  h.mono fun _ _ ⟨he, hb⟩ => ⟨he, ⟨_, bstep p.b hb⟩, rfl⟩
theorem Calls.bw_same {P : Program} {f : FuncId} {args : Array Value} {W : World} {p : BW W} {v : Value}
    (h : Calls P f args p.w fun e w' => e = .returned v ∧ w' = p.w) : Calls P f args p.w fun e w'' => e = .returned v ∧ ∃ p' : BW W, w'' = p'.w :=
  h.mono fun _ _ ⟨he, hb⟩ => ⟨he, p, hb⟩
/-- The load of a long array, in a region of this kind. -/
theorem QW.load {P : Program} {ops : Array Oper} {W : World} {Q : Exit → Act → World → Prop} {rest : List Oper} {o : Oper} {a : Act} (ty : TypeId) (x : Operand) (ho : o.op = .load ty x) (hw : Region.wanted o (yielded ops a.tmps) = true)
    (b off : Nat) (hx : a.eval x = .pointer (some ⟨b, off, none⟩)) (cs : List Value) (d : TypeDesc) (hS : ∀ p : BW W, p.w.rangeAt b off cs)
    (hu : P.underlying ty = some d) (hd : d.isRow = true) (hi : (P.info? ty).map (·.size) = some cs.length)
    (h : QW P ops W Q rest (a.put o.dst (.agg cs.toArray))) : QW P ops W Q (o :: rest) a := by
  refine ⟨?_⟩
  unfold wpQuiet
  rw [if_pos hw]
  refine ⟨_, ?_, h.out⟩
  rintro w ⟨p, rfl⟩
  unfold Oper.quietAt execOp
  simp only [ho, hx, Instr.loadAt, Instr.sureAddr, Sem.run_bind, Sem.run_pure, Result.andThen_ok, run_loadVar_mid p.w b off ty cs d (hS p) hu hd hi]
  exact ⟨rfl, rfl⟩
end Go.Proofs.YtcgclhahonndbaaGreat
