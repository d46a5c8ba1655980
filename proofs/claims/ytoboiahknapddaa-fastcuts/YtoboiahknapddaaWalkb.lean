/- Walks of layer 4: copies of slices. -/
import Derived.Test.YtoboiahknapddaaWalka
import Derived.Lib.SliceRun
namespace Go.Proofs.Ytoboiahknapddaa
open Go.RowKit

theorem Try.info3 : (Try.prog.info? 3).map (fun i => (i.zero, i.size, i.bytes)) = some (some (.int .i64 0), 1, 8) := by kernel_rfl
theorem Try.info4 : (Try.prog.info? 4).map (fun i => (i.zero, i.size, i.bytes)) = some (some (.bool false), 1, 1) := by kernel_rfl
theorem Try.info71 : (Try.prog.info? 71).map (fun i => (i.zero, i.size, i.bytes)) = some (some (.agg #[.int .i64 0, .int .i64 0, .bool false]), 3, 24) := by kernel_rfl

/-- 'append(s, x...)': a row of the call's own, and a slice that is read. -/
theorem append_rdc {w : World} {ops : Array Oper} {rest : List Oper} {o : Oper} {a : Act} {Q : Exit → Act → World → Prop} (hgd : o.guard = none) (s x : Operand) (t : TypeId)
    (ho : o.op = .call { callee := .builtin .append, args := #[s, x], argTypes := #[t, t] }) (base : Nat) (e : TypeId) (size : Nat) (z : Value) (bytes : Nat) (ht : Try.prog.underlying t = some (.slice e))
    (hinfo : (Try.prog.info? e).map (fun i => (i.zero, i.size, i.bytes)) = some (some z, size, bytes)) (hzs : z.cells.size = size) (hsz : 0 < size) (hby : bytes ≤ 100)
    (v : Value) (n : Nat) (xs : List Value) (hs : a.eval s = v) (hown : w.ownsRow base e size v n xs)
    (v2 : Value) (k : Nat) (ys : List Value) (hx : a.eval x = v2) (hR : RdC w size v2 k ys) (h1 : ∀ u ∈ ys, u.oneCell' = true) (hn : n ≤ 100000) (hbase : base ≤ w.heap.size)
    (h : ∀ v' w', w'.ownsRow base e size v' (n + k) (xs ++ ys) → w.grownBy w' v.ownBlock → wpList Try.prog ops Q rest (a.put o.dst v') w') : wpList Try.prog ops Q (o :: rest) a w := by
  obtain ⟨i0, hi, hz0, hz1, hz2⟩ := info_parts hinfo
  obtain ⟨hl, hk, ad, cap, rfl, -, h3⟩ := hR
  have hb : (n + k) * bytes ≤ 140737488355328 := Nat.le_trans (Nat.mul_le_mul_left _ hby) (by omega)
  rcases h3 with ⟨rfl, hcap⟩ | ⟨b, off, rfl, _, hc⟩
  · have : ys = [] := List.eq_nil_of_length_eq_zero (by simpa using hl)
    subst this
    cases ad with
    | none =>
      rw [hcap rfl] at hx
      exact wpList_append_own_none hgd s x t ho base e i0 size ht hi v n xs hs hown hx (h v w (by simpa using hown) (World.grownBy.refl w _))
    | some p =>
      exact wpList_append_own w hgd s x t ho base e i0 z size bytes ht hi hz0 hz1 hz2 hzs hsz v n xs hs hown p _ cap [] hx (by simp) (by intro j u hu; simp at hu) h1 (by unfold maxLen; omega) hb hbase fun v' w' r1 r2 _ => h v' w' r1 r2
  · exact wpList_append_own w hgd s x t ho base e i0 z size bytes ht hi hz0 hz1 hz2 hzs hsz v n xs hs hown ⟨b, off, none⟩ _ cap ys hx hl (by
      intro j u hu
      rw [Addr.add_lit]
      exact hc j u hu) h1 (by unfold maxLen; omega) hb hbase fun v' w' r1 r2 _ => h v' w' r1 r2

theorem ints_one (zs : List Int) : ∀ u ∈ zs.map (Value.int .i64), u.oneCell' = true := fun u hu => by obtain ⟨y, _, rfl⟩ := List.mem_map.1 hu; rfl
theorem pcs_one (ps : List Pd) : ∀ u ∈ pcs ps, u.oneCell' = true := by
  intro u hu
  obtain ⟨p, _, hp⟩ := List.mem_flatMap.1 hu
  simp [pc1] at hp
  rcases hp with rfl | rfl | rfl <;> rfl

theorem own_below {W W' : World} {base : Nat} {e : TypeId} {size : Nat} {v : Value} {n : Nat} {xs : List Value} (h : W.ownsRow base e size v n xs) (hb : Below W.heap.size W W') : W'.ownsRow base e size v n xs := by
  refine ⟨h.1, ?_⟩
  rcases h.2 with hn | ⟨g, cap, cur, rfl, hg, hgg, rest⟩
  · exact .inl hn
  · exact .inr ⟨g, cap, cur, rfl, hg, (hb.block g (Array.getElem?_eq_some_iff.1 hgg).1).trans hgg, rest⟩
/-- What a call's own row holds is read. -/
theorem RdC.of_own {W : World} {base : Nat} {e : TypeId} {size : Nat} {v : Value} {n : Nat} {xs : List Value} (h : W.ownsRow base e size v n xs) (hl : n ≤ 1000) : RdC W size v n xs := by
  have hc := h
  refine ⟨h.1, hl, ?_⟩
  rcases h.2 with ⟨rfl, rfl⟩ | ⟨g, cap, cur, rfl, _, hg, _⟩
  · exact ⟨none, 0, rfl, Nat.le_refl _, .inl ⟨rfl, fun _ => rfl⟩⟩
  · refine ⟨some ⟨g, 0, none⟩, cap, rfl, by omega, .inr ⟨g, 0, rfl, (Array.getElem?_eq_some_iff.1 hg).1, ?_⟩⟩
    intro j u hu
    have := hc.cells rfl j u hu
    rwa [Addr.add_lit] at this

/-- A row of ints, of what is pending, of the call's own. -/
def OwnI (W : World) (base : Nat) (v : Value) (zs : List Int) : Prop := W.ownsRow base 3 1 v zs.length (zs.map (Value.int .i64))
def OwnP (W : World) (base : Nat) (v : Value) (ps : List Pd) : Prop := W.ownsRow base 71 3 v ps.length (pcs ps)
theorem OwnI.rd {W : World} {base : Nat} {v : Value} {zs : List Int} (h : OwnI W base v zs) (hl : zs.length ≤ 1000) : Rd W v zs := RdC.of_own h hl
theorem OwnP.rd {W : World} {base : Nat} {v : Value} {ps : List Pd} (h : OwnP W base v ps) (hl : ps.length ≤ 1000) : RdP W v ps := RdC.of_own h hl
theorem OwnI.below {W W' : World} {base : Nat} {v : Value} {zs : List Int} (h : OwnI W base v zs) (hb : Below W.heap.size W W') : OwnI W' base v zs := own_below h hb
theorem OwnP.below {W W' : World} {base : Nat} {v : Value} {ps : List Pd} (h : OwnP W base v ps) (hb : Below W.heap.size W W') : OwnP W' base v ps := own_below h hb


set_option maxRecDepth 100000 in
set_option maxHeartbeats 1000000 in
theorem cloneI_any (v : Value) (zs : List Int) (w : World) (hR : Rd w v zs) : Calls Try.prog 41 #[v] w fun e w' => ∃ v', e = .returned v' ∧ OwnI w' w.heap.size v' zs ∧ Below w.heap.size w w' := by
  have hR' := hR
  obtain ⟨_, hl, a, cap, rfl, -, h3⟩ := hR
  have q : ∀ (w : World) (a : Option Addr) (n c n' c' : Nat), (binOp .eql 22 (.slice a n c) (.slice none n' c')).run Try.prog w = .ok (.bool a.isNone) w := fun w a n c n' c' => Lib.run_eql_slice_nil w _ _ a n c n' c' Try.underlying22
  cases a with
  | none =>
    have h0 : zs.length = 0 ∧ cap = 0 := by
      rcases h3 with ⟨h0, hc⟩ | ⟨b, off, h, _⟩
      · exact ⟨h0, hc rfl⟩
      · cases h
    have hz : zs = [] := List.eq_nil_of_length_eq_zero h0.1
    obtain ⟨-, rfl⟩ := h0
    subst hz
    go_enter Try.func41, Try.ntmps41
    go_wp2
    go_ret
    exact ⟨_, rfl, World.ownsRow_nil _ _ _ _, Below.refl _ _⟩
  | some p =>
    clear h3
    go_enter Try.func41, Try.ntmps41
    go_wp2_with (first | (at_builtin; refine append_rdc rfl _ _ 22 rfl w.heap.size 3 1 _ 8 Try.underlying22 Try.info3 rfl (by decide) (by decide) _ 0 [] rfl (World.ownsRow_made (base := w.heap.size) (e := 3) (size := 1) w #[] 0 (Nat.le_refl _) (by omega) rfl) _ zs.length _ rfl (hR'.below ((Below.refl _ w).alloc (Nat.le_refl _) _)) (ints_one zs) (by omega) (by simp) ?_; intro v2 w2 o2 g2; have B2 : Below w.heap.size w w2 := ((Below.refl _ w).alloc (Nat.le_refl _) _).grown g2 (by simp) (by intro q hq; cases hq; exact Nat.le_refl _)))
    go_ret
    rw [Nat.zero_add] at o2
    exact ⟨_, rfl, o2, B2⟩
set_option maxRecDepth 100000 in
set_option maxHeartbeats 1000000 in
theorem cloneP_any (v : Value) (ps : List Pd) (w : World) (hR : RdP w v ps) : Calls Try.prog 57 #[v] w fun e w' => ∃ v', e = .returned v' ∧ OwnP w' w.heap.size v' ps ∧ Below w.heap.size w w' := by
  have hR' := hR
  obtain ⟨_, hl, a, cap, rfl, -, h3⟩ := hR
  have q : ∀ (w : World) (a : Option Addr) (n c n' c' : Nat), (binOp .eql 39 (.slice a n c) (.slice none n' c')).run Try.prog w = .ok (.bool a.isNone) w := fun w a n c n' c' => Lib.run_eql_slice_nil w _ _ a n c n' c' Try.underlying39
  cases a with
  | none =>
    have h0 : ps.length = 0 ∧ cap = 0 := by
      rcases h3 with ⟨h0, hc⟩ | ⟨b, off, h, _⟩
      · exact ⟨h0, hc rfl⟩
      · cases h
    have hz : ps = [] := List.eq_nil_of_length_eq_zero h0.1
    obtain ⟨-, rfl⟩ := h0
    subst hz
    go_enter Try.func57, Try.ntmps57
    go_wp2
    go_ret
    exact ⟨_, rfl, World.ownsRow_nil _ _ _ _, Below.refl _ _⟩
  | some p =>
    clear h3
    go_enter Try.func57, Try.ntmps57
    go_wp2_with (first | (at_builtin; refine append_rdc rfl _ _ 39 rfl w.heap.size 71 3 _ 24 Try.underlying39 Try.info71 rfl (by decide) (by decide) _ 0 [] rfl (World.ownsRow_made (base := w.heap.size) (e := 71) (size := 3) w #[] 0 (Nat.le_refl _) (by omega) rfl) _ ps.length _ rfl (hR'.below ((Below.refl _ w).alloc (Nat.le_refl _) _)) (pcs_one ps) (by omega) (by simp) ?_; intro v2 w2 o2 g2; have B2 : Below w.heap.size w w2 := ((Below.refl _ w).alloc (Nat.le_refl _) _).grown g2 (by simp) (by intro q hq; cases hq; exact Nat.le_refl _)))
    go_ret
    rw [Nat.zero_add] at o2
    exact ⟨_, rfl, o2, B2⟩
end Go.Proofs.Ytoboiahknapddaa
