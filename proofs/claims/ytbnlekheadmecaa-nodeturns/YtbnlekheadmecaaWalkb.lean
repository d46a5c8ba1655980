/- Walks of layer 4: copies of slices. · Walks of layer 4: copies of memories; which may be. -/
import Derived.Test.YtbnlekheadmecaaWalka
import Derived.Lib.SliceRun
import Derived.Deep.RegionHeld3
import Derived.Laws.ResultCell
namespace Go.Proofs.Ytbnlekheadmecaa
open Go.RowKit

theorem Try.info3 : (Try.prog.info? 3).map (fun i => (i.zero, i.size, i.bytes)) = some (some (.int .i64 0), 1, 8) := by kernel_rfl
theorem Try.info4 : (Try.prog.info? 4).map (fun i => (i.zero, i.size, i.bytes)) = some (some (.bool false), 1, 1) := by kernel_rfl
theorem Try.info71 : (Try.prog.info? 71).map (fun i => (i.zero, i.size, i.bytes)) = some (some (.agg #[.int .i64 0, .int .i64 0, .bool false]), 3, 24) := by kernel_rfl

/-- 'append(s, x...)': a row of the call's own, and a slice that is read. -/
theorem append_rdc {w : World} {ops : Array Oper} {rest : List Oper} {o : Oper} {a : Act} {Q : Exit → Act → World → Prop} (hgd : o.guard = none) (s x : Operand) (t : TypeId)
    (ho : o.op = .call { callee := .builtin .append, args := #[s, x], argTypes := #[t, t] }) (base : Nat) (e : TypeId) (size : Nat) (z : Value) (bytes : Nat) (ht : Try.prog.underlying t = some (.slice e))
    (hinfo : (Try.prog.info? e).map (fun i => (i.zero, i.size, i.bytes)) = some (some z, size, bytes)) (hzs : z.cells.size = size) (hsz : 0 < size) (hby : bytes ≤ 100)
    (v : Value) (n : Nat) (xs : List Value) (hs : a.eval s = v) (hown : w.ownsRow base e size v n xs)
    (v2 : Value) (k : Nat) (ys : List Value) (hx : a.eval x = v2) (hR : RdC w size v2 k ys) (h1 : ∀ u ∈ ys, u.oneCell' = true) (hn : n ≤ 100000) (hbase : base ≤ w.heap.size)
    (h : ∀ v' w', w'.ownsRow base e size v' (n + k) (xs ++ ys) → w.grownBy w' v.ownBlock → wpList Try.prog ops Q rest (a.put o.dst v') w') : wpList Try.prog ops Q (o :: rest) a w := by
  obtain ⟨i0, hi, hz0, hz1, hz2⟩ := info_parts hinfo
  obtain ⟨hl, hk, ad, cap, rfl, -, h3⟩ := hR
  have hb : (n + k) * bytes ≤ 140737488355328 := Nat.le_trans (Nat.mul_le_mul_left _ hby) (by omega)
  rcases h3 with ⟨rfl, hcap⟩ | ⟨b, off, rfl, _, hc⟩
  · have : ys = [] := List.eq_nil_of_length_eq_zero (by simpa using hl)
    subst this
    cases ad with
    | none =>
      rw [hcap rfl] at hx
      exact wpList_append_own_none hgd s x t ho base e i0 size ht hi v n xs hs hown hx (h v w (by simpa using hown) (World.grownBy.refl w _))
    | some p =>
      exact wpList_append_own w hgd s x t ho base e i0 z size bytes ht hi hz0 hz1 hz2 hzs hsz v n xs hs hown p _ cap [] hx (by simp) (by intro j u hu; simp at hu) h1 (by unfold maxLen; omega) hb hbase fun v' w' r1 r2 _ => h v' w' r1 r2
  · exact wpList_append_own w hgd s x t ho base e i0 z size bytes ht hi hz0 hz1 hz2 hzs hsz v n xs hs hown ⟨b, off, none⟩ _ cap ys hx hl (by
      intro j u hu
      rw [Addr.add_lit]
      exact hc j u hu) h1 (by unfold maxLen; omega) hb hbase fun v' w' r1 r2 _ => h v' w' r1 r2

theorem ints_one (zs : List Int) : ∀ u ∈ zs.map (Value.int .i64), u.oneCell' = true := fun u hu => by obtain ⟨y, _, rfl⟩ := List.mem_map.1 hu; rfl
theorem pcs_one (ps : List Pd) : ∀ u ∈ pcs ps, u.oneCell' = true := by
  intro u hu
  obtain ⟨p, _, hp⟩ := List.mem_flatMap.1 hu
  simp [pc1] at hp
  rcases hp with rfl | rfl | rfl <;> rfl

theorem own_below {W W' : World} {base : Nat} {e : TypeId} {size : Nat} {v : Value} {n : Nat} {xs : List Value} (h : W.ownsRow base e size v n xs) (hb : Below W.heap.size W W') : W'.ownsRow base e size v n xs := by
  refine ⟨h.1, ?_⟩
  rcases h.2 with hn | ⟨g, cap, cur, rfl, hg, hgg, rest⟩
  · exact .inl hn
  · exact .inr ⟨g, cap, cur, rfl, hg, (hb.block g (Array.getElem?_eq_some_iff.1 hgg).1).trans hgg, rest⟩
/-- What a call's own row holds is read. -/
theorem RdC.of_own {W : World} {base : Nat} {e : TypeId} {size : Nat} {v : Value} {n : Nat} {xs : List Value} (h : W.ownsRow base e size v n xs) (hl : n ≤ 1000) : RdC W size v n xs := by
  have hc := h
  refine ⟨h.1, hl, ?_⟩
  rcases h.2 with ⟨rfl, rfl⟩ | ⟨g, cap, cur, rfl, _, hg, _⟩
  · exact ⟨none, 0, rfl, Nat.le_refl _, .inl ⟨rfl, fun _ => rfl⟩⟩
  · refine ⟨some ⟨g, 0, none⟩, cap, rfl, by omega, .inr ⟨g, 0, rfl, (Array.getElem?_eq_some_iff.1 hg).1, ?_⟩⟩
    intro j u hu
    have := hc.cells rfl j u hu
    rwa [Addr.add_lit] at this

/-- A row of ints, of what is pending, of the call's own. -/
def OwnI (W : World) (base : Nat) (v : Value) (zs : List Int) : Prop := W.ownsRow base 3 1 v zs.length (zs.map (Value.int .i64))
def OwnP (W : World) (base : Nat) (v : Value) (ps : List Pd) : Prop := W.ownsRow base 71 3 v ps.length (pcs ps)
theorem OwnI.rd {W : World} {base : Nat} {v : Value} {zs : List Int} (h : OwnI W base v zs) (hl : zs.length ≤ 1000) : Rd W v zs := RdC.of_own h hl
theorem OwnP.rd {W : World} {base : Nat} {v : Value} {ps : List Pd} (h : OwnP W base v ps) (hl : ps.length ≤ 1000) : RdP W v ps := RdC.of_own h hl
theorem OwnI.below {W W' : World} {base : Nat} {v : Value} {zs : List Int} (h : OwnI W base v zs) (hb : Below W.heap.size W W') : OwnI W' base v zs := own_below h hb
theorem OwnP.below {W W' : World} {base : Nat} {v : Value} {ps : List Pd} (h : OwnP W base v ps) (hb : Below W.heap.size W W') : OwnP W' base v ps := own_below h hb


set_option maxRecDepth 100000 in
set_option maxHeartbeats 1000000 in
theorem cloneI_any (v : Value) (zs : List Int) (w : World) (hR : Rd w v zs) : Calls Try.prog 33 #[v] w fun e w' => ∃ v', e = .returned v' ∧ OwnI w' w.heap.size v' zs ∧ Below w.heap.size w w' := by
  have hR' := hR
  obtain ⟨_, hl, a, cap, rfl, -, h3⟩ := hR
  have q : ∀ (w : World) (a : Option Addr) (n c n' c' : Nat), (binOp .eql 22 (.slice a n c) (.slice none n' c')).run Try.prog w = .ok (.bool a.isNone) w := fun w a n c n' c' => Lib.run_eql_slice_nil w _ _ a n c n' c' Try.underlying22
  cases a with
  | none =>
    have h0 : zs.length = 0 ∧ cap = 0 := by
      rcases h3 with ⟨h0, hc⟩ | ⟨b, off, h, _⟩
      · exact ⟨h0, hc rfl⟩
      · cases h
    have hz : zs = [] := List.eq_nil_of_length_eq_zero h0.1
    obtain ⟨-, rfl⟩ := h0
    subst hz
    go_enter Try.func33, Try.ntmps33
    go_wp2
    go_ret
    exact ⟨_, rfl, World.ownsRow_nil _ _ _ _, Below.refl _ _⟩
  | some p =>
    clear h3
    go_enter Try.func33, Try.ntmps33
    go_wp2_with (first | (at_builtin; refine append_rdc rfl _ _ 22 rfl w.heap.size 3 1 _ 8 Try.underlying22 Try.info3 rfl (by decide) (by decide) _ 0 [] rfl (World.ownsRow_made (base := w.heap.size) (e := 3) (size := 1) w #[] 0 (Nat.le_refl _) (by omega) rfl) _ zs.length _ rfl (hR'.below ((Below.refl _ w).alloc (Nat.le_refl _) _)) (ints_one zs) (by omega) (by simp) ?_; intro v2 w2 o2 g2; have B2 : Below w.heap.size w w2 := ((Below.refl _ w).alloc (Nat.le_refl _) _).grown g2 (by simp) (by intro q hq; cases hq; exact Nat.le_refl _)))
    go_ret
    rw [Nat.zero_add] at o2
    exact ⟨_, rfl, o2, B2⟩
set_option maxRecDepth 100000 in
set_option maxHeartbeats 1000000 in
theorem cloneP_any (v : Value) (ps : List Pd) (w : World) (hR : RdP w v ps) : Calls Try.prog 42 #[v] w fun e w' => ∃ v', e = .returned v' ∧ OwnP w' w.heap.size v' ps ∧ Below w.heap.size w w' := by
  have hR' := hR
  obtain ⟨_, hl, a, cap, rfl, -, h3⟩ := hR
  have q : ∀ (w : World) (a : Option Addr) (n c n' c' : Nat), (binOp .eql 41 (.slice a n c) (.slice none n' c')).run Try.prog w = .ok (.bool a.isNone) w := fun w a n c n' c' => Lib.run_eql_slice_nil w _ _ a n c n' c' Try.underlying41
  cases a with
  | none =>
    have h0 : ps.length = 0 ∧ cap = 0 := by
      rcases h3 with ⟨h0, hc⟩ | ⟨b, off, h, _⟩
      · exact ⟨h0, hc rfl⟩
      · cases h
    have hz : ps = [] := List.eq_nil_of_length_eq_zero h0.1
    obtain ⟨-, rfl⟩ := h0
    subst hz
    go_enter Try.func42, Try.ntmps42
    go_wp2
    go_ret
    exact ⟨_, rfl, World.ownsRow_nil _ _ _ _, Below.refl _ _⟩
  | some p =>
    clear h3
    go_enter Try.func42, Try.ntmps42
    go_wp2_with (first | (at_builtin; refine append_rdc rfl _ _ 41 rfl w.heap.size 71 3 _ 24 Try.underlying41 Try.info71 rfl (by decide) (by decide) _ 0 [] rfl (World.ownsRow_made (base := w.heap.size) (e := 71) (size := 3) w #[] 0 (Nat.le_refl _) (by omega) rfl) _ ps.length _ rfl (hR'.below ((Below.refl _ w).alloc (Nat.le_refl _) _)) (pcs_one ps) (by omega) (by simp) ?_; intro v2 w2 o2 g2; have B2 : Below w.heap.size w w2 := ((Below.refl _ w).alloc (Nat.le_refl _) _).grown g2 (by simp) (by intro q hq; cases hq; exact Nat.le_refl _)))
    go_ret
    rw [Nat.zero_add] at o2
    exact ⟨_, rfl, o2, B2⟩
end Go.Proofs.Ytbnlekheadmecaa
namespace Go.Proofs.Ytbnlekheadmecaa
open Go.RowKit

theorem cell_held {W W' : World} {p : Addr} {u : Value} (h : W.cell? p = some u) (hb : Below W.heap.size W W') : W'.cell? p = some u := (hb.cell (World.block_lt_of_cell? W _ h)).trans h
theorem frozen_held {W W' : World} {p : Addr} {u : Value} (h : W.cell? p = some u) (f : W.frozen? p = false) (hb : Below W.heap.size W W') : W'.frozen? p = false := (hb.frozen (World.block_lt_of_cell? W _ h)).trans f

/-- Two rows lie apart. -/
def Apart (v u : Value) : Prop := ∀ g, v.ownBlock = some g → u.ownBlock ≠ some g
theorem Apart.symm {v u : Value} (h : Apart v u) : Apart u v := fun g h1 h2 => h g h2 h1
theorem Apart.kept {v u : Value} (h : Apart v u) : u.ownBlock = none ∨ u.ownBlock ≠ v.ownBlock := by
  cases hu : u.ownBlock with
  | none => exact .inl rfl
  | some g => exact .inr fun e => h g e.symm hu
theorem apart_made {W W' : World} {b b' : Nat} {e e' : TypeId} {s s' : Nat} {v u : Value} {n n' : Nat} {xs ys : List Value} (h : W.ownsRow b e s v n xs) (h' : W'.ownsRow b' e' s' u n' ys) (hb : W.heap.size ≤ b') : Apart v u := by
  intro g h1 h2
  have := h.lt g h1
  have := h'.lt g h2
  omega
theorem own_setCell {W : World} {base : Nat} {e : TypeId} {size : Nat} {v : Value} {n : Nat} {xs : List Value} (h : W.ownsRow base e size v n xs) {p : Addr} (hp : p.block < base) (u : Value) : (W.setCell p u).ownsRow base e size v n xs := by
  refine ⟨h.1, ?_⟩
  rcases h.2 with hn | ⟨g, cap, cur, rfl, hg, hgg, rest⟩
  · exact .inl hn
  · exact .inr ⟨g, cap, cur, rfl, hg, (Below.heap_setCell W p u g (by omega)).trans hgg, rest⟩
theorem own_mono {w : World} {base base' : Nat} {e : TypeId} {size : Nat} {v : Value} {n : Nat} {xs : List Value} (h : w.ownsRow base e size v n xs) (hb : base' ≤ base) : w.ownsRow base' e size v n xs := by
  refine ⟨h.1, ?_⟩
  rcases h.2 with hn | ⟨g, cap, cur, rfl, hg, rest⟩
  · exact .inl hn
  · exact .inr ⟨g, cap, cur, rfl, Nat.le_trans hb hg, rest⟩

theorem OwnI.form {W : World} {base : Nat} {v : Value} {zs : List Int} (h : OwnI W base v zs) : ∃ a cap, v = .slice a zs.length cap := by
  rcases h.2 with ⟨rfl, h0⟩ | ⟨g, cap, cur, rfl, _⟩
  · exact ⟨none, 0, by rw [h0]⟩
  · exact ⟨_, _, rfl⟩
theorem OwnP.form {W : World} {base : Nat} {v : Value} {ps : List Pd} (h : OwnP W base v ps) : ∃ a cap, v = .slice a ps.length cap := by
  rcases h.2 with ⟨rfl, h0⟩ | ⟨g, cap, cur, rfl, _⟩
  · exact ⟨none, 0, by rw [h0]⟩
  · exact ⟨_, _, rfl⟩

/-- A memory of the call's own: three rows that lie apart. -/
structure OwnM (W : World) (base : Nat) (va vb vc : Value) (m : Mm) : Prop where
  vol : OwnI W base va m.vol
  per : OwnI W base vb m.per
  pend : OwnP W base vc m.pend
  ab : Apart va vb
  ac : Apart va vc
  bc : Apart vb vc
theorem OwnM.rd {W : World} {base : Nat} {va vb vc : Value} {m : Mm} (h : OwnM W base va vb vc m) (h1 : m.vol.length ≤ 1000) (h2 : m.per.length ≤ 1000) (h3 : m.pend.length ≤ 1000) : RdM W va vb vc m := ⟨h.vol.rd h1, h.per.rd h2, h.pend.rd h3⟩
theorem OwnM.below {W W' : World} {base : Nat} {va vb vc : Value} {m : Mm} (h : OwnM W base va vb vc m) (hb : Below W.heap.size W W') : OwnM W' base va vb vc m := ⟨h.vol.below hb, h.per.below hb, h.pend.below hb, h.ab, h.ac, h.bc⟩
theorem OwnM.setCell {W : World} {base : Nat} {va vb vc : Value} {m : Mm} (h : OwnM W base va vb vc m) {p : Addr} (hp : p.block < base) (u : Value) : OwnM (W.setCell p u) base va vb vc m := ⟨own_setCell h.vol hp u, own_setCell h.per hp u, own_setCell h.pend hp u, h.ab, h.ac, h.bc⟩
theorem OwnM.mono {W : World} {base base' : Nat} {va vb vc : Value} {m : Mm} (h : OwnM W base va vb vc m) (hb : base' ≤ base) : OwnM W base' va vb vc m := ⟨own_mono h.vol hb, own_mono h.per hb, own_mono h.pend hb, h.ab, h.ac, h.bc⟩

/-- Block b holds three cells, which may be written. -/
def Bx (W : World) (b : Nat) (va vb vc : Value) : Prop :=
  (W.cell? ⟨b, 0, none⟩ = some va ∧ W.cell? ⟨b, 1, none⟩ = some vb ∧ W.cell? ⟨b, 2, none⟩ = some vc) ∧ W.frozen? ⟨b, 0, none⟩ = false ∧ W.frozen? ⟨b, 1, none⟩ = false ∧ W.frozen? ⟨b, 2, none⟩ = false
theorem Bx.below {W W' : World} {b : Nat} {va vb vc : Value} (h : Bx W b va vb vc) (hb : Below W.heap.size W W') : Bx W' b va vb vc :=
  ⟨⟨cell_held h.1.1 hb, cell_held h.1.2.1 hb, cell_held h.1.2.2 hb⟩, frozen_held h.1.1 h.2.1 hb, frozen_held h.1.2.1 h.2.2.1 hb, frozen_held h.1.2.2 h.2.2.2 hb⟩

theorem Bx.set3 {W : World} {b : Nat} {va vb vc : Value} (h : Bx W b va vb vc) (x y z : Value) : Bx (((W.setCell ⟨b, 0, none⟩ x).setCell ⟨b, 1, none⟩ y).setCell ⟨b, 2, none⟩ z) b x y z := by
  obtain ⟨⟨h0, h1, h2⟩, f0, f1, f2⟩ := h
  refine ⟨⟨?_, ?_, ?_⟩, by simp [f0], by simp [f1], by simp [f2]⟩
  · rw [World.cell?_setCell_other _ _ _ _ (by simp), World.cell?_setCell_other _ _ _ _ (by simp)]
    exact World.cell?_setCell_same _ _ _ h0
  · rw [World.cell?_setCell_other _ _ _ _ (by simp)]
    exact World.cell?_setCell_same _ _ _ (by rw [World.cell?_setCell_other _ _ _ _ (by simp)]; exact h1)
  · exact World.cell?_setCell_same _ _ _ (by rw [World.cell?_setCell_other _ _ _ _ (by simp), World.cell?_setCell_other _ _ _ _ (by simp)]; exact h2)
theorem Try.size43 : (Try.prog.info? 43).map (·.size) = some 3 := by kernel_rfl
theorem load25 {w : World} {b : Nat} {va vb vc : Value} (h : w.cell? ⟨b, 0, none⟩ = some va ∧ w.cell? ⟨b, 1, none⟩ = some vb ∧ w.cell? ⟨b, 2, none⟩ = some vc) : (loadVar 43 ⟨b, 0, none⟩).run Try.prog w = .ok (.agg #[va, vb, vc]) w :=
  run_loadVar_mid (P := Try.prog) w b 0 43 [va, vb, vc] _ (by
    intro j v hv
    match j, hv with
    | 0, hv => cases hv; exact h.1
    | 1, hv => cases hv; exact h.2.1
    | 2, hv => cases hv; exact h.2.2) Try.underlying43 rfl Try.size43
/-- A result that lies in a variable of the call's own, alone or with another one. -/
theorem ret_cell {fn : Func} {p : Tmp} (h : fn.results = #[.cell p 43]) {tmps : Array Value} {w : World} {b : Nat} {va vb vc : Value} (hp : tmps.getD p undef = .pointer (some ⟨b, 0, none⟩)) (hx : Bx w b va vb vc) : (results fn tmps).run Try.prog w = .ok (.agg #[va, vb, vc]) w := by
  have hp' : tmps[p]?.getD undef = .pointer (some ⟨b, 0, none⟩) := by simpa using hp
  simp [results, h, hp', asAddr, load25 hx.1]
theorem ret_cell2 {fn : Func} {p u : Tmp} (h : fn.results = #[.cell p 43, .tmp u]) {tmps : Array Value} {w : World} {b : Nat} {va vb vc : Value} (hp : tmps.getD p undef = .pointer (some ⟨b, 0, none⟩)) (hx : Bx w b va vb vc) : (results fn tmps).run Try.prog w = .ok (.tuple #[.agg #[va, vb, vc], tmps.getD u undef]) w := by
  have hp' : tmps[p]?.getD undef = .pointer (some ⟨b, 0, none⟩) := by simpa using hp
  rw [results_cell_tmp h]
  simp [hp', asAddr, load25 hx.1]

/-- What is held in the midst of a copy: the box of what is copied. -/
def SC (w : World) (b : Nat) (va vb vc : Value) (w2 : World) : Prop := (w2.cell? ⟨b, 0, none⟩ = some va ∧ w2.cell? ⟨b, 1, none⟩ = some vb ∧ w2.cell? ⟨b, 2, none⟩ = some vc) ∧ Below w.heap.size w w2
theorem SC.next {w W w2 : World} {b : Nat} {va vb vc : Value} (hb : Below W.heap.size W w2) (h : SC w b va vb vc W) : SC w b va vb vc w2 := ⟨⟨cell_held h.1.1 hb, cell_held h.1.2.1 hb, cell_held h.1.2.2 hb⟩, bstep h.2 hb⟩
theorem SC.store {w W : World} {b c : Nat} {va vb vc : Value} (h : SC w b va vb vc W) (hbc : b ≠ c) (hc : w.heap.size ≤ c) (i : Nat) (u : Value) : SC w b va vb vc (W.setCell ⟨c, i, none⟩ u) :=
  ⟨⟨by rw [World.cell?_setCell_other _ _ _ _ (by simp)]; exact h.1.1, by rw [World.cell?_setCell_other _ _ _ _ (by simp)]; exact h.1.2.1, by rw [World.cell?_setCell_other _ _ _ _ (by simp)]; exact h.1.2.2⟩, h.2.setCell (p := ⟨c, i, none⟩) hc u⟩

set_option maxRecDepth 100000 in
set_option maxHeartbeats 1000000 in
theorem clone_any (va vb vc : Value) (m : Mm) (w : World) (hR : RdM w va vb vc m) : Calls Try.prog 54 #[.agg #[va, vb, vc]] w fun e w' => ∃ va' vb' vc', e = .returned (.agg #[va', vb', vc']) ∧ OwnM w' w.heap.size va' vb' vc' m ∧ Below w.heap.size w w' := by
  have B0 : Below w.heap.size w ((w.alloc (.cells #[va, vb, vc] 43)).alloc (.cells #[.slice none 0 0, .slice none 0 0, .slice none 0 0] 43)) := ((Below.refl _ _).alloc (Nat.le_refl _) _).alloc (by simp) _
  have R0 := hR.below B0
  have X0 : Bx ((w.alloc (.cells #[va, vb, vc] 43)).alloc (.cells #[.slice none 0 0, .slice none 0 0, .slice none 0 0] 43)) w.heap.size va vb vc := by simp [Bx]
  have X1 : Bx ((w.alloc (.cells #[va, vb, vc] 43)).alloc (.cells #[.slice none 0 0, .slice none 0 0, .slice none 0 0] 43)) (w.heap.size + 1) (.slice none 0 0) (.slice none 0 0) (.slice none 0 0) := by simp [Bx]
  have hs : w.heap.size + 1 < ((w.alloc (.cells #[va, vb, vc] 43)).alloc (.cells #[.slice none 0 0, .slice none 0 0, .slice none 0 0] 43)).heap.size := by simp
  go_enter Try.func54, Try.ntmps54
  go_wp2
  generalize ((w.alloc (.cells #[va, vb, vc] 43)).alloc (.cells #[.slice none 0 0, .slice none 0 0, .slice none 0 0] 43)) = W0 at *
  have hS0 : SC w w.heap.size va vb vc W0.drew := ⟨X0.1, B0.drew⟩
  have S0 : Hid (SC w w.heap.size va vb vc W0.drew) := hS0
  have X1 : Hid (Bx W0.drew (w.heap.size + 1) (.slice none 0 0) (.slice none 0 0) (.slice none 0 0)) := X1
  have hS0 : Hid (w.heap.size + 1 < W0.drew.heap.size) := hs
  clear B0 R0 X0 hs
  have t1 : Hid (0 = 0) := rfl
  go_region_held3 (fun w2 => (w2.cell? ⟨w.heap.size, 0, none⟩ = some va ∧ w2.cell? ⟨w.heap.size, 1, none⟩ = some vb ∧ w2.cell? ⟨w.heap.size, 2, none⟩ = some vc) ∧ Below w.heap.size w w2)
    (first | exact S0.out | exact SC.next (by assumption) (by assumption) | exact (((SC.next hb3 (by assumption)).store (Nat.ne_of_lt (Nat.lt_succ_self _)) (Nat.le_succ _) 0 _).store (Nat.ne_of_lt (Nat.lt_succ_self _)) (Nat.le_succ _) 1 _).store (Nat.ne_of_lt (Nat.lt_succ_self _)) (Nat.le_succ _) 2 _ | exact ((SC.store (by assumption) (Nat.ne_of_lt (Nat.lt_succ_self _)) (Nat.le_succ _) 0 _).store (Nat.ne_of_lt (Nat.lt_succ_self _)) (Nat.le_succ _) 1 _).store (Nat.ne_of_lt (Nat.lt_succ_self _)) (Nat.le_succ _) 2 _)
    (first | (go_at_call 33; clear t1; refine (cloneI_any _ m.vol _ (hR.below S0.out.2).vol).mono ?_; rintro e w1 ⟨v1, rfl, o1, hb1⟩; obtain ⟨a1, c1, rfl⟩ := o1.form) | (go_at_call 33; refine (cloneI_any _ m.per _ (hR.below (bstep S0.out.2 hb1)).per).mono ?_; rintro e w2 ⟨v2, rfl, o2, hb2⟩; obtain ⟨a2, c2, rfl⟩ := o2.form) | (go_at_call 42; refine (cloneP_any _ m.pend _ (hR.below (bstep (bstep S0.out.2 hb1) hb2)).pend).mono ?_; rintro e w3 ⟨v3, rfl, o3, hb3⟩; obtain ⟨a3, c3, rfl⟩ := o3.form; obtain ⟨⟨x0, x1, x2⟩, f0, f1, f2⟩ := ((X1.out.below hb1).below hb2).below hb3))
  go_wp2
  have hX := ((X1.out.below hb1).below hb2).below hb3
  have hS1 := hb1.size
  have hS2 := hb2.size
  have hS0 := hS0.out
  have hX' := hX.set3 (.slice a1 m.vol.length c1) (.slice a2 m.per.length c2) (.slice a3 m.pend.length c3)
  have hB := (((bstep (bstep (bstep S0.out.2 hb1) hb2) hb3).setCell (p := ⟨w.heap.size + 1, 0, none⟩) (Nat.le_succ _) (.slice a1 m.vol.length c1)).setCell (p := ⟨w.heap.size + 1, 1, none⟩) (Nat.le_succ _) (.slice a2 m.per.length c2)).setCell (p := ⟨w.heap.size + 1, 2, none⟩) (Nat.le_succ _) (.slice a3 m.pend.length c3)
  have o1' := own_mono o1 (base' := w.heap.size + 2) (by omega)
  have o2' := own_mono o2 (base' := w.heap.size + 2) (by omega)
  have o3' := own_mono o3 (base' := w.heap.size + 2) (by omega)
  have hO : OwnM w3 (w.heap.size + 2) (.slice a1 m.vol.length c1) (.slice a2 m.per.length c2) (.slice a3 m.pend.length c3) m := ⟨own_below (own_below o1' hb2) hb3, own_below o2' hb3, o3', apart_made o1 o2 (Nat.le_refl _), apart_made o1 o3 hS2, apart_made o2 o3 (Nat.le_refl _)⟩
  have hO' := (((hO.setCell (p := ⟨w.heap.size + 1, 0, none⟩) (by show w.heap.size + 1 < _; omega) (.slice a1 m.vol.length c1)).setCell (p := ⟨w.heap.size + 1, 1, none⟩) (by show w.heap.size + 1 < _; omega) (.slice a2 m.per.length c2)).setCell (p := ⟨w.heap.size + 1, 2, none⟩) (by show w.heap.size + 1 < _; omega) (.slice a3 m.pend.length c3)).mono (base' := w.heap.size) (by omega)
  clear hO o1' o2' o3' hX
  exact bodyPost_ret (v := .agg #[.slice a1 m.vol.length c1, .slice a2 m.per.length c2, .slice a3 m.pend.length c3]) (ret_cell (p := 2) (b := w.heap.size + 1) Try.results54 rfl hX') rfl ⟨_, _, _, rfl, hO', hB⟩
end Go.Proofs.Ytbnlekheadmecaa
