/- Walks of layer 4: copies of memories; which may be. -/
import Derived.Test.YtoboiahknapddaaWalkb
import Derived.Deep.RegionHeld3
import Derived.Laws.ResultCell
namespace Go.Proofs.Ytoboiahknapddaa
open Go.RowKit

theorem cell_held {W W' : World} {p : Addr} {u : Value} (h : W.cell? p = some u) (hb : Below W.heap.size W W') : W'.cell? p = some u := (hb.cell (World.block_lt_of_cell? W _ h)).trans h
theorem frozen_held {W W' : World} {p : Addr} {u : Value} (h : W.cell? p = some u) (f : W.frozen? p = false) (hb : Below W.heap.size W W') : W'.frozen? p = false := (hb.frozen (World.block_lt_of_cell? W _ h)).trans f

/-- Two rows lie apart. -/
def Apart (v u : Value) : Prop := ∀ g, v.ownBlock = some g → u.ownBlock ≠ some g
theorem Apart.symm {v u : Value} (h : Apart v u) : Apart u v := fun g h1 h2 => h g h2 h1
theorem Apart.kept {v u : Value} (h : Apart v u) : u.ownBlock = none ∨ u.ownBlock ≠ v.ownBlock := by
  cases hu : u.ownBlock with
  | none => exact .inl rfl
  | some g => exact .inr fun e => h g e.symm hu
theorem apart_made {W W' : World} {b b' : Nat} {e e' : TypeId} {s s' : Nat} {v u : Value} {n n' : Nat} {xs ys : List Value} (h : W.ownsRow b e s v n xs) (h' : W'.ownsRow b' e' s' u n' ys) (hb : W.heap.size ≤ b') : Apart v u := by
  intro g h1 h2
  have := h.lt g h1
  have := h'.lt g h2
  omega
theorem own_setCell {W : World} {base : Nat} {e : TypeId} {size : Nat} {v : Value} {n : Nat} {xs : List Value} (h : W.ownsRow base e size v n xs) {p : Addr} (hp : p.block < base) (u : Value) : (W.setCell p u).ownsRow base e size v n xs := by
  refine ⟨h.1, ?_⟩
  rcases h.2 with hn | ⟨g, cap, cur, rfl, hg, hgg, rest⟩
  · exact .inl hn
  · exact .inr ⟨g, cap, cur, rfl, hg, (Below.heap_setCell W p u g (by omega)).trans hgg, rest⟩
theorem own_mono {w : World} {base base' : Nat} {e : TypeId} {size : Nat} {v : Value} {n : Nat} {xs : List Value} (h : w.ownsRow base e size v n xs) (hb : base' ≤ base) : w.ownsRow base' e size v n xs := by
  refine ⟨h.1, ?_⟩
  rcases h.2 with hn | ⟨g, cap, cur, rfl, hg, rest⟩
  · exact .inl hn
  · exact .inr ⟨g, cap, cur, rfl, Nat.le_trans hb hg, rest⟩

theorem OwnI.form {W : World} {base : Nat} {v : Value} {zs : List Int} (h : OwnI W base v zs) : ∃ a cap, v = .slice a zs.length cap := by
  rcases h.2 with ⟨rfl, h0⟩ | ⟨g, cap, cur, rfl, _⟩
  · exact ⟨none, 0, by rw [h0]⟩
  · exact ⟨_, _, rfl⟩
theorem OwnP.form {W : World} {base : Nat} {v : Value} {ps : List Pd} (h : OwnP W base v ps) : ∃ a cap, v = .slice a ps.length cap := by
  rcases h.2 with ⟨rfl, h0⟩ | ⟨g, cap, cur, rfl, _⟩
  · exact ⟨none, 0, by rw [h0]⟩
  · exact ⟨_, _, rfl⟩

/-- A memory of the call's own: three rows that lie apart. -/
structure OwnM (W : World) (base : Nat) (va vb vc : Value) (m : Mm) : Prop where
  vol : OwnI W base va m.vol
  per : OwnI W base vb m.per
  pend : OwnP W base vc m.pend
  ab : Apart va vb
  ac : Apart va vc
  bc : Apart vb vc
theorem OwnM.rd {W : World} {base : Nat} {va vb vc : Value} {m : Mm} (h : OwnM W base va vb vc m) (h1 : m.vol.length ≤ 1000) (h2 : m.per.length ≤ 1000) (h3 : m.pend.length ≤ 1000) : RdM W va vb vc m := ⟨h.vol.rd h1, h.per.rd h2, h.pend.rd h3⟩
theorem OwnM.below {W W' : World} {base : Nat} {va vb vc : Value} {m : Mm} (h : OwnM W base va vb vc m) (hb : Below W.heap.size W W') : OwnM W' base va vb vc m := ⟨h.vol.below hb, h.per.below hb, h.pend.below hb, h.ab, h.ac, h.bc⟩
theorem OwnM.setCell {W : World} {base : Nat} {va vb vc : Value} {m : Mm} (h : OwnM W base va vb vc m) {p : Addr} (hp : p.block < base) (u : Value) : OwnM (W.setCell p u) base va vb vc m := ⟨own_setCell h.vol hp u, own_setCell h.per hp u, own_setCell h.pend hp u, h.ab, h.ac, h.bc⟩
theorem OwnM.mono {W : World} {base base' : Nat} {va vb vc : Value} {m : Mm} (h : OwnM W base va vb vc m) (hb : base' ≤ base) : OwnM W base' va vb vc m := ⟨own_mono h.vol hb, own_mono h.per hb, own_mono h.pend hb, h.ab, h.ac, h.bc⟩

/-- Block b holds three cells, which may be written. -/
def Bx (W : World) (b : Nat) (va vb vc : Value) : Prop :=
  (W.cell? ⟨b, 0, none⟩ = some va ∧ W.cell? ⟨b, 1, none⟩ = some vb ∧ W.cell? ⟨b, 2, none⟩ = some vc) ∧ W.frozen? ⟨b, 0, none⟩ = false ∧ W.frozen? ⟨b, 1, none⟩ = false ∧ W.frozen? ⟨b, 2, none⟩ = false
theorem Bx.below {W W' : World} {b : Nat} {va vb vc : Value} (h : Bx W b va vb vc) (hb : Below W.heap.size W W') : Bx W' b va vb vc :=
  ⟨⟨cell_held h.1.1 hb, cell_held h.1.2.1 hb, cell_held h.1.2.2 hb⟩, frozen_held h.1.1 h.2.1 hb, frozen_held h.1.2.1 h.2.2.1 hb, frozen_held h.1.2.2 h.2.2.2 hb⟩

theorem Bx.set3 {W : World} {b : Nat} {va vb vc : Value} (h : Bx W b va vb vc) (x y z : Value) : Bx (((W.setCell ⟨b, 0, none⟩ x).setCell ⟨b, 1, none⟩ y).setCell ⟨b, 2, none⟩ z) b x y z := by
  obtain ⟨⟨h0, h1, h2⟩, f0, f1, f2⟩ := h
  refine ⟨⟨?_, ?_, ?_⟩, by simp [f0], by simp [f1], by simp [f2]⟩
  · rw [World.cell?_setCell_other _ _ _ _ (by simp), World.cell?_setCell_other _ _ _ _ (by simp)]
    exact World.cell?_setCell_same _ _ _ h0
  · rw [World.cell?_setCell_other _ _ _ _ (by simp)]
    exact World.cell?_setCell_same _ _ _ (by rw [World.cell?_setCell_other _ _ _ _ (by simp)]; exact h1)
  · exact World.cell?_setCell_same _ _ _ (by rw [World.cell?_setCell_other _ _ _ _ (by simp), World.cell?_setCell_other _ _ _ _ (by simp)]; exact h2)
theorem Try.size41 : (Try.prog.info? 41).map (·.size) = some 3 := by kernel_rfl
theorem load25 {w : World} {b : Nat} {va vb vc : Value} (h : w.cell? ⟨b, 0, none⟩ = some va ∧ w.cell? ⟨b, 1, none⟩ = some vb ∧ w.cell? ⟨b, 2, none⟩ = some vc) : (loadVar 41 ⟨b, 0, none⟩).run Try.prog w = .ok (.agg #[va, vb, vc]) w :=
  run_loadVar_mid (P := Try.prog) w b 0 41 [va, vb, vc] _ (by
    intro j v hv
    match j, hv with
    | 0, hv => cases hv; exact h.1
    | 1, hv => cases hv; exact h.2.1
    | 2, hv => cases hv; exact h.2.2) Try.underlying41 rfl Try.size41
/-- A result that lies in a variable of the call's own, alone or with another one. -/
theorem ret_cell {fn : Func} {p : Tmp} (h : fn.results = #[.cell p 41]) {tmps : Array Value} {w : World} {b : Nat} {va vb vc : Value} (hp : tmps.getD p undef = .pointer (some ⟨b, 0, none⟩)) (hx : Bx w b va vb vc) : (results fn tmps).run Try.prog w = .ok (.agg #[va, vb, vc]) w := by
  have hp' : tmps[p]?.getD undef = .pointer (some ⟨b, 0, none⟩) := by simpa using hp
  simp [results, h, hp', asAddr, load25 hx.1]
theorem ret_cell2 {fn : Func} {p u : Tmp} (h : fn.results = #[.cell p 41, .tmp u]) {tmps : Array Value} {w : World} {b : Nat} {va vb vc : Value} (hp : tmps.getD p undef = .pointer (some ⟨b, 0, none⟩)) (hx : Bx w b va vb vc) : (results fn tmps).run Try.prog w = .ok (.tuple #[.agg #[va, vb, vc], tmps.getD u undef]) w := by
  have hp' : tmps[p]?.getD undef = .pointer (some ⟨b, 0, none⟩) := by simpa using hp
  rw [results_cell_tmp h]
  simp [hp', asAddr, load25 hx.1]

/-- What is held in the midst of a copy: the box of what is copied. -/
def SC (w : World) (b : Nat) (va vb vc : Value) (w2 : World) : Prop := (w2.cell? ⟨b, 0, none⟩ = some va ∧ w2.cell? ⟨b, 1, none⟩ = some vb ∧ w2.cell? ⟨b, 2, none⟩ = some vc) ∧ Below w.heap.size w w2
theorem SC.next {w W w2 : World} {b : Nat} {va vb vc : Value} (hb : Below W.heap.size W w2) (h : SC w b va vb vc W) : SC w b va vb vc w2 := ⟨⟨cell_held h.1.1 hb, cell_held h.1.2.1 hb, cell_held h.1.2.2 hb⟩, bstep h.2 hb⟩
theorem SC.store {w W : World} {b c : Nat} {va vb vc : Value} (h : SC w b va vb vc W) (hbc : b ≠ c) (hc : w.heap.size ≤ c) (i : Nat) (u : Value) : SC w b va vb vc (W.setCell ⟨c, i, none⟩ u) :=
  ⟨⟨by rw [World.cell?_setCell_other _ _ _ _ (by simp)]; exact h.1.1, by rw [World.cell?_setCell_other _ _ _ _ (by simp)]; exact h.1.2.1, by rw [World.cell?_setCell_other _ _ _ _ (by simp)]; exact h.1.2.2⟩, h.2.setCell (p := ⟨c, i, none⟩) hc u⟩

set_option maxRecDepth 100000 in
set_option maxHeartbeats 1000000 in
theorem clone_any (va vb vc : Value) (m : Mm) (w : World) (hR : RdM w va vb vc m) : Calls Try.prog 61 #[.agg #[va, vb, vc]] w fun e w' => ∃ va' vb' vc', e = .returned (.agg #[va', vb', vc']) ∧ OwnM w' w.heap.size va' vb' vc' m ∧ Below w.heap.size w w' := by
  have B0 : Below w.heap.size w ((w.alloc (.cells #[va, vb, vc] 41)).alloc (.cells #[.slice none 0 0, .slice none 0 0, .slice none 0 0] 41)) := ((Below.refl _ _).alloc (Nat.le_refl _) _).alloc (by simp) _
  have R0 := hR.below B0
  have X0 : Bx ((w.alloc (.cells #[va, vb, vc] 41)).alloc (.cells #[.slice none 0 0, .slice none 0 0, .slice none 0 0] 41)) w.heap.size va vb vc := by simp [Bx]
  have X1 : Bx ((w.alloc (.cells #[va, vb, vc] 41)).alloc (.cells #[.slice none 0 0, .slice none 0 0, .slice none 0 0] 41)) (w.heap.size + 1) (.slice none 0 0) (.slice none 0 0) (.slice none 0 0) := by simp [Bx]
  have hs : w.heap.size + 1 < ((w.alloc (.cells #[va, vb, vc] 41)).alloc (.cells #[.slice none 0 0, .slice none 0 0, .slice none 0 0] 41)).heap.size := by simp
  go_enter Try.func61, Try.ntmps61
  go_wp2
  generalize ((w.alloc (.cells #[va, vb, vc] 41)).alloc (.cells #[.slice none 0 0, .slice none 0 0, .slice none 0 0] 41)) = W0 at *
  have hS0 : SC w w.heap.size va vb vc W0.drew := ⟨X0.1, B0.drew⟩
  have S0 : Hid (SC w w.heap.size va vb vc W0.drew) := hS0
  have X1 : Hid (Bx W0.drew (w.heap.size + 1) (.slice none 0 0) (.slice none 0 0) (.slice none 0 0)) := X1
  have hS0 : Hid (w.heap.size + 1 < W0.drew.heap.size) := hs
  clear B0 R0 X0 hs
  have t1 : Hid (0 = 0) := rfl
  go_region_held3 (fun w2 => (w2.cell? ⟨w.heap.size, 0, none⟩ = some va ∧ w2.cell? ⟨w.heap.size, 1, none⟩ = some vb ∧ w2.cell? ⟨w.heap.size, 2, none⟩ = some vc) ∧ Below w.heap.size w w2)
    (first | exact S0.out | exact SC.next (by assumption) (by assumption) | exact (((SC.next hb3 (by assumption)).store (Nat.ne_of_lt (Nat.lt_succ_self _)) (Nat.le_succ _) 0 _).store (Nat.ne_of_lt (Nat.lt_succ_self _)) (Nat.le_succ _) 1 _).store (Nat.ne_of_lt (Nat.lt_succ_self _)) (Nat.le_succ _) 2 _ | exact ((SC.store (by assumption) (Nat.ne_of_lt (Nat.lt_succ_self _)) (Nat.le_succ _) 0 _).store (Nat.ne_of_lt (Nat.lt_succ_self _)) (Nat.le_succ _) 1 _).store (Nat.ne_of_lt (Nat.lt_succ_self _)) (Nat.le_succ _) 2 _)
    (first | (go_at_call 41; clear t1; refine (cloneI_any _ m.vol _ (hR.below S0.out.2).vol).mono ?_; rintro e w1 ⟨v1, rfl, o1, hb1⟩; obtain ⟨a1, c1, rfl⟩ := o1.form) | (go_at_call 41; refine (cloneI_any _ m.per _ (hR.below (bstep S0.out.2 hb1)).per).mono ?_; rintro e w2 ⟨v2, rfl, o2, hb2⟩; obtain ⟨a2, c2, rfl⟩ := o2.form) | (go_at_call 57; refine (cloneP_any _ m.pend _ (hR.below (bstep (bstep S0.out.2 hb1) hb2)).pend).mono ?_; rintro e w3 ⟨v3, rfl, o3, hb3⟩; obtain ⟨a3, c3, rfl⟩ := o3.form; obtain ⟨⟨x0, x1, x2⟩, f0, f1, f2⟩ := ((X1.out.below hb1).below hb2).below hb3))
  go_wp2
  have hX := ((X1.out.below hb1).below hb2).below hb3
  have hS1 := hb1.size
  have hS2 := hb2.size
  have hS0 := hS0.out
  have hX' := hX.set3 (.slice a1 m.vol.length c1) (.slice a2 m.per.length c2) (.slice a3 m.pend.length c3)
  have hB := (((bstep (bstep (bstep S0.out.2 hb1) hb2) hb3).setCell (p := ⟨w.heap.size + 1, 0, none⟩) (Nat.le_succ _) (.slice a1 m.vol.length c1)).setCell (p := ⟨w.heap.size + 1, 1, none⟩) (Nat.le_succ _) (.slice a2 m.per.length c2)).setCell (p := ⟨w.heap.size + 1, 2, none⟩) (Nat.le_succ _) (.slice a3 m.pend.length c3)
  have o1' := own_mono o1 (base' := w.heap.size + 2) (by omega)
  have o2' := own_mono o2 (base' := w.heap.size + 2) (by omega)
  have o3' := own_mono o3 (base' := w.heap.size + 2) (by omega)
  have hO : OwnM w3 (w.heap.size + 2) (.slice a1 m.vol.length c1) (.slice a2 m.per.length c2) (.slice a3 m.pend.length c3) m := ⟨own_below (own_below o1' hb2) hb3, own_below o2' hb3, o3', apart_made o1 o2 (Nat.le_refl _), apart_made o1 o3 hS2, apart_made o2 o3 (Nat.le_refl _)⟩
  have hO' := (((hO.setCell (p := ⟨w.heap.size + 1, 0, none⟩) (by show w.heap.size + 1 < _; omega) (.slice a1 m.vol.length c1)).setCell (p := ⟨w.heap.size + 1, 1, none⟩) (by show w.heap.size + 1 < _; omega) (.slice a2 m.per.length c2)).setCell (p := ⟨w.heap.size + 1, 2, none⟩) (by show w.heap.size + 1 < _; omega) (.slice a3 m.pend.length c3)).mono (base' := w.heap.size) (by omega)
  clear hO o1' o2' o3' hX
  exact bodyPost_ret (v := .agg #[.slice a1 m.vol.length c1, .slice a2 m.per.length c2, .slice a3 m.pend.length c3]) (ret_cell (p := 2) (b := w.heap.size + 1) Try.results61 rfl hX') rfl ⟨_, _, _, rfl, hO', hB⟩
end Go.Proofs.Ytoboiahknapddaa
