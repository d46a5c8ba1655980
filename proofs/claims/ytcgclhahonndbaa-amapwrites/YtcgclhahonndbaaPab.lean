/- Layer 12: pairs that are read, and rows of pairs of the call's own. -/
import Derived.Test.YtcgclhahonndbaaAmnum
import Derived.Laws.StructEq
import Derived.Deep.DeepCutAuto
import Derived.Deep.Slices
import Derived.Deep.Strs
namespace Go.Proofs.Ytcgclhahonndbaa
open Go.RowKit Go.Shelf
set_option linter.unusedVariables false

/-- The cells of pairs. -/
def pc1 (p : Pa) : List Value := [.string p.k, .string p.v]
def pcs (l : List Pa) : List Value := l.flatMap pc1
theorem pcs_length (l : List Pa) : (pcs l).length = l.length * 2 := by
  induction l with
  | nil => rfl
  | cons p ps ih => simp only [pcs, List.flatMap_cons, List.length_append, List.length_cons] at *; rw [ih]; simp [pc1]; omega
theorem pcs_append (ps qs : List Pa) : pcs (ps ++ qs) = pcs ps ++ pcs qs := by simp [pcs]
theorem pcs_at (ps : List Pa) (k : Nat) (hk : k < ps.length) (i : Nat) (hi : i < 2) : (pcs ps)[k * 2 + i]? = (pc1 (ps[k]'hk))[i]? := by
  induction ps generalizing k with
  | nil => simp at hk
  | cons p ps ih =>
    have e : pcs (p :: ps) = pc1 p ++ pcs ps := by simp [pcs]
    rw [e]
    cases k with
    | zero =>
      rw [Nat.zero_mul, Nat.zero_add, List.getElem?_append_left (by simp [pc1]; omega)]
      rfl
    | succ k =>
      rw [List.getElem?_append_right (by simp [pc1]; omega)]
      have : (k + 1) * 2 + i - (pc1 p).length = k * 2 + i := by simp [pc1]; omega
      rw [this, ih k (by simpa using hk)]
      rfl
theorem pcs_one (ps : List Pa) : ∀ u ∈ pcs ps, u.oneCell' = true := by
  intro u hu
  obtain ⟨p, _, hp⟩ := List.mem_flatMap.1 hu
  simp only [pc1, List.mem_cons, List.not_mem_nil, or_false] at hp
  rcases hp with rfl | rfl <;> rfl
theorem pcs_k {l : List Pa} {k : Nat} {p : Pa} (h : l[k]? = some p) : (pcs l)[k * 2]? = some (.string p.k) := by
  obtain ⟨hk, rfl⟩ := List.getElem?_eq_some_iff.1 h
  exact pcs_at l k hk 0 (by omega)
theorem pcs_v {l : List Pa} {k : Nat} {p : Pa} (h : l[k]? = some p) : (pcs l)[k * 2 + 1]? = some (.string p.v) := by
  obtain ⟨hk, rfl⟩ := List.getElem?_eq_some_iff.1 h
  exact pcs_at l k hk 1 (by omega)
/-- What is told of each pair's two cells is told of the cells. -/
theorem pcs_all {l : List Pa} {f : Nat → Option Value} (h : ∀ k p, l[k]? = some p → f (k * 2) = some (.string p.k) ∧ f (k * 2 + 1) = some (.string p.v)) : ∀ j u, (pcs l)[j]? = some u → f j = some u := by
  intro j u hu
  have hj : j < l.length * 2 := by have := (List.getElem?_eq_some_iff.1 hu).1; rwa [pcs_length] at this
  have hk : j / 2 < l.length := by omega
  have hp : l[j / 2]? = some l[j / 2] := List.getElem?_eq_getElem hk
  obtain ⟨h1, h2⟩ := h _ _ hp
  rcases Nat.mod_two_eq_zero_or_one j with e | e
  · have ej : j = j / 2 * 2 := by omega
    have := pcs_k hp
    rw [← ej] at this h1
    rw [h1, ← this, hu]
  · have ej : j = j / 2 * 2 + 1 := by omega
    have := pcs_v hp
    rw [← ej] at this h2
    rw [h2, ← this, hu]
/-- The slice v holds the pairs l. -/
def RdP (W : World) (v : Value) (l : List Pa) : Prop := RdC W 2 v l.length (pcs l)
theorem RdP.below {W W' : World} {v : Value} {l : List Pa} (h : RdP W v l) (hb : Below W.heap.size W W') : RdP W' v l := RdC.below h hb
theorem RdP.form {W : World} {v : Value} {l : List Pa} (h : RdP W v l) : l.length ≤ 1000 ∧ ∃ a cap, v = .slice a l.length cap ∧ l.length ≤ cap := by
  obtain ⟨_, h2, a, cap, rfl, h3, _⟩ := h
  exact ⟨h2, a, cap, rfl, h3⟩
theorem RdP.get {W : World} {a : Option Addr} {n cap : Nat} {l : List Pa} (h : RdP W (.slice a n cap) l) {k : Nat} {x : Pa} (hp : l[k]? = some x) :
    ∃ b off, a = some ⟨b, off, none⟩ ∧ W.cell? ⟨b, off + k * 2, none⟩ = some (.string x.k) ∧ W.cell? ⟨b, off + k * 2 + 1, none⟩ = some (.string x.v) := by
  obtain ⟨_, _, a', cap', e, _, h3⟩ := h
  cases e
  rcases h3 with ⟨h0, _⟩ | ⟨b, off, rfl, _, hc⟩
  · have := (List.getElem?_eq_some_iff.1 hp).1
    omega
  · refine ⟨b, off, rfl, hc (k * 2) _ (pcs_k hp), ?_⟩
    have := hc (k * 2 + 1) _ (pcs_v hp)
    rwa [← Nat.add_assoc] at this
theorem RdP.bare (W : World) : RdP W (.slice none 0 0) [] := ⟨rfl, by simp, none, 0, rfl, Nat.le_refl _, .inl ⟨rfl, fun _ => rfl⟩⟩
/-- A row of pairs, of the call's own. -/
def OwnP (W : World) (base : Nat) (v : Value) (l : List Pa) : Prop := W.ownsRow base 35 2 v l.length (pcs l)
theorem OwnP.rd {W : World} {base : Nat} {v : Value} {l : List Pa} (h : OwnP W base v l) (hl : l.length ≤ 1000) : RdP W v l := RdC.of_own h hl
theorem OwnP.below {W W' : World} {base : Nat} {v : Value} {l : List Pa} (h : OwnP W base v l) (hb : Below W.heap.size W W') : OwnP W' base v l := own_below h hb
theorem OwnP.bare (W : World) (base : Nat) : OwnP W base (.slice none 0 0) [] := World.ownsRow_nil _ _ _ _
theorem own_mono {w : World} {base base' : Nat} {e : TypeId} {size : Nat} {v : Value} {n : Nat} {xs : List Value} (h : w.ownsRow base e size v n xs) (hb : base' ≤ base) : w.ownsRow base' e size v n xs := by
  refine ⟨h.1, ?_⟩
  rcases h.2 with hn | ⟨g, cap, cur, rfl, hg, rest⟩
  · exact .inl hn
  · exact .inr ⟨g, cap, cur, rfl, Nat.le_trans hb hg, rest⟩
theorem OwnP.mono {W : World} {base base' : Nat} {v : Value} {l : List Pa} (h : OwnP W base v l) (hb : base' ≤ base) : OwnP W base' v l := own_mono h hb
/-- A block of pairs, of so much room, which has these first. -/
structure BkP (W : World) (g cap : Nat) (D : List Pa) : Prop where
  blk : ∃ cur, W.heap[g]? = some (.cells cur 35 (0, 0)) ∧ cur.size = cap * 2
  len : D.length ≤ cap
  mx : cap ≤ maxLen
  at' : ∀ k p, D[k]? = some p → W.cell? ⟨g, k * 2, none⟩ = some (.string p.k) ∧ W.cell? ⟨g, k * 2 + 1, none⟩ = some (.string p.v)
theorem BkP.lt {W : World} {g cap : Nat} {D : List Pa} (h : BkP W g cap D) : g < W.heap.size := by
  obtain ⟨cur, h, _⟩ := h.blk
  exact (Array.getElem?_eq_some_iff.1 h).1
theorem BkP.below {W W' : World} {g cap : Nat} {D : List Pa} (h : BkP W g cap D) (hb : Below W.heap.size W W') : BkP W' g cap D := by
  obtain ⟨cur, h1, h2⟩ := h.blk
  refine ⟨⟨cur, (hb.block g h.lt).trans h1, h2⟩, h.len, h.mx, fun k p hp => ?_⟩
  obtain ⟨c1, c2⟩ := h.at' k p hp
  exact ⟨(hb.cell (p := ⟨g, k * 2, none⟩) h.lt).trans c1, (hb.cell (p := ⟨g, k * 2 + 1, none⟩) h.lt).trans c2⟩
theorem BkP.frozen {W : World} {g cap : Nat} {D : List Pa} (h : BkP W g cap D) (j : Nat) : W.frozen? ⟨g, j, none⟩ = false := by
  obtain ⟨cur, h1, h2⟩ := h.blk
  simp [World.frozen?, h1]
theorem BkP.sm {W : World} {g cap : Nat} {D : List Pa} (h : BkP W g cap D) (j : Nat) (hj : j < cap * 2) : (W.cell? ⟨g, j, none⟩).isSome = true := by
  obtain ⟨cur, h1, h2⟩ := h.blk
  simp [World.cell?, h1, h2, hj]
theorem blk_set {W : World} {g j : Nat} {v : Value} {n : Nat} (h : ∃ cur, W.heap[g]? = some (.cells cur 35 (0, 0)) ∧ cur.size = n) : ∃ cur, (W.setCell ⟨g, j, none⟩ v).heap[g]? = some (.cells cur 35 (0, 0)) ∧ cur.size = n := by
  obtain ⟨cur, h1, h2⟩ := h
  refine ⟨cur.setIfInBounds j v, ?_, by simpa using h2⟩
  simp [World.setCell, Array.getElem?_modify, h1]
theorem blk_sets {g n : Nat} : ∀ (vs : List Value) (o : Nat) {W : World}, (∃ cur, W.heap[g]? = some (.cells cur 35 (0, 0)) ∧ cur.size = n) → ∃ cur, (W.setCells g o vs).heap[g]? = some (.cells cur 35 (0, 0)) ∧ cur.size = n
  | [], _, _, h => h
  | v :: r, o, W, h => blk_sets r (o + 1) (blk_set h)
/-- A pair is stored at a place. -/
theorem BkP.set {W : World} {g cap : Nat} {D : List Pa} (h : BkP W g cap D) {i : Nat} (hi : i < D.length) (p : Pa) : BkP ((W.setCell ⟨g, i * 2, none⟩ (.string p.k)).setCell ⟨g, i * 2 + 1, none⟩ (.string p.v)) g cap (D.set i p) := by
  have hl := h.len
  refine ⟨blk_set (blk_set h.blk), by rw [List.length_set]; exact h.len, h.mx, fun k q hq => ?_⟩
  obtain ⟨u1, s1⟩ := Option.isSome_iff_exists.1 (h.sm (i * 2) (by omega))
  obtain ⟨u2, s2⟩ : ∃ u2, (W.setCell ⟨g, i * 2, none⟩ (.string p.k)).cell? ⟨g, i * 2 + 1, none⟩ = some u2 := by
    rw [World.cell?_setCell_other _ _ _ _ (by simp)]
    exact Option.isSome_iff_exists.1 (h.sm (i * 2 + 1) (by omega))
  rw [List.getElem?_set] at hq
  split at hq
  · rename_i e
    subst e
    cases hq
    refine ⟨?_, World.cell?_setCell_same _ _ _ s2⟩
    rw [World.cell?_setCell_other _ _ _ _ (by simp)]
    exact World.cell?_setCell_same _ _ _ s1
  · rename_i e
    obtain ⟨c1, c2⟩ := h.at' k q hq
    refine ⟨?_, ?_⟩
    · rw [World.cell?_setCell_other _ _ _ _ (by simp <;> omega), World.cell?_setCell_other _ _ _ _ (by simp <;> omega)]
      exact c1
    · rw [World.cell?_setCell_other _ _ _ _ (by simp <;> omega), World.cell?_setCell_other _ _ _ _ (by simp <;> omega)]
      exact c2
theorem BkP.take {W : World} {g cap : Nat} {D : List Pa} (h : BkP W g cap D) (i : Nat) : BkP W g cap (D.take i) := by
  have hl := h.len
  refine ⟨h.blk, by rw [List.length_take]; omega, h.mx, fun k p hp => ?_⟩
  rw [List.getElem?_take] at hp
  split at hp
  · exact h.at' k p hp
  · cases hp
theorem BkP.own {W : World} {base g cap : Nat} {D : List Pa} (h : BkP W g cap D) (hg : base ≤ g) : OwnP W base (.slice (some ⟨g, 0, none⟩) D.length cap) D := by
  obtain ⟨cur, h1, h2⟩ := h.blk
  have hl := h.len
  refine ⟨pcs_length D, .inr ⟨g, cap, cur, rfl, hg, h1, h.len, h.mx, h2, ?_⟩⟩
  refine List.ext_getElem? fun j => ?_
  rw [List.getElem?_take]
  by_cases hj : j < D.length * 2
  · rw [if_pos hj]
    obtain ⟨u, hu⟩ : ∃ u, (pcs D)[j]? = some u := ⟨_, List.getElem?_eq_getElem (by rw [pcs_length]; exact hj)⟩
    have := pcs_all (f := fun j => W.cell? ⟨g, j, none⟩) h.at' j u hu
    rw [hu]
    simp [World.cell?, h1] at this
    simpa using this
  · rw [if_neg hj, List.getElem?_eq_none (by rw [pcs_length]; omega)]
theorem OwnP.bk {W : World} {base n c : Nat} {g : Nat} {D : List Pa} (h : OwnP W base (.slice (some ⟨g, 0, none⟩) n c) D) : n = D.length ∧ base ≤ g ∧ BkP W g c D := by
  have h0 := h
  rcases h.2 with ⟨e, _⟩ | ⟨g', cap, cur, e, hg, hgb, hncap, hmax, hsz, htk⟩
  · cases e
  · cases e
    refine ⟨rfl, hg, ⟨cur, hgb, hsz⟩, hncap, hmax, fun k p hp => ?_⟩
    have c1 := h0.cells rfl (k * 2) _ (pcs_k hp)
    have c2 := h0.cells rfl (k * 2 + 1) _ (pcs_v hp)
    rw [Addr.add_lit, Nat.zero_add] at c1 c2
    exact ⟨c1, c2⟩
theorem OwnP.form {W : World} {base : Nat} {v : Value} {D : List Pa} (h : OwnP W base v D) : (v = .slice none 0 0 ∧ D = []) ∨ ∃ g c, v = .slice (some ⟨g, 0, none⟩) D.length c ∧ base ≤ g ∧ BkP W g c D := by
  rcases h.2 with ⟨rfl, h0⟩ | ⟨g', cap, cur, rfl, hg, _⟩
  · exact .inl ⟨rfl, List.eq_nil_of_length_eq_zero h0⟩
  · exact .inr ⟨g', cap, rfl, hg, (OwnP.bk h).2.2⟩
theorem Try.info35 : (Try.prog.info? 35).map (fun i => (i.zero, i.size, i.bytes)) = some (some (.agg #[.string ⟨#[]⟩, .string ⟨#[]⟩]), 2, 32) := by kernel_rfl
end Go.Proofs.Ytcgclhahonndbaa
