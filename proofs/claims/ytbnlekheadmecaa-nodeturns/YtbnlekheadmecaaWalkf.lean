/- Walks of layer 4: a memory that is made: its box and its rows. -/
import Derived.Test.YtbnlekheadmecaaWalkd
import Derived.Deep.AppendLies
namespace Go.Proofs.Ytbnlekheadmecaa
open Go.RowKit
set_option linter.unusedVariables false

theorem Bx.kept {W W' : World} {b : Nat} {va vb vc : Value} (h : Bx W b va vb vc) (hk : W'.heap[b]? = W.heap[b]?) : Bx W' b va vb vc := by
  have hc : ∀ i, W'.cell? ⟨b, i, none⟩ = W.cell? ⟨b, i, none⟩ := fun i => World.cell?_of_block (w := W) (a := ⟨b, i, none⟩) hk
  have hf : ∀ i, W'.frozen? ⟨b, i, none⟩ = W.frozen? ⟨b, i, none⟩ := fun i => World.frozen?_of_block (w := W) (a := ⟨b, i, none⟩) hk
  unfold Bx
  rw [hc, hc, hc, hf, hf, hf]
  exact h
theorem Bx.far {W W' : World} {b B : Nat} {va vb vc : Value} (h : Bx W b va vb vc) (hB : Below B W W') (hb : b < B) : Bx W' b va vb vc := h.kept (hB.block b hb)
theorem Bx.other {W : World} {b : Nat} {va vb vc : Value} (h : Bx W b va vb vc) {g i : Nat} (hg : b ≠ g) (u : Value) : Bx (W.setCell ⟨g, i, none⟩ u) b va vb vc := h.kept (Below.heap_setCell W _ u b hg)
theorem Bx.lt {W : World} {b : Nat} {va vb vc : Value} (h : Bx W b va vb vc) : b < W.heap.size := World.block_lt_of_cell? W _ h.1.1
theorem Bx.set2 {W : World} {b : Nat} {va vb vc : Value} (h : Bx W b va vb vc) (z : Value) : Bx (W.setCell ⟨b, 2, none⟩ z) b va vb z := by
  obtain ⟨⟨h0, h1, h2⟩, f0, f1, f2⟩ := h
  refine ⟨⟨?_, ?_, ?_⟩, by simp [f0], by simp [f1], by simp [f2]⟩
  · rw [World.cell?_setCell_other _ _ _ _ (by simp)]; exact h0
  · rw [World.cell?_setCell_other _ _ _ _ (by simp)]; exact h1
  · exact World.cell?_setCell_same _ _ _ h2
theorem own_far {W : World} {base : Nat} {e : TypeId} {size : Nat} {v : Value} {n : Nat} {xs : List Value} (h : W.ownsRow base e size v n xs) {p : Addr} (hp : v.ownBlock ≠ some p.block) (u : Value) : (W.setCell p u).ownsRow base e size v n xs := by
  refine ⟨h.1, ?_⟩
  rcases h.2 with hn | ⟨g, cap, cur, rfl, hg, hgg, rest⟩
  · exact .inl hn
  · exact .inr ⟨g, cap, cur, rfl, hg, (Below.heap_setCell W p u g (fun e => hp (by rw [← e]; rfl))).trans hgg, rest⟩

/-- A memory that is made: its variable in block ob, its rows of the call's own, all apart. -/
structure Out (W : World) (base ob : Nat) (v1 v2 v3 : Value) (m : Mm) : Prop where
  box : Bx W ob v1 v2 v3
  own : OwnM W base v1 v2 v3 m
  hb : base ≤ ob
  n1 : v1.ownBlock ≠ some ob
  n2 : v2.ownBlock ≠ some ob
  n3 : v3.ownBlock ≠ some ob
theorem Out.below {W W' : World} {base ob : Nat} {v1 v2 v3 : Value} {m : Mm} (h : Out W base ob v1 v2 v3 m) (hb : Below W.heap.size W W') : Out W' base ob v1 v2 v3 m := ⟨h.box.below hb, h.own.below hb, h.hb, h.n1, h.n2, h.n3⟩
/-- A copy, laid into a new variable. -/
theorem Out.made {w W : World} {base : Nat} {v1 v2 v3 : Value} {m : Mm} (h : OwnM W base v1 v2 v3 m) (hb : base ≤ W.heap.size) : Out (W.alloc (.cells #[v1, v2, v3] 43)) base W.heap.size v1 v2 v3 m := by
  refine ⟨by simp [Bx], h.below ((Below.refl _ _).alloc (Nat.le_refl _) _), hb, fun e => ?_, fun e => ?_, fun e => ?_⟩
  · have := (World.ownsRow.lt h.vol _ e).2; omega
  · have := (World.ownsRow.lt h.per _ e).2; omega
  · have := (World.ownsRow.lt h.pend _ e).2; omega
theorem Out.setVol {W : World} {base ob : Nat} {a : Option Addr} {n c : Nat} {v2 v3 : Value} {m : Mm} (h : Out W base ob (.slice a n c) v2 v3 m) {k : Nat} (hk : k < m.vol.length) :
    ∃ g, a = some ⟨g, 0, none⟩ ∧ (W.cell? ⟨g, k, none⟩ = some (.int .i64 m.vol[k]) ∧ W.frozen? ⟨g, k, none⟩ = false) ∧ ∀ y : Int, Out (W.setCell ⟨g, k, none⟩ (.int .i64 y)) base ob (.slice a n c) v2 v3 ⟨m.vol.set k y, m.per, m.pend⟩ ∧ Below base W (W.setCell ⟨g, k, none⟩ (.int .i64 y)) := by
  obtain ⟨g, rfl, hg, hlt, hcf, hset⟩ := h.own.vol.put hk
  have hne : ob ≠ g := fun e => h.n1 (by rw [e]; rfl)
  refine ⟨g, rfl, hcf, fun y => ⟨⟨h.box.other hne _, ⟨hset y, own_far h.own.per (fun e => h.own.ab g rfl e) _, own_far h.own.pend (fun e => h.own.ac g rfl e) _, h.own.ab, h.own.ac, h.own.bc⟩, h.hb, h.n1, h.n2, h.n3⟩, (Below.refl _ _).setCell (p := ⟨g, k, none⟩) hg _⟩⟩
theorem Out.setPer {W : World} {base ob : Nat} {a : Option Addr} {n c : Nat} {v1 v3 : Value} {m : Mm} (h : Out W base ob v1 (.slice a n c) v3 m) {k : Nat} (hk : k < m.per.length) :
    ∃ g, a = some ⟨g, 0, none⟩ ∧ (W.cell? ⟨g, k, none⟩ = some (.int .i64 m.per[k]) ∧ W.frozen? ⟨g, k, none⟩ = false) ∧ ∀ y : Int, Out (W.setCell ⟨g, k, none⟩ (.int .i64 y)) base ob v1 (.slice a n c) v3 ⟨m.vol, m.per.set k y, m.pend⟩ ∧ Below base W (W.setCell ⟨g, k, none⟩ (.int .i64 y)) := by
  obtain ⟨g, rfl, hg, hlt, hcf, hset⟩ := h.own.per.put hk
  have hne : ob ≠ g := fun e => h.n2 (by rw [e]; rfl)
  refine ⟨g, rfl, hcf, fun y => ⟨⟨h.box.other hne _, ⟨own_far h.own.vol (fun e => h.own.ab g e rfl) _, hset y, own_far h.own.pend (fun e => h.own.bc g rfl e) _, h.own.ab, h.own.ac, h.own.bc⟩, h.hb, h.n1, h.n2, h.n3⟩, (Below.refl _ _).setCell (p := ⟨g, k, none⟩) hg _⟩⟩
/-- The list of what is pending, cut to none. -/
theorem Out.cut {W : World} {base ob : Nat} {a : Option Addr} {n c : Nat} {v1 v2 : Value} {m : Mm} (h : Out W base ob v1 v2 (.slice a n c) m) :
    Out (W.setCell ⟨ob, 2, none⟩ (.slice a 0 c)) base ob v1 v2 (.slice a 0 c) ⟨m.vol, m.per, []⟩ ∧ Below base W (W.setCell ⟨ob, 2, none⟩ (.slice a 0 c)) := by
  have ho : (Value.slice a 0 c).ownBlock = (Value.slice a n c).ownBlock := by cases a <;> rfl
  have hp : OwnP W base (.slice a 0 c) [] := by
    refine ⟨rfl, ?_⟩
    rcases h.own.pend.2 with ⟨e, _⟩ | ⟨g, cap, cur, e, hg, hgg, hn, hm, hs, _⟩
    · cases e; exact .inl ⟨rfl, rfl⟩
    · cases e; exact .inr ⟨g, c, cur, rfl, hg, hgg, Nat.zero_le _, hm, hs, rfl⟩
  have e1 := h.n1
  have e2 := h.n2
  have e3 := h.n3
  refine ⟨⟨h.box.set2 _, ⟨own_far h.own.vol e1 _, own_far h.own.per e2 _, own_far hp (by rw [ho]; exact e3) _, h.own.ab, fun g => by rw [ho]; exact h.own.ac g, fun g => by rw [ho]; exact h.own.bc g⟩, h.hb, e1, e2, by rw [ho]; exact e3⟩, (Below.refl _ _).setCell (p := ⟨ob, 2, none⟩) h.hb _⟩
/-- One more is pending, and the new list stands in the variable. -/
theorem Out.more {W w' : World} {base ob : Nat} {v1 v2 v3 : Value} {m : Mm} {p : Pd} {g cap : Nat} (h : Out W base ob v1 v2 v3 m) (ho : OwnP w' base (.slice (some ⟨g, 0, none⟩) (m.pend.length + 1) cap) (m.pend ++ [p])) (hg : W.grownBy w' v3.ownBlock) (hat : v3.ownBlock = some g ∨ W.heap.size ≤ g) :
    Bx w' ob v1 v2 v3 ∧ Out (w'.setCell ⟨ob, 2, none⟩ (.slice (some ⟨g, 0, none⟩) (m.pend.length + 1) cap)) base ob v1 v2 (.slice (some ⟨g, 0, none⟩) (m.pend.length + 1) cap) ⟨m.vol, m.per, m.pend ++ [p]⟩ ∧ Below base W (w'.setCell ⟨ob, 2, none⟩ (.slice (some ⟨g, 0, none⟩) (m.pend.length + 1) cap)) := by
  have hlt := h.box.lt
  have hx : Bx w' ob v1 v2 v3 := h.box.kept (hg.block ob hlt (fun e => h.n3 e.symm))
  have o1 : OwnI w' base v1 m.vol := World.ownsRow.kept h.own.vol hg h.own.ac.symm.kept
  have o2 : OwnI w' base v2 m.per := World.ownsRow.kept h.own.per hg h.own.bc.symm.kept
  have hgo : g ≠ ob := by
    rintro rfl
    rcases hat with e | e
    · exact h.n3 e
    · omega
  have e3 : (Value.slice (some ⟨g, 0, none⟩) (m.pend.length + 1) cap).ownBlock ≠ some ob := fun e => hgo (by simpa [Value.ownBlock] using e)
  have ac : Apart v1 (.slice (some ⟨g, 0, none⟩) (m.pend.length + 1) cap) := by
    intro g' e1 e2
    have e2 : g = g' := by simpa [Value.ownBlock] using e2
    subst e2
    rcases hat with e | e
    · exact h.own.ac g e1 e
    · have := (World.ownsRow.lt h.own.vol g e1).2; omega
  have bc : Apart v2 (.slice (some ⟨g, 0, none⟩) (m.pend.length + 1) cap) := by
    intro g' e1 e2
    have e2 : g = g' := by simpa [Value.ownBlock] using e2
    subst e2
    rcases hat with e | e
    · exact h.own.bc g e1 e
    · have := (World.ownsRow.lt h.own.per g e1).2; omega
  refine ⟨hx, ⟨hx.set2 _, ⟨own_far o1 h.n1 _, own_far o2 h.n2 _, own_far ho e3 _, h.own.ab, ac, bc⟩, h.hb, h.n1, h.n2, e3⟩, ?_⟩
  refine ((Below.refl _ W).grown hg (Nat.le_of_lt (Nat.lt_of_le_of_lt h.hb hlt)) (fun k hk => (World.ownsRow.lt h.own.pend k hk).1)).setCell (p := ⟨ob, 2, none⟩) h.hb _
/-- One of what is pending is flushed. -/
theorem pcs_set (ps : List Pd) (k : Nat) (p : Pd) (hp : ps[k]? = some p) : (pcs ps).set (k * 3 + 2) (.bool true) = pcs (ps.set k ⟨p.a, p.v, true⟩) := by
  induction ps generalizing k with
  | nil => simp at hp
  | cons x ps ih =>
    have e : ∀ (y : Pd) (l : List Pd), pcs (y :: l) = pc1 y ++ pcs l := fun y l => by simp [pcs]
    cases k with
    | zero =>
      have : x = p := by simpa using hp
      subst this
      rw [List.set_cons_zero, e, e]
      rfl
    | succ k =>
      have hp' : ps[k]? = some p := by simpa using hp
      rw [List.set_cons_succ, e, e, ← ih k hp', List.set_append_right _ _ (by simp [pc1]; omega)]
      have : (k + 1) * 3 + 2 - (pc1 x).length = k * 3 + 2 := by simp [pc1]; omega
      rw [this]
theorem Out.flag {W : World} {base ob : Nat} {a : Option Addr} {n c : Nat} {v1 v2 : Value} {m : Mm} (h : Out W base ob v1 v2 (.slice a n c) m) {k : Nat} {p : Pd} (hp : m.pend[k]? = some p) :
    ∃ g, a = some ⟨g, 0, none⟩ ∧ (W.cell? ⟨g, k * 3 + 2, none⟩ = some (.bool p.f) ∧ W.frozen? ⟨g, k * 3 + 2, none⟩ = false) ∧ Out (W.setCell ⟨g, k * 3 + 2, none⟩ (.bool true)) base ob v1 v2 (.slice a n c) ⟨m.vol, m.per, m.pend.set k ⟨p.a, p.v, true⟩⟩ ∧ Below base W (W.setCell ⟨g, k * 3 + 2, none⟩ (.bool true)) := by
  obtain ⟨hk, hpe⟩ := List.getElem?_eq_some_iff.1 hp
  have hO := h.own.pend
  rcases h.own.pend.2 with ⟨e, h0⟩ | ⟨g, cap, cur, e, hbg, hg, _⟩
  · omega
  · cases e
    have hne : ob ≠ g := fun e => h.n3 (by rw [e]; rfl)
    have hst : OwnP (W.setCell ⟨g, k * 3 + 2, none⟩ (.bool true)) base (.slice (some ⟨g, 0, none⟩) m.pend.length c) (m.pend.set k ⟨p.a, p.v, true⟩) := by
      have := (World.ownsRow.stored hO (k * 3 + 2) (.bool true)).1
      unfold OwnP
      rw [List.length_set, ← pcs_set _ _ _ hp]
      exact this
    refine ⟨g, rfl, ⟨?_, World.ownsRow.frozenAt hO _⟩, ⟨h.box.other hne _, ⟨own_far h.own.vol (fun e => h.own.ac g e rfl) _, own_far h.own.per (fun e => h.own.bc g e rfl) _, hst, h.own.ab, h.own.ac, h.own.bc⟩, h.hb, h.n1, h.n2, h.n3⟩, (Below.refl _ _).setCell (p := ⟨g, _, none⟩) hbg _⟩
    rw [World.ownsRow.cellAt hO _ (by omega), pcs_at _ k hk 2 (by omega), hpe]
    rfl

/-- One that was just laid is appended to a row of the call's own. -/
theorem append_p1 {W w0 : World} {ops : Array Oper} {rest : List Oper} {o : Oper} {a : Act} {Q : Exit → Act → World → Prop} (hgd : o.guard = none) (s x : Operand)
    (ho : o.op = .call { callee := .builtin .append, args := #[s, x], argTypes := #[41, 41] }) (base : Nat) (v : Value) (ps : List Pd) (p : Pd)
    (hown : OwnP w0 base v ps) (hn : ps.length ≤ 2000) (hbase : base ≤ w0.heap.size)
    (hW : W = w0.alloc (.cells #[.int .i64 p.a, .int .i64 p.v, .bool p.f] 71)) (hs : a.eval s = v) (H : Nat) (hH : w0.heap.size = H) (hx : a.eval x = .slice (some ⟨H, 0, none⟩) 1 1)
    (h : ∀ g cap w', OwnP w' base (.slice (some ⟨g, 0, none⟩) (ps.length + 1) cap) (ps ++ [p]) → w0.grownBy w' v.ownBlock → (v.ownBlock = some g ∨ w0.heap.size ≤ g) → g < w'.heap.size → wpList Try.prog ops Q rest (a.put o.dst (.slice (some ⟨g, 0, none⟩) (ps.length + 1) cap)) w') :
    wpList Try.prog ops Q (o :: rest) a W := by
  obtain ⟨i0, hi, hz0, hz1, hz2⟩ := info_parts Try.info71
  subst hW
  subst hH
  refine wpList_append_lies _ hgd s x 41 ho base 71 i0 _ 3 24 Try.underlying41 hi hz0 hz1 hz2 rfl (by decide) v ps.length (pcs ps) hs (World.ownsRow.alloc hown _) ⟨w0.heap.size, 0, none⟩ 1 1 (pc1 p) hx rfl ?_ (fun u hu => by simp [pc1] at hu; rcases hu with rfl | rfl | rfl <;> rfl) (by omega) (by unfold maxLen; omega) (by omega) (by simp; omega) (w0.heap.size + 1) (by simp) ?_
  · exact World.news_of_block (heap_alloc_new w0 _)
  · intro g cap w' h1 h2 h3 h4
    refine h g cap w' ?_ ⟨h2.os, h2.tape, h2.output, ?_, fun j hj hne => (h2.block j (by simp; omega) hne).trans (Below.heap_alloc w0 _ j hj)⟩ (h3.imp id (by omega)) h4
    · unfold OwnP
      rw [List.length_append, pcs_append]
      exact h1
    · have := h2.size
      simp at this
      omega

/-- A memory of the call's own goes into the result's variable. -/
theorem finish3 {w W : World} {base b : Nat} {v1 v2 v3 u1 u2 u3 : Value} {m : Mm} (hO : OwnM W base v1 v2 v3 m) (h1 : m.vol.length ≤ 1000) (h2 : m.per.length ≤ 1000) (h3 : m.pend.length ≤ 1000) (hY : Bx W b u1 u2 u3) (hb : b < base) (hB : Below w.heap.size w W) (hw : w.heap.size ≤ b) :
    Bx (((W.setCell ⟨b, 0, none⟩ v1).setCell ⟨b, 1, none⟩ v2).setCell ⟨b, 2, none⟩ v3) b v1 v2 v3 ∧ RdM (((W.setCell ⟨b, 0, none⟩ v1).setCell ⟨b, 1, none⟩ v2).setCell ⟨b, 2, none⟩ v3) v1 v2 v3 m ∧ Below w.heap.size w (((W.setCell ⟨b, 0, none⟩ v1).setCell ⟨b, 1, none⟩ v2).setCell ⟨b, 2, none⟩ v3) :=
  ⟨hY.set3 _ _ _, (((hO.setCell (p := ⟨b, 0, none⟩) hb _).setCell (p := ⟨b, 1, none⟩) hb _).setCell (p := ⟨b, 2, none⟩) hb _).rd h1 h2 h3, ((hB.setCell (p := ⟨b, 0, none⟩) hw _).setCell (p := ⟨b, 1, none⟩) hw _).setCell (p := ⟨b, 2, none⟩) hw _⟩
theorem finish4 {w W : World} {B base b : Nat} {v1 v2 v3 u1 u2 u3 : Value} {m : Mm} (hO : OwnM W base v1 v2 v3 m) (hY : Bx W b u1 u2 u3) (hb : b < base) (hB : Below B w W) (hw : B ≤ b) :
    Bx (((W.setCell ⟨b, 0, none⟩ v1).setCell ⟨b, 1, none⟩ v2).setCell ⟨b, 2, none⟩ v3) b v1 v2 v3 ∧ OwnM (((W.setCell ⟨b, 0, none⟩ v1).setCell ⟨b, 1, none⟩ v2).setCell ⟨b, 2, none⟩ v3) base v1 v2 v3 m ∧ Below B w (((W.setCell ⟨b, 0, none⟩ v1).setCell ⟨b, 1, none⟩ v2).setCell ⟨b, 2, none⟩ v3) :=
  ⟨hY.set3 _ _ _, ((hO.setCell (p := ⟨b, 0, none⟩) hb _).setCell (p := ⟨b, 1, none⟩) hb _).setCell (p := ⟨b, 2, none⟩) hb _, ((hB.setCell (p := ⟨b, 0, none⟩) hw _).setCell (p := ⟨b, 1, none⟩) hw _).setCell (p := ⟨b, 2, none⟩) hw _⟩
end Go.Proofs.Ytbnlekheadmecaa
