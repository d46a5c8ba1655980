/- Walks of layer 4: the document's own answers: Put. -/
import Derived.Test.YthibgmndgkhfiaaWalku
import Derived.Deep.RegionHeld3
namespace Go.Proofs.Ythibgmndgkhfiaa
open Go.RowKit Go.Shelf
set_option linter.unusedVariables false

theorem hp_drew {X : World} {b : Nat} {c : Obj} (h : X.heap[b]? = some c) : X.drew.heap[b]? = some c := h
theorem hp_new {X : World} {b : Nat} {c : Obj} (h : b = X.heap.size) : (X.alloc c).heap[b]? = some c := by subst h; exact heap_alloc_new X c
theorem hp_old {X : World} {b : Nat} {o c : Obj} (h : X.heap[b]? = some c) : (X.alloc o).heap[b]? = some c := (Below.heap_alloc X o b (Array.getElem?_eq_some_iff.1 h).1).trans h
theorem hp_below {X Y : World} {b : Nat} {c : Obj} (hb : Below X.heap.size X Y) (h : X.heap[b]? = some c) : Y.heap[b]? = some c := (hb.block b (Array.getElem?_eq_some_iff.1 h).1).trans h
theorem hp_grown {X Y : World} {b : Nat} {row : Option Nat} {c : Obj} (hb : X.grownBy Y row) (hne : some b ≠ row) (h : X.heap[b]? = some c) : Y.heap[b]? = some c := (hb.block b (Array.getElem?_eq_some_iff.1 h).1 hne).trans h
theorem Below.al {a W : World} (o : Obj) (h : Below a.heap.size a W) : Below a.heap.size a (W.alloc o) := h.alloc h.size o
theorem Below.dr {a W : World} (h : Below a.heap.size a W) : Below a.heap.size a W.drew := h.drew
theorem own_grown {W W' : World} {base : Nat} {e : TypeId} {size : Nat} {v : Value} {n : Nat} {xs : List Value} {row : Option Nat} (h : W.ownsRow base e size v n xs) (hg : W.grownBy W' row) (hne : ∀ g, v.ownBlock = some g → some g ≠ row) : W'.ownsRow base e size v n xs := by
  refine ⟨h.1, ?_⟩
  rcases h.2 with hn | ⟨g, cap, cur, rfl, hb, hgg, rest⟩
  · exact .inl hn
  · exact .inr ⟨g, cap, cur, rfl, hb, hp_grown hg (hne g rfl) hgg, rest⟩
theorem hp_grown' {X Y : World} {b g : Nat} {c : Obj} (hb : X.grownBy Y (some g)) (hne : b ≠ g) (h : X.heap[b]? = some c) : Y.heap[b]? = some c := hp_grown hb (by simp; exact hne) h
theorem own_grown' {W W' : World} {base : Nat} {e : TypeId} {size : Nat} {ga l c : Nat} {n : Nat} {xs : List Value} {g : Nat} (h : W.ownsRow base e size (.slice (some ⟨ga, 0, none⟩) l c) n xs) (hg : W.grownBy W' (some g)) (hne : ga ≠ g) : W'.ownsRow base e size (.slice (some ⟨ga, 0, none⟩) l c) n xs := own_grown h hg (by intro k hk; cases hk; simp; exact hne)
theorem Below.gr {a W W' : World} {g : Nat} (h : Below a.heap.size a W) (hg : W.grownBy W' (some g)) (hr : a.heap.size ≤ g) : Below a.heap.size a W' := h.grown hg h.size (by intro k hk; cases hk; exact hr)
theorem own_empty {W : World} {b : Nat} (h : W.heap[b]? = some (.cells #[] 55)) : OwnP W b (.slice (some ⟨b, 0, none⟩) 0 0) [] := by
  refine ⟨rfl, .inr ⟨b, 0, #[], rfl, Nat.le_refl _, h, Nat.le_refl _, by simp, by simp, rfl⟩⟩

/-- All that is pending is appended to a row that is bare, in a region that draws. -/
theorem step_pend {ops : Array Oper} {o : Oper} {a : Act} {W : World} {K : Act → World → Prop} {Q : Exit → Act → World → Prop} {E : Prop} (hgd : o.guard = none) (s x : Operand)
    (ho : o.op = .call { callee := .builtin .append, args := #[s, x], argTypes := #[23, 23] }) (b : Nat) (vx : Value) (ps : List Pd) (hs : a.eval s = .slice (some ⟨b, 0, none⟩) 0 0) (hx : a.eval x = vx) (hE : W.heap[b]? = some (.cells #[] 55)) (hR : RdP W vx ps)
    (h : ∀ g cap w', OwnP w' b (.slice (some ⟨g, 0, none⟩) ps.length cap) ps → W.grownBy w' (some b) → (g = b ∨ g = W.heap.size) → K (a.put o.dst (.slice (some ⟨g, 0, none⟩) ps.length cap)) w') :
    if Region.wanted o (yielded ops a.tmps) = true then Oper.wp Try.prog o a W K Q else E := by
  obtain ⟨i0, hi, hz0, hz1, hz2⟩ := info_parts Try.info55
  have hown := own_empty hE
  have hlt : b < W.heap.size := (Array.getElem?_eq_some_iff.1 hE).1
  obtain ⟨hl, hk, ad, cap, rfl, h3⟩ := hR
  have hw : Region.wanted o (yielded ops a.tmps) = true := by simp [Region.wanted, hgd]
  have hbare : ps = [] → (W.cell? ⟨b, 0, none⟩).isSome = false ∨ True := fun _ => .inr trivial
  by_cases h0 : ps.length = 0
  · have : ps = [] := List.eq_nil_of_length_eq_zero h0
    subst this
    cases ad with
    | none =>
      have hc0 : cap = 0 := by
        rcases h3 with ⟨_, h⟩ | ⟨b', off, e, _⟩
        · exact h rfl
        · cases e
      subst hc0
      rw [if_pos hw]
      have hrun := run_append_owned_none (P := Try.prog) (w := W) b 23 o.type 55 i0 3 Try.underlying23 hi _ 0 _ hown
      unfold Oper.wp
      simp [execOp, ho, resolve, invoke, builtin, hs, hx, hrun, Result.andThen]
      exact h b 0 W hown (World.grownBy.refl W _) (.inl rfl)
    | some p =>
      refine step_append_room hgd s x 23 ho 55 i0 3 Try.underlying23 hi hz1 b 0 0 0 hs p 0 cap [] hx (by simp) (by intro j u hu; simp at hu) (by simp) (by omega) (by intro j hj; simp at hj) ?_
      exact h b 0 W hown (World.grownBy.refl W _) (.inl rfl)
  · rcases h3 with ⟨h4, _⟩ | ⟨b', off, rfl, hlt', hc⟩
    · exact absurd h4 h0
    · refine step_append_lies _ hgd s x 23 ho b 55 i0 _ 3 24 Try.underlying23 hi hz0 hz1 hz2 rfl (by decide) _ 0 [] hs hown ⟨b', off, none⟩ ps.length cap (pcs ps) hx hl (by intro j u hu; rw [Addr.add_lit]; exact hc j u hu) (pcs_one ps) (by omega) (by unfold maxLen; omega) (by omega) (by omega) W.heap.size rfl ?_
      intro g cap' w' h1 h2 h3 h4
      rw [Nat.zero_add] at h1 ⊢
      exact h g cap' w' h1 h2 (h3.imp (fun e => by simpa [Value.ownBlock] using e.symm) id)
/-- One that lies in a block of its own is appended, in a region that draws. -/
theorem step_lit {ops : Array Oper} {o : Oper} {a : Act} {W : World} {K : Act → World → Prop} {Q : Exit → Act → World → Prop} {E : Prop} (hgd : o.guard = none) (s x : Operand)
    (ho : o.op = .call { callee := .builtin .append, args := #[s, x], argTypes := #[23, 23] }) (base g c b : Nat) (ps : List Pd) (p : Pd) (hs : a.eval s = .slice (some ⟨g, 0, none⟩) ps.length c) (hx : a.eval x = .slice (some ⟨b, 0, none⟩) 1 1) (hown : OwnP W base (.slice (some ⟨g, 0, none⟩) ps.length c) ps) (hn : ps.length ≤ 2000) (hL : W.heap[b]? = some (.cells #[.int .i64 p.a, .int .i64 p.v, .bool p.f] 55))
    (h : ∀ g' cap w', OwnP w' base (.slice (some ⟨g', 0, none⟩) (ps.length + 1) cap) (ps ++ [p]) → W.grownBy w' (some g) → K (a.put o.dst (.slice (some ⟨g', 0, none⟩) (ps.length + 1) cap)) w') :
    if Region.wanted o (yielded ops a.tmps) = true then Oper.wp Try.prog o a W K Q else E := by
  obtain ⟨i0, hi, hz0, hz1, hz2⟩ := info_parts Try.info55
  have hlt := World.ownsRow.lt hown g rfl
  refine step_append_lies _ hgd s x 23 ho base 55 i0 _ 3 24 Try.underlying23 hi hz0 hz1 hz2 rfl (by decide) _ ps.length (pcs ps) hs hown ⟨b, 0, none⟩ 1 1 (pc1 p) hx rfl (World.news_of_block hL) (fun u hu => by simp [pc1] at hu; rcases hu with rfl | rfl | rfl <;> rfl) (by omega) (by unfold maxLen; omega) (by omega) (by omega) W.heap.size rfl ?_
  intro g' cap w' h1 h2 h3 h4
  refine h g' cap w' ?_ h2
  unfold OwnP
  rw [List.length_append, pcs_append]
  exact h1
end Go.Proofs.Ythibgmndgkhfiaa
