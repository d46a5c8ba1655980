/- Walks of layer 7: rows that grow in a region that draws its order. -/
import Derived.Test.YtmhojhpfkieioaaRecn
import Derived.Deep.AppendLies
import Derived.Deep.DeepCutAuto
namespace Go.Proofs.Ytmhojhpfkieioaa
open Go.RowKit Go.Shelf Classical
set_option linter.unusedVariables false

theorem hp_drew {X : World} {b : Nat} {c : Obj} (h : X.heap[b]? = some c) : X.drew.heap[b]? = some c := h
theorem hp_new {X : World} {b : Nat} {c : Obj} (h : b = X.heap.size) : (X.alloc c).heap[b]? = some c := by subst h; exact heap_alloc_new X c
theorem hp_old {X : World} {b : Nat} {o c : Obj} (h : X.heap[b]? = some c) : (X.alloc o).heap[b]? = some c := (Below.heap_alloc X o b (Array.getElem?_eq_some_iff.1 h).1).trans h
theorem hp_below {X Y : World} {b : Nat} {c : Obj} (hb : Below X.heap.size X Y) (h : X.heap[b]? = some c) : Y.heap[b]? = some c := (hb.block b (Array.getElem?_eq_some_iff.1 h).1).trans h
theorem hp_grown {X Y : World} {b : Nat} {row : Option Nat} {c : Obj} (hb : X.grownBy Y row) (hne : some b ≠ row) (h : X.heap[b]? = some c) : Y.heap[b]? = some c := (hb.block b (Array.getElem?_eq_some_iff.1 h).1 hne).trans h
theorem Below.al {a W : World} (o : Obj) (h : Below a.heap.size a W) : Below a.heap.size a (W.alloc o) := h.alloc h.size o
theorem Below.dr {a W : World} (h : Below a.heap.size a W) : Below a.heap.size a W.drew := h.drew
theorem own_grown {W W' : World} {base : Nat} {e : TypeId} {size : Nat} {v : Value} {n : Nat} {xs : List Value} {row : Option Nat} (h : W.ownsRow base e size v n xs) (hg : W.grownBy W' row) (hne : ∀ g, v.ownBlock = some g → some g ≠ row) : W'.ownsRow base e size v n xs := by
  refine ⟨h.1, ?_⟩
  rcases h.2 with hn | ⟨g, cap, cur, rfl, hb, hgg, rest⟩
  · exact .inl hn
  · exact .inr ⟨g, cap, cur, rfl, hb, hp_grown hg (hne g rfl) hgg, rest⟩
theorem hp_grown' {X Y : World} {b g : Nat} {c : Obj} (hb : X.grownBy Y (some g)) (hne : b ≠ g) (h : X.heap[b]? = some c) : Y.heap[b]? = some c := hp_grown hb (by simp; exact hne) h
theorem own_grown' {W W' : World} {base : Nat} {e : TypeId} {size : Nat} {ga l c : Nat} {n : Nat} {xs : List Value} {g : Nat} (h : W.ownsRow base e size (.slice (some ⟨ga, 0, none⟩) l c) n xs) (hg : W.grownBy W' (some g)) (hne : ga ≠ g) : W'.ownsRow base e size (.slice (some ⟨ga, 0, none⟩) l c) n xs := own_grown h hg (by intro k hk; cases hk; simp; exact hne)
theorem Below.gr {a W W' : World} {g : Nat} (h : Below a.heap.size a W) (hg : W.grownBy W' (some g)) (hr : a.heap.size ≤ g) : Below a.heap.size a W' := h.grown hg h.size (by intro k hk; cases hk; exact hr)
theorem own_mtS {W : World} {b : Nat} (h : W.heap[b]? = some (.cells #[] 52)) : OwnS W b (.slice (some ⟨b, 0, none⟩) 0 0) [] := by
  refine ⟨rfl, .inr ⟨b, 0, #[], rfl, Nat.le_refl _, h, Nat.le_refl _, by simp, by simp, rfl⟩⟩
/-- Steps that came in are appended to own ones, in a region that draws. -/
theorem step_rds1 {ops : Array Oper} {o : Oper} {a : Act} {W : World} {K : Act → World → Prop} {Q : Exit → Act → World → Prop} {E : Prop} (hgd : o.guard = none) (s x : Operand)
    (ho : o.op = .call { callee := .builtin .append, args := #[s, x], argTypes := #[31, 31] }) (base g c : Nat) (l1 : List Mi) (hs : a.eval s = .slice (some ⟨g, 0, none⟩) l1.length c) (hown : OwnS W base (.slice (some ⟨g, 0, none⟩) l1.length c) l1) (hn : l1.length ≤ 2000) (vx : Value) (l2 : List Mi) (hx : a.eval x = vx) (hR : RdS W vx l2)
    (h : ∀ g' cap w', OwnS w' base (.slice (some ⟨g', 0, none⟩) (l1.length + l2.length) cap) (l1 ++ l2) → W.grownBy w' (some g) → K (a.put o.dst (.slice (some ⟨g', 0, none⟩) (l1.length + l2.length) cap)) w') :
    if Region.wanted o (yielded ops a.tmps) = true then Oper.wp Try.prog o a W K Q else E := by
  obtain ⟨i0, hi, hz0, hz1, hz2⟩ := info_parts Try.info52
  have hlt := (World.ownsRow.lt hown g rfl)
  obtain ⟨hl, hk, ad, cap, rfl, -, h3⟩ := hR
  have hw : Region.wanted o (yielded ops a.tmps) = true := by simp [Region.wanted, hgd]
  by_cases h0 : l2.length = 0
  · have : l2 = [] := List.eq_nil_of_length_eq_zero h0
    subst this
    have hown' : OwnS W base (.slice (some ⟨g, 0, none⟩) (l1.length + ([] : List Mi).length) c) (l1 ++ []) := by rw [List.append_nil]; exact hown
    cases ad with
    | none =>
      have hc0 : cap = 0 := by
        rcases h3 with ⟨_, h⟩ | ⟨b', off, e, _⟩
        · exact h rfl
        · cases e
      subst hc0
      rw [if_pos hw]
      have hrun := run_append_owned_none (P := Try.prog) (w := W) base 31 o.type 52 i0 3 Try.underlying31 hi _ _ _ hown
      unfold Oper.wp
      have hx' : a.eval x = .slice none 0 0 := hx
      simp [execOp, ho, resolve, invoke, builtin, hs, hx', hrun, Result.andThen]
      exact h g c W hown' (World.grownBy.refl W _)
    | some p =>
      have hroom : l1.length + 0 ≤ c := by
        rcases hown.2 with ⟨e, _⟩ | ⟨g', cap', cur, e, _, _, hnc, _⟩
        · cases e
        · cases e; exact hnc
      refine step_append_room hgd s x 31 ho 52 i0 3 Try.underlying31 hi hz1 g 0 l1.length c hs p 0 cap [] hx (by simp) (by intro j u hu; simp at hu) (by simp) hroom (by intro j hj; simp at hj) ?_
      exact h g c W hown' (World.grownBy.refl W _)
  · rcases h3 with ⟨h4, _⟩ | ⟨b', off, rfl, hlt', hc⟩
    · exact absurd h4 h0
    · refine step_append_lies _ hgd s x 31 ho base 52 i0 _ 3 24 Try.underlying31 hi hz0 hz1 hz2 rfl (by decide) _ l1.length (mcs l1) hs hown ⟨b', off, none⟩ l2.length cap (mcs l2) hx hl (by intro j u hu; rw [Addr.add_lit]; exact hc j u hu) (mcs_one l2) (by omega) (by unfold maxLen; omega) (by omega) (by omega) W.heap.size rfl ?_
      intro g' cap' w' r1 r2 r3 r4
      refine h g' cap' w' ?_ r2
      unfold OwnS
      rw [List.length_append, mcs_append]
      exact r1
theorem step_rds0 {ops : Array Oper} {o : Oper} {a : Act} {W : World} {K : Act → World → Prop} {Q : Exit → Act → World → Prop} {E : Prop} (hgd : o.guard = none) (s x : Operand)
    (ho : o.op = .call { callee := .builtin .append, args := #[s, x], argTypes := #[31, 31] }) (b : Nat) (vx : Value) (l : List Mi) (hs : a.eval s = .slice (some ⟨b, 0, none⟩) 0 0) (hx : a.eval x = vx) (hE : W.heap[b]? = some (.cells #[] 52)) (hR : RdS W vx l)
    (h : ∀ g cap w', OwnS w' b (.slice (some ⟨g, 0, none⟩) l.length cap) l → W.grownBy w' (some b) → (g = b ∨ g = W.heap.size) → K (a.put o.dst (.slice (some ⟨g, 0, none⟩) l.length cap)) w') :
    if Region.wanted o (yielded ops a.tmps) = true then Oper.wp Try.prog o a W K Q else E := by
  obtain ⟨i0, hi, hz0, hz1, hz2⟩ := info_parts Try.info52
  have hown := own_mtS hE
  have hlt : b < W.heap.size := (Array.getElem?_eq_some_iff.1 hE).1
  obtain ⟨hl, hk, ad, cap, rfl, -, h3⟩ := hR
  have hw : Region.wanted o (yielded ops a.tmps) = true := by simp [Region.wanted, hgd]
  by_cases h0 : l.length = 0
  · have : l = [] := List.eq_nil_of_length_eq_zero h0
    subst this
    cases ad with
    | none =>
      have hc0 : cap = 0 := by
        rcases h3 with ⟨_, h⟩ | ⟨b', off, e, _⟩
        · exact h rfl
        · cases e
      subst hc0
      rw [if_pos hw]
      have hrun := run_append_owned_none (P := Try.prog) (w := W) b 31 o.type 52 i0 3 Try.underlying31 hi _ 0 _ hown
      unfold Oper.wp
      have hx' : a.eval x = .slice none 0 0 := hx
      simp [execOp, ho, resolve, invoke, builtin, hs, hx', hrun, Result.andThen]
      exact h b 0 W hown (World.grownBy.refl W _) (.inl rfl)
    | some p =>
      refine step_append_room hgd s x 31 ho 52 i0 3 Try.underlying31 hi hz1 b 0 0 0 hs p 0 cap [] hx (by simp) (by intro j u hu; simp at hu) (by simp) (by omega) (by intro j hj; simp at hj) ?_
      exact h b 0 W hown (World.grownBy.refl W _) (.inl rfl)
  · rcases h3 with ⟨h4, _⟩ | ⟨b', off, rfl, hlt', hc⟩
    · exact absurd h4 h0
    · refine step_append_lies _ hgd s x 31 ho b 52 i0 _ 3 24 Try.underlying31 hi hz0 hz1 hz2 rfl (by decide) _ 0 [] hs hown ⟨b', off, none⟩ l.length cap (mcs l) hx hl (by intro j u hu; rw [Addr.add_lit]; exact hc j u hu) (mcs_one l) (by omega) (by unfold maxLen; omega) (by omega) (by omega) W.heap.size rfl ?_
      intro g cap' w' r1 r2 r3 r4
      rw [Nat.zero_add] at r1 ⊢
      exact h g cap' w' r1 r2 (r3.imp (fun e => by simpa [Value.ownBlock] using e.symm) id)
/-- One that lies in a block of its own is appended, in a region that draws. -/
theorem keep9 {W : World} {b c : Nat} {u1 u2 u3 : Value} (hX : Bo W b u1 u2 u3) (hbc : b ≠ c) (p q r : Value) :
    (((W.setCell ⟨c, 0, none⟩ p).setCell ⟨c, 1, none⟩ q).setCell ⟨c, 2, none⟩ r).cell? ⟨b, 0, none⟩ = some u1 ∧ (((W.setCell ⟨c, 0, none⟩ p).setCell ⟨c, 1, none⟩ q).setCell ⟨c, 2, none⟩ r).cell? ⟨b, 1, none⟩ = some u2 ∧ (((W.setCell ⟨c, 0, none⟩ p).setCell ⟨c, 1, none⟩ q).setCell ⟨c, 2, none⟩ r).cell? ⟨b, 2, none⟩ = some u3 := (hX.other hbc p q r).bx.1
theorem ne1 {n g : Nat} (h : g = n + 1 ∨ g = n + 2) : n ≠ g := by omega
theorem ne2 {n g : Nat} (h : g = n ∨ g = n + 2) : n + 1 ≠ g := by omega
theorem bo_first (X : World) (o : Obj) : Bo ((X.alloc (.cells #[.slice none 0 0, .slice none 0 0, .slice none 0 0] 40)).alloc o) X.heap.size (.slice none 0 0) (.slice none 0 0) (.slice none 0 0) := (Bo.new X _ _ _).below ((Below.refl _ _).alloc (Nat.le_refl _) _)
theorem bo_second (X : World) (o : Obj) : Bo ((X.alloc o).alloc (.cells #[.slice none 0 0, .slice none 0 0, .slice none 0 0] 40)) (X.heap.size + 1) (.slice none 0 0) (.slice none 0 0) (.slice none 0 0) := by
  have := Bo.new (X.alloc o) (.slice none 0 0) (.slice none 0 0) (.slice none 0 0)
  simpa using this
end Go.Proofs.Ytmhojhpfkieioaa
