/- Set over from a lower layer: Arf. -/
import Derived.Test.YtcgclhahonndbaaArd
import Derived.Test.YtcgclhahonndbaaSSupe
namespace Go.Proofs.Ytcgclhahonndbaa
open Go.RowKit Go.Shelf
set_option linter.unusedVariables false
/-- Leaves in a row: of each its block, and the slice of its slots. -/
def lfC (zs : List Int) (p : Int × Value) : List Value := [.int .i64 (rnN zs p.1).lv, .int .i64 (rnN zs p.1).tu, .int .i64 (rnN zs p.1).nx, .int .i64 (rnN zs p.1).lo, p.2, .int .i64 p.1]
structure Lv (zs : List Int) (W : World) (base : Nat) (v : Value) (P : List (Int × Value)) : Prop where
  own : W.ownsRow base 60 6 v P.length (P.flatMap (lfC zs))
  rd : ∀ p ∈ P, OwnI W base p.2 (rnN zs p.1).sl
theorem Lv.below {zs : List Int} {W W' : World} {base : Nat} {v : Value} {P : List (Int × Value)} (h : Lv zs W base v P) (hb : Below W.heap.size W W') : Lv zs W' base v P := ⟨own_below h.own hb, fun p hp => (h.rd p hp).below hb⟩
theorem Lv.tn {zs : List Int} {W W' : World} {base b c : Nat} {v : Value} {P : List (Int × Value)} (h : Lv zs W base v P) (ht : Tn b c W W') (hb : Ma W b) (hc : Ma W c) : Lv zs W' base v P := ⟨own_tn h.own ht hb hc, fun p hp => own_tn (h.rd p hp) ht hb hc⟩
/-- What is in no row of that kind stays while such a row grows. -/
theorem own_ne {W W' : World} {base : Nat} {e : TypeId} {size : Nat} {v : Value} {n : Nat} {xs : List Value} (h : W.ownsRow base e size v n xs) (hg : W.grownBy W' v.ownBlock) {k : Nat} {o : Obj} (ho : W.heap[k]? = some o) (hne : ∀ cs f, o ≠ .cells cs e f) : W'.heap[k]? = some o := by
  refine (hg.block k (Array.getElem?_eq_some_iff.1 ho).1 ?_).trans ho
  rcases h.2 with ⟨rfl, _⟩ | ⟨g, cap, cur, rfl, _, hc, _⟩
  · simp [Value.ownBlock]
  · intro e2
    have : k = g := by simpa [Value.ownBlock] using e2
    subst this
    rw [hc] at ho
    cases ho
    exact hne _ _ rfl
theorem own_grown {W W' : World} {base base' : Nat} {e e' : TypeId} {size size' : Nat} {v v' : Value} {n n' : Nat} {xs xs' : List Value} (h : W.ownsRow base e size v n xs) (hg : W.grownBy W' v.ownBlock) (h' : W.ownsRow base' e' size' v' n' xs') (hne : e' ≠ e) : W'.ownsRow base' e' size' v' n' xs' := by
  refine ⟨h'.1, ?_⟩
  rcases h'.2 with h2 | ⟨g, cap, cur, e1, h2, h3, rest⟩
  · exact .inl h2
  · exact .inr ⟨g, cap, cur, e1, h2, own_ne h hg h3 (fun cs f e => hne (by cases e; rfl)), rest⟩
theorem Try.info60 : (Try.prog.info? 60).map (fun i => (i.zero, i.size, i.bytes)) = some (some (.agg #[.int .i64 0, .int .i64 0, .int .i64 0, .int .i64 0, .slice none 0 0, .int .i64 0]), 6, 64) := by kernel_rfl
theorem lfC_one (zs : List Int) (b : Int) (v : Value) (hv : v.oneCell' = true) : ∀ u ∈ lfC zs (b, v), u.oneCell' = true := by
  intro u hu
  simp only [lfC, List.mem_cons, List.not_mem_nil, or_false] at hu
  rcases hu with rfl | rfl | rfl | rfl | rfl | rfl <;> first | rfl | exact hv
theorem OwnI.one {W : World} {base : Nat} {v : Value} {zs : List Int} (h : OwnI W base v zs) : v.oneCell' = true := by
  obtain ⟨a, c, rfl⟩ := h.form
  rfl
/-- A new leaf in a block of its own, as it is appended. -/
theorem leaf_new (W : World) (zs : List Int) (b : Int) (v : Value) : RdC (W.alloc (.cells #[.int .i64 (rnN zs b).lv, .int .i64 (rnN zs b).tu, .int .i64 (rnN zs b).nx, .int .i64 (rnN zs b).lo, v, .int .i64 b] 60)) 6 (.slice (some ⟨W.heap.size, 0, none⟩) 1 1) 1 (lfC zs (b, v)) := by
  refine ⟨rfl, by omega, _, _, rfl, Nat.le_refl _, .inr ⟨_, _, rfl, by simp, fun j u hj => ?_⟩⟩
  match j, hj with
  | 0, h => cases h; simp
  | 1, h => cases h; simp
  | 2, h => cases h; simp
  | 3, h => cases h; simp
  | 4, h => cases h; simp
  | 5, h => cases h; simp
  | j + 6, h => simp [lfC] at h
/-- All that the loop knows. -/
theorem lv_len {zs : List Int} {L : List Int} (hB : rdB zs = true) (hn : L.Nodup) (h : ∀ b ∈ L, rnE zs b = 0) : L.length ≤ 256 := by
  have h1 : mbB (nbI zs) (rtI zs) = true := by
    unfold rdB at hB
    simp only [Bool.and_eq_true] at hB
    exact hB.1
  have h2 := (mbB_iff.1 h1).2.1
  refine nodup_len 256 L hn (fun b hb => ?_)
  have h3 := rnK_iff.1 (rn_may (h b hb)).1
  unfold nbI at h2
  omega
end Go.Proofs.Ytcgclhahonndbaa
