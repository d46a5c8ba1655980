/- Layer 12: pairs that come in, as they are read. -/
import Derived.Test.YtcgclhahonndbaaPog
import Derived.Deep.SlicePairs
namespace Go.Proofs.Ytcgclhahonndbaa
open Go.RowKit Go.ChangeShapes Go.WideShapes
set_option linter.unusedVariables false

def PIn (W : World) (a : Option Addr) (n c : Nat) : Prop := ∃ l, InP W a n c l
section
variable {H : Type} {enc : TypeId × Value → H} {W : World} {base : Nat} {held : Bool}
theorem pairs_of_trod {fuel : Nat} {v : Value} {x : DataW H × List MemPlace} (h : DataW.trod enc Try.prog W base (fun _ => true) held fuel 24 [v] = some x) : ∃ a len cap, v = .slice a len cap ∧ PIn W a len cap := by
  rcases Go.Deep.open_slice_pairs Try.underlying24 Try.underlying35 (by kernel_rfl) rfl rfl (by kernel_rfl) (by kernel_rfl) h with ⟨hcs, _⟩ | ⟨a, len, cap, m, n, V0, V1, D0, D1, P0, P1, hcs, hb, hl, hm, hmm, _, hx⟩
  · cases hcs
    exact ⟨none, 0, 0, rfl, [], rfl, Nat.le_refl _, by unfold maxLen; omega, .inl ⟨rfl, fun _ => rfl⟩⟩
  · cases hcs
    have hm' : m = cap := by simpa using hmm
    subst hm'
    have each : ∀ i, i < m → ∃ p : Pa, W.cell? (a.add (i * 2)) = some (.string p.k) ∧ W.cell? (a.add (i * 2 + 1)) = some (.string p.v) := by
      intro i hi
      obtain ⟨g0, g1, g2, g3⟩ := hx i hi
      obtain ⟨s0, q0, _⟩ := DataW.trod_string Try.underlying9 (show DataW.trod enc Try.prog W base (fun _ => true) held n 9 [V0 i] = some (D0 i, P0 i) from g2)
      obtain ⟨s1, q1, _⟩ := DataW.trod_string Try.underlying9 (show DataW.trod enc Try.prog W base (fun _ => true) held n 9 [V1 i] = some (D1 i, P1 i) from g3)
      rw [List.cons.inj q0 |>.1] at g0
      rw [List.cons.inj q1 |>.1] at g1
      exact ⟨⟨s0, s1⟩, g0, g1⟩
    have hinh : Inhabited Pa := ⟨⟨⟨#[]⟩, ⟨#[]⟩⟩⟩
    obtain ⟨q, hq⟩ := Go.Deep.choose_lt each
    refine ⟨some a, len, m, rfl, (List.range len).map q, by simp, hl, hm, ?_⟩
    by_cases h0 : len = 0
    · exact .inl ⟨h0, fun h => by cases h⟩
    · right
      have hc0 := (hq 0 (by omega)).1
      have hs := cell_spot hc0
      have ha0 : a.add (0 * 2) = a := rfl
      rw [ha0] at hs hc0
      refine ⟨a.block, a.off, by rw [← hs], World.block_lt_of_cell? W _ hc0, ?_⟩
      intro k p hp
      have hk : k < len := by have := (List.getElem?_eq_some_iff.1 hp).1; simpa using this
      rw [List.getElem?_map, List.getElem?_range hk] at hp
      cases hp
      obtain ⟨c0, c1⟩ := hq k (by omega)
      rw [hs, Addr.add_lit] at c0 c1
      exact ⟨c0, c1⟩
end
/-- What the law's own test of its arguments tells. -/
theorem InP.short {W : World} {a : Option Addr} {n c : Nat} {l : List Pa} (h : InP W a n c l) (hs : shP l 200 = true) : l.length = n ∧ n ≤ 200 := by
  have := (shP_yes hs).1
  have := h.1
  omega
end Go.Proofs.Ytcgclhahonndbaa
