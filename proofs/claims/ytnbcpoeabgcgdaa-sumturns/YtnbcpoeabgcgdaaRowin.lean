/- A slice of ints that came in, as it is read. -/
import Derived.Test.YtnbcpoeabgcgdaaWalkd
namespace Go.Proofs.Ytnbcpoeabgcgdaa
open Go.RowKit

/-- What the opening of an argument tells of a slice of ints: its cells, the spare ones too. -/
def IsRow (k : IntKind) (W : World) (a : Option Addr) (len cap : Nat) (zs : List Int) : Prop :=
  (a = none ∧ len = 0 ∧ cap = 0 ∧ zs = []) ∨ ∃ x : Addr, a = some x ∧ len ≤ cap ∧ cap ≤ maxLen ∧ zs.length = cap ∧ (∀ i, i < zs.length → W.cell? (x.add i) = some (.int k (zs.getD i 0))) ∧ (∀ n ∈ zs, (Lit.int k n).wf = true)
theorem IsRow.len {k : IntKind} {W : World} {a : Option Addr} {len cap : Nat} {zs : List Int} (h : IsRow k W a len cap zs) : (zs.take len).length = len := by
  rcases h with ⟨_, rfl, _, rfl⟩ | ⟨x, _, h1, _, h2, _⟩
  · rfl
  · rw [List.length_take]; omega
theorem IsRow.small {k : IntKind} {W : World} {a : Option Addr} {len cap : Nat} {zs : List Int} (h : IsRow k W a len cap zs) : len ≤ 9223372036854775807 := by
  rcases h with ⟨_, rfl, _, _⟩ | ⟨x, _, h1, h2, _⟩
  · omega
  · unfold maxLen at h2; omega
theorem wf_i64 {z : Int} (h : (Lit.int .i64 z).wf = true) : -9223372036854775808 ≤ z ∧ z < 9223372036854775808 := by
  simp [Lit.wf, IntKind.min, IntKind.max, IntKind.bits, IntKind.signed] at h
  omega
theorem cell_spot {W : World} {x : Addr} {v : Value} (h : W.cell? x = some v) : x = ⟨x.block, x.off, none⟩ := by
  obtain ⟨b, o, sp⟩ := x
  cases sp with
  | none => rfl
  | some p =>
    simp only [World.cell?] at h
    split at h
    · simp at h
    · cases h
theorem Rd.of_row {W : World} {a : Option Addr} {len cap : Nat} {zs : List Int} (h : IsRow .i64 W a len cap zs) (hl : len ≤ 1000) : Rd W (.slice a len cap) (zs.take len) := by
  have hlen := h.len
  rcases h with ⟨rfl, rfl, rfl, rfl⟩ | ⟨x, rfl, h1, h2, h3, h4, h5⟩
  · exact ⟨by intro z hz; simp at hz, by simp, none, 0, rfl, .inl ⟨rfl, fun _ => rfl⟩⟩
  · refine ⟨fun z hz => wf_i64 (h5 z (List.mem_of_mem_take hz)), by omega, some x, cap, by rw [hlen], ?_⟩
    by_cases h0 : len = 0
    · exact .inl ⟨by subst h0; simp, fun h => by cases h⟩
    · right
      have hx := cell_spot (h4 0 (by omega))
      have hx0 : x.add 0 = x := rfl
      rw [hx0] at hx
      have hlt := World.block_lt_of_cell? W _ (h4 0 (by omega))
      rw [hx0] at hlt
      refine ⟨x.block, x.off, by rw [← hx], hlt, ?_⟩
      intro j hj
      have := h4 j (by omega)
      rw [hx, Addr.add_lit] at this
      rw [this]
      congr 2
      rw [List.getElem?_take, if_pos (by omega)]
      simp [List.getD]
end Go.Proofs.Ytnbcpoeabgcgdaa
