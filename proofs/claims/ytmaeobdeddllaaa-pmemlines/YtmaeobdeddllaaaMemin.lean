/- A memory that comes in, as it is read. -/
import Derived.Test.YtmaeobdeddllaaaLawa
import Derived.Deep.Strs
import Derived.Deep.Slices
namespace Go.Proofs.Ytmaeobdeddllaaa
open Go.RowKit Go.ChangeShapes Go.WideShapes
set_option linter.unusedVariables false

theorem wf_i64 {z : Int} (h : (Lit.int .i64 z).wf = true) : -9223372036854775808 ≤ z ∧ z < 9223372036854775808 := by
  simp [Lit.wf, IntKind.min, IntKind.max, IntKind.bits, IntKind.signed] at h
  omega
theorem cell_spot {W : World} {x : Addr} {v : Value} (h : W.cell? x = some v) : x = ⟨x.block, x.off, none⟩ := by
  obtain ⟨b, o, sp⟩ := x
  cases sp with
  | none => rfl
  | some p =>
    simp only [World.cell?] at h
    split at h
    · simp at h
    · cases h
/-- What the opening of an argument tells of a slice of ints: its cells, the spare ones too. -/
def IsRow (k : IntKind) (W : World) (a : Option Addr) (len cap : Nat) (zs : List Int) : Prop :=
  (a = none ∧ len = 0 ∧ cap = 0 ∧ zs = []) ∨ ∃ x : Addr, a = some x ∧ len ≤ cap ∧ cap ≤ maxLen ∧ zs.length = cap ∧ (∀ i, i < zs.length → W.cell? (x.add i) = some (.int k (zs.getD i 0))) ∧ (∀ n ∈ zs, (Lit.int k n).wf = true)
theorem KeepIn.of_row {W : World} {a : Option Addr} {len cap : Nat} {zs : List Int} (h : IsRow .i64 W a len cap zs) : KeepIn W a len cap := by
  intro hl
  rcases h with ⟨rfl, rfl, rfl, rfl⟩ | ⟨x, rfl, h1, h2, h3, h4, h5⟩
  · exact ⟨[], rfl, Rd.bare _, fun x hx => by cases hx⟩
  · have hlen : (zs.take len).length = len := by rw [List.length_take]; omega
    refine ⟨zs.take len, hlen, ⟨by simp, by omega, some x, cap, by rw [hlen], ?_⟩, fun z hz => wf_i64 (h5 z (List.mem_of_mem_take hz))⟩
    by_cases h0 : len = 0
    · exact .inl ⟨by omega, fun h => by cases h⟩
    · right
      have hx := cell_spot (h4 0 (by omega))
      have hx0 : x.add 0 = x := rfl
      rw [hx0] at hx
      have hlt := World.block_lt_of_cell? W _ (h4 0 (by omega))
      rw [hx0] at hlt
      refine ⟨x.block, x.off, by rw [← hx], hlt, ?_⟩
      intro j u hj
      rw [List.getElem?_map] at hj
      obtain ⟨z, hz, rfl⟩ := Option.map_eq_some_iff.1 hj
      have hj' : j < len := by have := (List.getElem?_eq_some_iff.1 hz).1; omega
      have := h4 j (by omega)
      rw [hx, Addr.add_lit] at this
      rw [this]
      rw [List.getElem?_take, if_pos hj'] at hz
      simp [List.getD, hz]
section
variable {H : Type} {enc : TypeId × Value → H} {W : World} {base : Nat} {held : Bool}
theorem row_of_trod {fuel : Nat} {v : Value} {x : DataW H × List MemPlace} (h : DataW.trod enc Try.prog W base (fun _ => true) held fuel 22 [v] = some x) : ∃ a len cap, v = .slice a len cap ∧ KeepIn W a len cap := by
  rcases open_ints Try.underlying22 Try.underlying3 (by kernel_rfl) h with ⟨hcs, _⟩ | ⟨x, l, c, zs, hcs, _, hl, hm, hz, _, hcell, hwz⟩
  · cases hcs
    exact ⟨none, 0, 0, rfl, KeepIn.of_row (.inl ⟨rfl, rfl, rfl, rfl⟩)⟩
  · cases hcs
    exact ⟨some x, l, c, rfl, KeepIn.of_row (zs := zs) (.inr ⟨_, rfl, hl, hm, by simpa using hz, hcell, hwz⟩)⟩
theorem pend_of_trod {fuel : Nat} {v : Value} {x : DataW H × List MemPlace} (h : DataW.trod enc Try.prog W base (fun _ => true) held fuel 23 [v] = some x) : ∃ a len cap, v = .slice a len cap ∧ (len ≤ 100 → ∃ ps : List Pd, ps.length = len ∧ RdP W (.slice a len cap) ps) := by
  have ce : Try.prog.cellsOf 41 = 3 := by kernel_rfl
  rcases Go.Deep.open_slice Try.underlying23 h with ⟨hcs, _⟩ | ⟨a, len, cap, m, n, D, Pl, hcs, hb, hl, hm, hmm, _, hx⟩
  · cases hcs
    exact ⟨none, 0, 0, rfl, fun _ => ⟨[], rfl, RdP.bare _⟩⟩
  · cases hcs
    refine ⟨some a, len, cap, rfl, fun hlen => ?_⟩
    have hm' : m = cap := by simpa using hmm
    subst hm'
    have each : ∀ i, i < m → ∃ p : Pd, W.cell? (a.add (i * 3)) = some (.int .i64 p.a) ∧ W.cell? (a.add (i * 3 + 1)) = some (.int .i64 p.v) ∧ W.cell? (a.add (i * 3 + 2)) = some (.bool p.f) := by
      intro i hi
      obtain ⟨cs', h1, h2⟩ := hx i hi
      rw [ce] at h1
      obtain ⟨_, hlen', hcell⟩ := World.cells?_some h1
      obtain ⟨y0, y1, y2, k, _, _, g0, g1, g2⟩ := Go.Deep.trod_struct3 Try.underlying41 h2
      match cs', hlen' with
      | [v0, v1, v2], _ =>
        have e0 := hcell 0 (by omega)
        have e1 := hcell 1 (by omega)
        have e2 := hcell 2 (by omega)
        rw [Go.Deep.add_add] at e0 e1 e2
        obtain ⟨z0, q0, _⟩ := DataW.trod_int Try.underlying3 (show DataW.trod enc Try.prog W base (fun _ => true) held k 3 [v0] = some y0 from g0)
        obtain ⟨z1, q1, _⟩ := DataW.trod_int Try.underlying3 (show DataW.trod enc Try.prog W base (fun _ => true) held k 3 [v1] = some y1 from g1)
        obtain ⟨z2, q2, _⟩ := DataW.trod_bool Try.underlying4 (show DataW.trod enc Try.prog W base (fun _ => true) held k 4 [v2] = some y2 from g2)
        cases q0
        cases q1
        cases q2
        exact ⟨⟨z0, z1, z2⟩, by simpa using e0, by simpa using e1, by simpa using e2⟩
    have hinh : Inhabited Pd := ⟨⟨0, 0, false⟩⟩
    obtain ⟨q, hq⟩ := Go.Deep.choose_lt each
    refine ⟨(List.range len).map q, by simp, ⟨by rw [pcs_length], by simp; omega, some a, m, by simp, ?_⟩⟩
    by_cases h0 : len = 0
    · exact .inl ⟨by simp [h0], fun h => by cases h⟩
    · right
      have hc0 := (hq 0 (by omega)).1
      have hs := cell_spot hc0
      have ha0 : a.add (0 * 3) = a := rfl
      rw [ha0] at hs hc0
      refine ⟨a.block, a.off, by rw [← hs], World.block_lt_of_cell? W _ hc0, ?_⟩
      intro j u hj
      have hjl : j < len * 3 := by have := (List.getElem?_eq_some_iff.1 hj).1; rw [pcs_length] at this; simpa using this
      have hk : j / 3 < ((List.range len).map q).length := by simp; omega
      have he : j = j / 3 * 3 + j % 3 := by omega
      rw [he, pcs_at _ (j / 3) hk (j % 3) (by omega)] at hj
      have hp : (((List.range len).map q)[j / 3]'hk) = q (j / 3) := by simp
      rw [hp] at hj
      obtain ⟨c0, c1, c2⟩ := hq (j / 3) (by omega)
      rw [hs, Addr.add_lit] at c0 c1 c2
      have h3 : j % 3 < 3 := by omega
      rw [he]
      match hr : j % 3, h3, hj with
      | 0, _, hj => cases hj; exact c0
      | 1, _, hj => cases hj; exact c1
      | 2, _, hj => cases hj; exact c2
theorem mem_of_trod {fuel : Nat} {cs : List Value} {x : DataW H × List MemPlace} (h : DataW.trod enc Try.prog W base (fun _ => true) held fuel 25 cs = some x) : ∃ a1 n1 c1 a2 n2 c2 a3 n3 c3, cs = [.slice a1 n1 c1, .slice a2 n2 c2, .slice a3 n3 c3] ∧ MemIn W a1 a2 a3 n1 n2 n3 c1 c2 c3 := by
  have ce : Try.prog.cellsOf 25 = 3 := by kernel_rfl
  obtain ⟨y0, y1, y2, k, _, hl, g0, g1, g2⟩ := Go.Deep.trod_struct3 Try.underlying25 h
  rw [ce] at hl
  match cs, hl with
  | [v0, v1, v2], _ =>
    obtain ⟨a1, n1, c1, rfl, h1⟩ := row_of_trod (show DataW.trod enc Try.prog W base (fun _ => true) held k 22 [v0] = some y0 from g0)
    obtain ⟨a2, n2, c2, rfl, h2⟩ := row_of_trod (show DataW.trod enc Try.prog W base (fun _ => true) held k 22 [v1] = some y1 from g1)
    obtain ⟨a3, n3, c3, rfl, h3⟩ := pend_of_trod (show DataW.trod enc Try.prog W base (fun _ => true) held k 23 [v2] = some y2 from g2)
    refine ⟨a1, n1, c1, a2, n2, c2, a3, n3, c3, rfl, fun l1 l2 l3 => ?_⟩
    obtain ⟨z1, rfl, r1, _⟩ := h1 l1
    obtain ⟨z2, rfl, r2, _⟩ := h2 l2
    obtain ⟨ps, rfl, r3⟩ := h3 l3
    exact ⟨⟨z1, z2, ps⟩, rfl, rfl, rfl, r1, r2, r3⟩
end
end Go.Proofs.Ytmaeobdeddllaaa
