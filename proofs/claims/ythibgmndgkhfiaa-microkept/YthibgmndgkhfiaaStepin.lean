/- Steps that come in, as they are read. -/
import Derived.Test.YthibgmndgkhfiaaMemin
import Derived.Test.YthibgmndgkhfiaaStepl
namespace Go.Proofs.Ythibgmndgkhfiaa
open Go.RowKit Go.ChangeShapes Go.WideShapes
set_option linter.unusedVariables false

theorem RdS.bare (W : World) : RdS W (.slice none 0 0) [] := ⟨rfl, by simp, none, 0, rfl, .inl ⟨rfl, fun _ => rfl⟩⟩
def StIn (W : World) (a : Option Addr) (len cap : Nat) : Prop := len ≤ 100 → ∃ l : List Mi, l.length = len ∧ len ≤ cap ∧ RdS W (.slice a len cap) l
section
variable {H : Type} {enc : TypeId × Value → H} {W : World} {base : Nat} {held : Bool}
theorem steps_of_trod {fuel : Nat} {v : Value} {x : DataW H × List MemPlace} (h : DataW.trod enc Try.prog W base (fun _ => true) held fuel 26 [v] = some x) : ∃ a len cap, v = .slice a len cap ∧ StIn W a len cap := by
  have ce : Try.prog.cellsOf 28 = 3 := by kernel_rfl
  rcases Go.Deep.open_slice Try.underlying26 h with ⟨hcs, _⟩ | ⟨a, len, cap, m, n, D, Pl, hcs, hb, hl, hm, hmm, _, hx⟩
  · cases hcs
    exact ⟨none, 0, 0, rfl, fun _ => ⟨[], rfl, Nat.le_refl _, RdS.bare _⟩⟩
  · cases hcs
    refine ⟨some a, len, cap, rfl, fun hlen => ?_⟩
    have hm' : m = cap := by simpa using hmm
    subst hm'
    have each : ∀ i, i < m → ∃ p : Mi, W.cell? (a.add (i * 3)) = some (.int .i64 p.k) ∧ W.cell? (a.add (i * 3 + 1)) = some (.int .i64 p.a) ∧ W.cell? (a.add (i * 3 + 2)) = some (.int .i64 p.v) := by
      intro i hi
      obtain ⟨cs', h1, h2⟩ := hx i hi
      rw [ce] at h1
      obtain ⟨_, hlen', hcell⟩ := World.cells?_some h1
      obtain ⟨y0, y1, y2, k, _, _, g0, g1, g2⟩ := Go.Deep.trod_struct3 Try.underlying28 h2
      match cs', hlen' with
      | [v0, v1, v2], _ =>
        have e0 := hcell 0 (by omega)
        have e1 := hcell 1 (by omega)
        have e2 := hcell 2 (by omega)
        rw [Go.Deep.add_add] at e0 e1 e2
        obtain ⟨z0, q0, _⟩ := DataW.trod_int Try.underlying3 (show DataW.trod enc Try.prog W base (fun _ => true) held k 3 [v0] = some y0 from g0)
        obtain ⟨z1, q1, _⟩ := DataW.trod_int Try.underlying3 (show DataW.trod enc Try.prog W base (fun _ => true) held k 3 [v1] = some y1 from g1)
        obtain ⟨z2, q2, _⟩ := DataW.trod_int Try.underlying3 (show DataW.trod enc Try.prog W base (fun _ => true) held k 3 [v2] = some y2 from g2)
        cases q0
        cases q1
        cases q2
        exact ⟨⟨z0, z1, z2⟩, by simpa using e0, by simpa using e1, by simpa using e2⟩
    have hinh : Inhabited Mi := ⟨⟨0, 0, 0⟩⟩
    obtain ⟨q, hq⟩ := Go.Deep.choose_lt each
    refine ⟨(List.range len).map q, by simp, hl, ⟨by rw [mcs_length], by simp; omega, some a, m, by simp, ?_⟩⟩
    by_cases h0 : len = 0
    · exact .inl ⟨by simp [h0], fun h => by cases h⟩
    · right
      have hc0 := (hq 0 (by omega)).1
      have hs := cell_spot hc0
      have ha0 : a.add (0 * 3) = a := rfl
      rw [ha0] at hs hc0
      refine ⟨a.block, a.off, by rw [← hs], World.block_lt_of_cell? W _ hc0, ?_⟩
      intro j u hj
      have hjl : j < len * 3 := by have := (List.getElem?_eq_some_iff.1 hj).1; rw [mcs_length] at this; simpa using this
      have hk : j / 3 < ((List.range len).map q).length := by simp; omega
      have he : j = j / 3 * 3 + j % 3 := by omega
      rw [he, mcs_at _ (j / 3) hk (j % 3) (by omega)] at hj
      have hp : (((List.range len).map q)[j / 3]'hk) = q (j / 3) := by simp
      rw [hp] at hj
      obtain ⟨c0, c1, c2⟩ := hq (j / 3) (by omega)
      rw [hs, Addr.add_lit] at c0 c1 c2
      have h3 : j % 3 < 3 := by omega
      rw [he]
      match hr : j % 3, h3, hj with
      | 0, _, hj => cases hj; exact c0
      | 1, _, hj => cases hj; exact c1
      | 2, _, hj => cases hj; exact c2
theorem one_of_trod {fuel : Nat} {cs : List Value} {x : DataW H × List MemPlace} (h : DataW.trod enc Try.prog W base (fun _ => true) held fuel 28 cs = some x) : ∃ y : Mi, cs = [.int .i64 y.k, .int .i64 y.a, .int .i64 y.v] := by
  have ce : Try.prog.cellsOf 28 = 3 := by kernel_rfl
  obtain ⟨y0, y1, y2, k, _, hl, g0, g1, g2⟩ := Go.Deep.trod_struct3 Try.underlying28 h
  rw [ce] at hl
  match cs, hl with
  | [v0, v1, v2], _ =>
    obtain ⟨z0, q0, _⟩ := DataW.trod_int Try.underlying3 (show DataW.trod enc Try.prog W base (fun _ => true) held k 3 [v0] = some y0 from g0)
    obtain ⟨z1, q1, _⟩ := DataW.trod_int Try.underlying3 (show DataW.trod enc Try.prog W base (fun _ => true) held k 3 [v1] = some y1 from g1)
    obtain ⟨z2, q2, _⟩ := DataW.trod_int Try.underlying3 (show DataW.trod enc Try.prog W base (fun _ => true) held k 3 [v2] = some y2 from g2)
    cases q0
    cases q1
    cases q2
    exact ⟨⟨z0, z1, z2⟩, rfl⟩
end
end Go.Proofs.Ythibgmndgkhfiaa
