/- Walks of layer 4's statements: turns. · A memory that comes in, as it is read. · Walks of layer 4: the document's own answers: one word changed; what may be. · Walks of layer 4: the document's own answers: what may be. · Walks of layer 4: the document's own answers: what is kept. -/
import Derived.Test.YtmhojhpfkieioaaNuma
import Derived.Test.YtmhojhpfkieioaaWalko
import Derived.Laws.StructEq
import Derived.Deep.Strs
import Derived.Deep.Slices
import Derived.Deep.RegionLaw
namespace Go.Proofs.Ytmhojhpfkieioaa
open Go.RowKit Go.Shelf
set_option linter.unusedVariables false

/-- What a statement is told of a memory that comes in: few of it is read. -/
def MemIn (W : World) (a1 a2 a3 : Option Addr) (n1 n2 n3 c1 c2 c3 : Nat) : Prop := n1 ≤ 300 → n2 ≤ 300 → n3 ≤ 100 → ∃ m : Mm, m.vol.length = n1 ∧ m.per.length = n2 ∧ m.pend.length = n3 ∧ RdM W (.slice a1 n1 c1) (.slice a2 n2 c2) (.slice a3 n3 c3) m
def KeepIn (W : World) (a : Option Addr) (n c : Nat) : Prop := n ≤ 300 → ∃ zs : List Int, zs.length = n ∧ Rd W (.slice a n c) zs ∧ Bd zs
theorem RdP.base {W : World} {a : Option Addr} {n c : Nat} {ps : List Pd} (h : RdP W (.slice a n c) ps) (h0 : 0 < ps.length) : ∃ b off, a = some ⟨b, off, none⟩ ∧ True := by
  obtain ⟨b, off, e, _⟩ := h.at 0 h0
  exact ⟨b, off, e, trivial⟩
theorem Rd.cell {W : World} {b off n c : Nat} {zs : List Int} (h : Rd W (.slice (some ⟨b, off, none⟩) n c) zs) {k : Nat} {z : Int} (hz : zs[k]? = some z) : W.cell? ⟨b, off + k, none⟩ = some (.int .i64 z) := by
  obtain ⟨hk, rfl⟩ := List.getElem?_eq_some_iff.1 hz
  obtain ⟨b', off', e, hc⟩ := h.at k hk
  cases e
  exact hc
theorem RdP.cells {W : World} {b off n c : Nat} {ps : List Pd} (h : RdP W (.slice (some ⟨b, off, none⟩) n c) ps) {k : Nat} {p : Pd} (hp : ps[k]? = some p) : W.cell? ⟨b, off + k * 3, none⟩ = some (.int .i64 p.a) ∧ W.cell? ⟨b, off + k * 3 + 1, none⟩ = some (.int .i64 p.v) ∧ W.cell? ⟨b, off + k * 3 + 2, none⟩ = some (.bool p.f) := by
  obtain ⟨b', off', e, hc⟩ := h.get hp
  cases e
  exact hc
open Classical in
theorem eq41 (x y x' y' : Int) (z z' : Bool) (w : World) : (binOp .eql 76 (.agg #[.int .i64 x, .int .i64 y, .bool z]) (.agg #[.int .i64 x', .int .i64 y', .bool z'])).run Try.prog w = .ok (.bool (decide (Pd.mk x y z = Pd.mk x' y' z'))) w := by
  have u3 := Try.underlying3
  have a3 := Try.isAgg3
  have z3 := Try.sizeOf3
  have u4 := Try.underlying4
  have a4 := Try.isAgg4
  have z4 := Try.sizeOf4
  have hS : Try.prog.underlying 76 = some (.struct (Try.prog.fieldsOf 76)) := by kernel_rfl
  have hp : Try.prog.stoodInHeld 76 = false := by kernel_rfl
  rw [run_eql_struct, show (10000 : Nat) = 9999 + 1 from rfl, run_equalIn_agg w 9999 76 _ _ hS hp]
  simp only [Program.fieldsOf, Try.underlying76]
  go_simp
  by_cases h1 : x = x' <;> by_cases h2 : y = y' <;> by_cases h3 : z = z' <;> simp [h1, h2, h3]






end Go.Proofs.Ytmhojhpfkieioaa
namespace Go.Proofs.Ytmhojhpfkieioaa
open Go.RowKit Go.ChangeShapes Go.WideShapes
set_option linter.unusedVariables false

theorem wf_i64 {z : Int} (h : (Lit.int .i64 z).wf = true) : -9223372036854775808 ≤ z ∧ z < 9223372036854775808 := by
  simp [Lit.wf, IntKind.min, IntKind.max, IntKind.bits, IntKind.signed] at h
  omega
theorem cell_spot {W : World} {x : Addr} {v : Value} (h : W.cell? x = some v) : x = ⟨x.block, x.off, none⟩ := by
  obtain ⟨b, o, sp⟩ := x
  cases sp with
  | none => rfl
  | some p =>
    simp only [World.cell?] at h
    split at h
    · simp at h
    · cases h
/-- What the opening of an argument tells of a slice of ints: its cells, the spare ones too. -/
def IsRow (k : IntKind) (W : World) (a : Option Addr) (len cap : Nat) (zs : List Int) : Prop :=
  (a = none ∧ len = 0 ∧ cap = 0 ∧ zs = []) ∨ ∃ x : Addr, a = some x ∧ len ≤ cap ∧ cap ≤ maxLen ∧ zs.length = cap ∧ (∀ i, i < zs.length → W.cell? (x.add i) = some (.int k (zs.getD i 0))) ∧ (∀ n ∈ zs, (Lit.int k n).wf = true)
theorem KeepIn.of_row {W : World} {a : Option Addr} {len cap : Nat} {zs : List Int} (h : IsRow .i64 W a len cap zs) : KeepIn W a len cap := by
  intro hl
  rcases h with ⟨rfl, rfl, rfl, rfl⟩ | ⟨x, rfl, h1, h2, h3, h4, h5⟩
  · exact ⟨[], rfl, Rd.bare _, fun x hx => by cases hx⟩
  · have hlen : (zs.take len).length = len := by rw [List.length_take]; omega
    refine ⟨zs.take len, hlen, ⟨by simp, by omega, some x, cap, by rw [hlen], by omega, ?_⟩, fun z hz => wf_i64 (h5 z (List.mem_of_mem_take hz))⟩
    by_cases h0 : len = 0
    · exact .inl ⟨by omega, fun h => by cases h⟩
    · right
      have hx := cell_spot (h4 0 (by omega))
      have hx0 : x.add 0 = x := rfl
      rw [hx0] at hx
      have hlt := World.block_lt_of_cell? W _ (h4 0 (by omega))
      rw [hx0] at hlt
      refine ⟨x.block, x.off, by rw [← hx], hlt, ?_⟩
      intro j u hj
      rw [List.getElem?_map] at hj
      obtain ⟨z, hz, rfl⟩ := Option.map_eq_some_iff.1 hj
      have hj' : j < len := by have := (List.getElem?_eq_some_iff.1 hz).1; omega
      have := h4 j (by omega)
      rw [hx, Addr.add_lit] at this
      rw [this]
      rw [List.getElem?_take, if_pos hj'] at hz
      simp [List.getD, hz]
section
variable {H : Type} {enc : TypeId × Value → H} {W : World} {base : Nat} {held : Bool}
theorem row_of_trod {fuel : Nat} {v : Value} {x : DataW H × List MemPlace} (h : DataW.trod enc Try.prog W base (fun _ => true) held fuel 24 [v] = some x) : ∃ a len cap, v = .slice a len cap ∧ KeepIn W a len cap := by
  rcases open_ints Try.underlying24 Try.underlying3 (by kernel_rfl) h with ⟨hcs, _⟩ | ⟨x, l, c, zs, hcs, _, hl, hm, hz, _, hcell, hwz⟩
  · cases hcs
    exact ⟨none, 0, 0, rfl, KeepIn.of_row (.inl ⟨rfl, rfl, rfl, rfl⟩)⟩
  · cases hcs
    exact ⟨some x, l, c, rfl, KeepIn.of_row (zs := zs) (.inr ⟨_, rfl, hl, hm, by simpa using hz, hcell, hwz⟩)⟩
end
end Go.Proofs.Ytmhojhpfkieioaa
namespace Go.Proofs.Ytmhojhpfkieioaa
open Go.RowKit Go.Shelf
set_option linter.unusedVariables false

theorem own_zy {W : World} {base : Nat} {v : Value} {zs : List Int} (h : W.ownsRow base 3 1 v (0 + zs.length) ([] ++ zs.map (Value.int .i64))) : OwnI W base v zs := by
  rw [Nat.zero_add] at h
  exact h

end Go.Proofs.Ytmhojhpfkieioaa
namespace Go.Proofs.Ytmhojhpfkieioaa
open Go.RowKit Go.Shelf
set_option linter.unusedVariables false

def OwnNN (W : World) (base : Nat) (v : Value) (n : Nat) (xs : List Value) : Prop := W.ownsRow base 3 1 v n xs
theorem fit_more {l : List Pd} {x p : Pd} (h : ∀ y ∈ l, Fit y p) (hx : Fit x p) : ∀ y ∈ l ++ [x], Fit y p := by
  intro y hy
  rcases List.mem_append.1 hy with hy | hy
  · exact h y hy
  · rw [List.mem_singleton.1 hy]; exact hx
theorem not_ahead {m : Mm} {k : Nat} {l : List Pd} {p : Pd} (hT : m.pend.take (k + 1) = l ++ [p]) (h : ¬ ∀ q ∈ l, Fit q p) : ok m = false := ok_false fun hk => h (by
  have := ahead_take hk.2.2.2.2.1 (k + 1)
  rw [hT, ahead_snoc] at this
  exact this.2)
theorem not_inPl {m : Mm} {k : Nat} {l : List Pd} {p : Pd} (hT : m.pend.take (k + 1) = l ++ [p]) (h : ¬ (0 ≤ p.a ∧ p.a < (m.vol.length : Int))) : ok m = false := ok_false fun hk => h (by
  have := inPl_take hk.2.2.2.1 (k + 1)
  rw [hT, inPl_snoc] at this
  exact this.2)

end Go.Proofs.Ytmhojhpfkieioaa
namespace Go.Proofs.Ytmhojhpfkieioaa
open Go.RowKit Go.Shelf
set_option linter.unusedVariables false

/-- The slice v holds the bools bs. -/
def RdB (W : World) (v : Value) (bs : List Bool) : Prop := RdC W 1 v bs.length (bs.map Value.bool)
theorem RdB.at {W : World} {a : Option Addr} {n cap : Nat} {bs : List Bool} (h : RdB W (.slice a n cap) bs) {k : Nat} {b : Bool} (hb : bs[k]? = some b) : ∃ g off, a = some ⟨g, off, none⟩ ∧ W.cell? ⟨g, off + k, none⟩ = some (.bool b) := by
  have hk := (List.getElem?_eq_some_iff.1 hb).1
  obtain ⟨_, _, a', cap', e, _, h3⟩ := h
  cases e
  rcases h3 with ⟨h0, _⟩ | ⟨g, off, rfl, _, hc⟩
  · omega
  · exact ⟨g, off, rfl, hc k _ (by rw [List.getElem?_map, hb]; rfl)⟩
/-- A list that is read lies apart from a row of the call's own. -/
def Far (n : Nat) (v u : Value) : Prop := n = 0 ∨ ∀ g, u.ownBlock = some g → ∀ x k c, v = .slice (some x) k c → x.block ≠ g
theorem RdC.by {W W' : World} {size : Nat} {v u : Value} {n : Nat} {xs : List Value} (h : RdC W size v n xs) (hg : W.grownBy W' u.ownBlock) (hf : Far n v u) : RdC W' size v n xs := by
  obtain ⟨h1, h2, a, cap, rfl, hcap, h3⟩ := h
  refine ⟨h1, h2, a, cap, rfl, hcap, ?_⟩
  rcases h3 with h | ⟨b, off, rfl, hlt, hc⟩
  · exact .inl h
  · rcases hf with h0 | hf
    · subst h0
      exact .inr ⟨b, off, rfl, Nat.lt_of_lt_of_le hlt hg.size, fun j x hj => by
        have := (List.getElem?_eq_some_iff.1 hj).1
        omega⟩
    · exact .inr ⟨b, off, rfl, Nat.lt_of_lt_of_le hlt hg.size, fun j x hj => (World.cell?_of_block (hg.block b hlt (fun e => hf b e.symm ⟨b, off, none⟩ n cap rfl rfl))).trans (hc j x hj)⟩
theorem far_set {W W' : World} {zs : List Int} {n : Nat} {v u : Value} {ps : List Pd} {base : Nat} (h : OwnI W' W.heap.size v zs) (hu : OwnP W base u ps) : Far n v u := by
  refine .inr fun g hg x k c e => ?_
  subst e
  have h1 := (World.ownsRow.lt hu g hg).2
  rcases h.2 with ⟨e, _⟩ | ⟨b, cap, cur, e, hb, _⟩
  · cases e
  · cases e
    show b ≠ g
    omega
theorem far_more {W : World} {n g l cap : Nat} {v u : Value} {zs : List Int} (h : Far n v u) (hR : Rd W v zs) (hz : zs.length = n) (hat : u.ownBlock = some g ∨ W.heap.size ≤ g) : Far n v (.slice (some ⟨g, 0, none⟩) l cap) := by
  rcases h with h | h
  · exact .inl h
  · by_cases h0 : n = 0
    · exact .inl h0
    · refine .inr fun g' hg' x k c e => ?_
      have e2 : g = g' := by simpa [Value.ownBlock] using hg'
      subst e2
      rcases hat with hat | hat
      · exact h g hat x k c e
      · subst e
        obtain ⟨b, off, e3, _⟩ := hR.base (by omega)
        cases e3
        obtain ⟨_, _, a', c', e4, _, h3⟩ := hR
        cases e4
        rcases h3 with ⟨h5, _⟩ | ⟨b', off', e5, hlt, _⟩
        · omega
        · cases e5
          show b ≠ g
          omega
/-- One that was just laid is appended, in a region that draws. -/
theorem step_p1 {ops : Array Oper} {o : Oper} {a : Act} {W w0 : World} {K : Act → World → Prop} {Q : Exit → Act → World → Prop} {E : Prop} (hgd : o.guard = none) (s x : Operand)
    (ho : o.op = .call { callee := .builtin .append, args := #[s, x], argTypes := #[38, 38] }) (base : Nat) (v : Value) (ps : List Pd) (p : Pd)
    (hown : OwnP w0 base v ps) (hn : ps.length ≤ 2000) (hbase : base ≤ w0.heap.size)
    (hW : W = (w0.alloc (.cells #[.int .i64 p.a, .int .i64 p.v, .bool p.f] 76)).drew) (hs : a.eval s = v) (hx : a.eval x = .slice (some ⟨w0.heap.size, 0, none⟩) 1 1)
    (h : ∀ g cap w', OwnP w' base (.slice (some ⟨g, 0, none⟩) (ps.length + 1) cap) (ps ++ [p]) → w0.grownBy w' v.ownBlock → (v.ownBlock = some g ∨ w0.heap.size ≤ g) → g < w'.heap.size → K (a.put o.dst (.slice (some ⟨g, 0, none⟩) (ps.length + 1) cap)) w') :
    if Region.wanted o (yielded ops a.tmps) = true then Oper.wp Try.prog o a W K Q else E := by
  obtain ⟨i0, hi, hz0, hz1, hz2⟩ := info_parts Try.info76
  subst hW
  refine step_append_lies _ hgd s x 38 ho base 76 i0 _ 3 24 Try.underlying38 hi hz0 hz1 hz2 rfl (by decide) v ps.length (pcs ps) hs (World.ownsRow.alloc hown _) ⟨w0.heap.size, 0, none⟩ 1 1 (pc1 p) hx rfl (World.news_of_block (heap_alloc_new w0 _)) (fun u hu => by simp [pc1] at hu; rcases hu with rfl | rfl | rfl <;> rfl) (by omega) (by unfold maxLen; omega) (by omega) (by simp; omega) (w0.heap.size + 1) (by simp) ?_
  intro g cap w' h1 h2 h3 h4
  refine h g cap w' ?_ ⟨h2.os, h2.tape, h2.output, ?_, fun j hj hne => (h2.block j (by simp; omega) hne).trans (Below.heap_alloc w0 _ j hj)⟩ (h3.imp id (by omega)) h4
  · unfold OwnP
    rw [List.length_append, pcs_append]
    exact h1
  · have := h2.size
    simp at this
    omega
/-- A part of a variable is written. -/
theorem Bo.set1 {W : World} {b : Nat} {v1 v2 v3 : Value} (h : Bo W b v1 v2 v3) (y : Value) : Bo (W.setCell ⟨b, 1, none⟩ y) b v1 y v3 := heap_setCell_same W b 1 _ 40 y h
theorem Bo.set2 {W : World} {b : Nat} {v1 v2 v3 : Value} (h : Bo W b v1 v2 v3) (z : Value) : Bo (W.setCell ⟨b, 2, none⟩ z) b v1 v2 z := heap_setCell_same W b 2 _ 40 z h
theorem RdC.cellSet {W : World} {size : Nat} {v : Value} {n : Nat} {xs : List Value} {b n1 n2 n3 c1 c2 c3 i : Nat} {a1 a2 a3 : Option Addr} (h : RdC W size v n xs) (hx : ∀ u ∈ xs, Value.isSl u = false) (hb : Bo W b (.slice a1 n1 c1) (.slice a2 n2 c2) (.slice a3 n3 c3)) (y : Value) : RdC (W.setCell ⟨b, i, none⟩ y) size v n xs := by
  obtain ⟨h1, h2, a, cap, rfl, hcap, h3⟩ := h
  refine ⟨h1, h2, a, cap, rfl, hcap, ?_⟩
  rcases h3 with h | ⟨c, off, rfl, hlt, hc⟩
  · exact .inl h
  · refine .inr ⟨c, off, rfl, by rw [Go.Deep.nblk_setCell]; exact hlt, ?_⟩
    by_cases e : c = b
    · subst e
      intro j u hj
      have hcell := hc j u hj
      have hb' : W.heap[c]? = some (.cells #[.slice a1 n1 c1, .slice a2 n2 c2, .slice a3 n3 c3] 40) := hb
      have hns := hx u (List.mem_of_getElem? hj)
      simp only [World.cell?, hb'] at hcell
      exfalso
      match h : off + j, hcell with
      | 0, hcell => simp at hcell; subst hcell; cases hns
      | 1, hcell => simp at hcell; subst hcell; cases hns
      | 2, hcell => simp at hcell; subst hcell; cases hns
      | k + 3, hcell => simp at hcell
    · intro j u hj
      exact (World.cell?_of_block (Below.heap_setCell W _ _ c e)).trans (hc j u hj)

/-- What is kept, as it is made: its variable in block ob; the words are read, what is pending is of the call's own. -/
structure KO (W : World) (ob : Nat) (v1 v2 v3 : Value) (per : List Int) (pend : List Pd) : Prop where
  box : Bo W ob v1 v2 v3
  rd : Rd W v2 per
  own : OwnP W (ob + 1) v3 pend
  far : Far per.length v2 v3
theorem KO.below {W W' : World} {ob : Nat} {v1 v2 v3 : Value} {per : List Int} {pend : List Pd} (h : KO W ob v1 v2 v3 per pend) (hb : Below W.heap.size W W') : KO W' ob v1 v2 v3 per pend := ⟨h.box.below hb, h.rd.below hb, h.own.below hb, h.far⟩
theorem OwnP.ne {W : World} {ob : Nat} {v : Value} {ps : List Pd} (h : OwnP W (ob + 1) v ps) : v.ownBlock ≠ some ob := fun e => by
  have := (World.ownsRow.lt h ob e).1
  omega
theorem KO.set {W w' : World} {ob : Nat} {v1 v2 v3 v2' : Value} {per zs : List Int} {pend : List Pd} (h : KO W ob v1 v2 v3 per pend) (hO : OwnI w' W.heap.size v2' zs) (hb : Below W.heap.size W w') (hz : zs.length ≤ 1000) :
    Bo w' ob v1 v2 v3 ∧ KO (w'.setCell ⟨ob, 1, none⟩ v2') ob v1 v2' v3 zs pend ∧ Below ob W (w'.setCell ⟨ob, 1, none⟩ v2') := by
  have hlt := h.box.lt
  have hB := h.box.below hb
  refine ⟨hB, ⟨hB.set1 _, OwnI.rd (own_setCell (p := ⟨ob, 1, none⟩) hO hlt _) hz, own_setCell (p := ⟨ob, 1, none⟩) (h.own.below hb) (Nat.lt_succ_self _) _, far_set hO h.own⟩, (hb.mono (Nat.le_of_lt hlt)).setCell (p := ⟨ob, 1, none⟩) (Nat.le_refl _) _⟩
theorem KO.more {W w' : World} {ob n1 n2 n3 c1 c2 c3 g cap : Nat} {a1 a2 a3 : Option Addr} {per : List Int} {pend : List Pd} {p : Pd} (h : KO W ob (.slice a1 n1 c1) (.slice a2 n2 c2) (.slice a3 n3 c3) per pend) (ho : OwnP w' (ob + 1) (.slice (some ⟨g, 0, none⟩) (pend.length + 1) cap) (pend ++ [p])) (hg : W.grownBy w' (Value.slice a3 n3 c3).ownBlock) (hat : (Value.slice a3 n3 c3).ownBlock = some g ∨ W.heap.size ≤ g) :
    Bo w' ob (.slice a1 n1 c1) (.slice a2 n2 c2) (.slice a3 n3 c3) ∧ KO (w'.setCell ⟨ob, 2, none⟩ (.slice (some ⟨g, 0, none⟩) (pend.length + 1) cap)) ob (.slice a1 n1 c1) (.slice a2 n2 c2) (.slice (some ⟨g, 0, none⟩) (pend.length + 1) cap) per (pend ++ [p]) ∧ Below ob W (w'.setCell ⟨ob, 2, none⟩ (.slice (some ⟨g, 0, none⟩) (pend.length + 1) cap)) := by
  have hlt := h.box.lt
  have hB : Bo w' ob (.slice a1 n1 c1) (.slice a2 n2 c2) (.slice a3 n3 c3) := (hg.block ob hlt (fun e => h.own.ne e.symm)).trans h.box
  have hp : Rd w' (.slice a2 n2 c2) per := RdC.by h.rd hg h.far
  refine ⟨hB, ⟨hB.set2 _, RdC.cellSet hp (ints_sl per) hB _, own_setCell (p := ⟨ob, 2, none⟩) ho (Nat.lt_succ_self _) _, far_more h.far h.rd rfl hat⟩, ?_⟩
  exact ((Below.refl ob W).grown hg (Nat.le_of_lt hlt) (fun k hk => Nat.le_of_lt (World.ownsRow.lt h.own k hk).1)).setCell (p := ⟨ob, 2, none⟩) (Nat.le_refl _) _
/-- What is read goes into the result's variable. -/
theorem finishR {w W : World} {b n1 n2 n3 c1 c2 c3 : Nat} {a1 a2 a3 : Option Addr} {v1 v2 v3 : Value} {m : Mm} (hR : RdM W v1 v2 v3 m) (hY : Bo W b (.slice a1 n1 c1) (.slice a2 n2 c2) (.slice a3 n3 c3)) (hB : Below w.heap.size w W) (hw : w.heap.size ≤ b) :
    Bx (((W.setCell ⟨b, 0, none⟩ v1).setCell ⟨b, 1, none⟩ v2).setCell ⟨b, 2, none⟩ v3) b v1 v2 v3 ∧ RdM (((W.setCell ⟨b, 0, none⟩ v1).setCell ⟨b, 1, none⟩ v2).setCell ⟨b, 2, none⟩ v3) v1 v2 v3 m ∧ Below w.heap.size w (((W.setCell ⟨b, 0, none⟩ v1).setCell ⟨b, 1, none⟩ v2).setCell ⟨b, 2, none⟩ v3) :=
  ⟨(hY.set v1 v2 v3).bx, hR.box hY v1 v2 v3, S3.below hB hw v1 v2 v3⟩
end Go.Proofs.Ytmhojhpfkieioaa
