/- Set over from a lower layer: Supl. -/
import Derived.Test.YtgcdhenbpkcmgaaBase
import Derived.Test.YtgcdhenbpkcmgaaQuietb
import Derived.Test.YtgcdhenbpkcmgaaSSupnum
import Derived.Test.YtgcdhenbpkcmgaaSWalko
import Derived.Deep.RegionLaw
import Derived.Deep.RegionHeld3
import Derived.Laws.CopyOwn
import Derived.Lib.AppendZeros
import Derived.Maps.OwnOps
import Derived.Laws.StructEq
import Derived.Deep.Strs
import Derived.Deep.Slices
namespace Go.Proofs.Ytgcdhenbpkcmgaa.Sm
open Go.RowKit
end Go.Proofs.Ytgcdhenbpkcmgaa.Sm
namespace Go.Proofs.Ytgcdhenbpkcmgaa
open Go.RowKit Go.Shelf Classical
set_option linter.unusedVariables false
def Fits (zs : List Int) : Prop := ∀ z ∈ zs, -9223372036854775808 ≤ z ∧ z < 9223372036854775808
theorem Rd.sm {W : World} {v : Value} {zs : List Int} (h : Rd W v zs) (hb : Fits zs) : Sm.Rd W v zs := by
  obtain ⟨h1, h2, a, cap, rfl, h0, h3⟩ := h
  refine ⟨hb, h2, a, cap, rfl, ?_⟩
  rcases h3 with ⟨h, h'⟩ | ⟨b, off, rfl, hlt, hc⟩
  · exact .inl ⟨List.eq_nil_of_length_eq_zero h, h'⟩
  · exact .inr ⟨b, off, rfl, hlt, fun j hj => hc j _ (by simp [List.getElem?_eq_getElem hj])⟩
/-- A head in a block of its own: sixteen words. -/
def SHw (W : World) (g : Nat) (L : List Int) : Prop := W.heap[g]? = some (.cells (L.map (Value.int .i64)).toArray 68 (0, 0))
theorem SHw.lt {W : World} {g : Nat} {L : List Int} (h : SHw W g L) : g < W.heap.size := (Array.getElem?_eq_some_iff.1 h).1
theorem SHw.belowN {W W' : World} {g n : Nat} {L : List Int} (h : SHw W g L) (hb : Below n W W') (hg : g < n) : SHw W' g L := (hb.block g hg).trans h
theorem SHw.below {W W' : World} {g : Nat} {L : List Int} (h : SHw W g L) (hb : Below W.heap.size W W') : SHw W' g L := h.belowN hb h.lt
theorem SHw.cell {W : World} {g : Nat} {L : List Int} (h : SHw W g L) {k : Nat} {z : Int} (hk : L[k]? = some z) : W.cell? ⟨g, k, none⟩ = some (.int .i64 z) := by
  simp [World.cell?, show W.heap[g]? = _ from h, hk]
theorem SHw.range {W : World} {g : Nat} {L : List Int} (h : SHw W g L) : W.rangeAt g 0 (L.map (Value.int .i64)) := by
  intro j v hv
  rw [List.getElem?_map] at hv
  obtain ⟨z, hz, rfl⟩ := Option.map_eq_some_iff.1 hv
  rw [Nat.zero_add]
  exact h.cell hz
theorem SHw.frozen {W : World} {g : Nat} {L : List Int} (h : SHw W g L) (k : Nat) : W.frozen? ⟨g, k, none⟩ = false := by
  simp [World.frozen?, show W.heap[g]? = _ from h]
theorem SHw.there {W : World} {g : Nat} {L : List Int} (h : SHw W g L) : W.there g 0 L.length := by
  intro j hj
  rw [Nat.zero_add, h.cell (List.getElem?_eq_getElem hj)]
  exact ⟨rfl, h.frozen j⟩
theorem SHw.rd {W : World} {g : Nat} {L : List Int} (h : SHw W g L) (off n c : Nat) (hn : off + n ≤ L.length) (hc : n ≤ c) (hl : n ≤ 1000) : Rd W (.slice (some ⟨g, off, none⟩) n c) ((L.drop off).take n) := by
  have e : ((L.drop off).take n).length = n := by simp; omega
  unfold Rd
  rw [e]
  refine ⟨by rw [List.length_map, e, Nat.mul_one], hl, some ⟨g, off, none⟩, c, rfl, hc, .inr ⟨g, off, rfl, h.lt, ?_⟩⟩
  intro j u hu
  rw [List.getElem?_map] at hu
  obtain ⟨z, hz, rfl⟩ := Option.map_eq_some_iff.1 hu
  refine h.cell ?_
  rw [List.getElem?_take] at hz
  split at hz
  · rw [List.getElem?_drop] at hz; exact hz
  · cases hz
theorem SHw.set {W : World} {g : Nat} {L : List Int} (h : SHw W g L) (k : Nat) (z : Int) : SHw (W.setCell ⟨g, k, none⟩ (.int .i64 z)) g (L.set k z) := by
  have := heap_setCell_same W g k _ 68 (.int .i64 z) h
  unfold SHw
  rw [this]
  simp
theorem Try.size68' : (Try.prog.info? 68).map (·.size) = some 16 := by kernel_rfl
theorem Shw_size {L : List Int} (h : L.length = 16) : (Try.prog.info? 68).map (·.size) = some (L.map (Value.int .i64)).toArray.size := by rw [Try.size68']; simp [h]
theorem Shw_sizeL {L : List Int} (h : L.length = 16) : (Try.prog.info? 68).map (·.size) = some (L.map (Value.int .i64)).length := by rw [Try.size68']; simp [h]
theorem SHw.laid {W : World} {g : Nat} {L : List Int} (h : SHw W g L) (M : List Int) (hM : M.length = L.length) : (W.setCells g 0 (M.map (Value.int .i64))).rangeAt g 0 (M.map (Value.int .i64)) := World.rangeAt_setCells_same W g 0 _ (by rw [List.length_map, hM]; exact h.there)
/-- 'copy(h.rest[:], l)', as one step of a region that draws. -/
theorem Sstep_hw {ops : Array Oper} {o : Oper} {a : Act} {w : World} {K : Act → World → Prop} {Q : Exit → Act → World → Prop} {E : Prop} (hgd : o.guard = none) (d s : Operand)
    (ho : o.op = .call { callee := .builtin .copy, args := #[d, s], argTypes := #[23, 23] }) (g off n c : Nat) (zs L : List Int) (v : Value) (hd : a.eval d = .slice (some ⟨g, off, none⟩) n c) (hs : a.eval s = v)
    (hR : Rl w v zs) (hI : SHw w g L) (hL : off + n ≤ L.length)
    (h : ∀ w', SHw w' g (splice L off (zs.take n)) → Below g w w' → K (a.put o.dst (goInt (zs.take n).length)) w') :
    if Region.wanted o (yielded ops a.tmps) = true then Oper.wp Try.prog o a w K Q else E := by
  have hsz : (Try.prog.info? 3).map (·.size) = some 1 := by
    obtain ⟨i0, hi, _, hz1, _⟩ := info_parts Try.info3
    rw [hi]; simp [hz1]
  obtain ⟨hk, ad, cap, rfl, hcap, h3⟩ := hR
  refine step_copy_splice hgd d s 23 23 ho 3 Try.underlying23 hsz _ _ n c zs.length cap hd hs g off (L.map (Value.int .i64)) 68 hI ((zs.take n).map (Value.int .i64)) (by simp; exact Nat.min_comm _ _) ?_ (by simp; omega) (ints_one _) g w (Below.refl _ _) (Nat.le_refl _) ?_
  · intro h0
    refine ⟨rfl, ?_⟩
    rcases h3 with ⟨hz, _⟩ | ⟨b, o', rfl, _, hc⟩
    · simp [hz] at h0
    · refine ⟨_, rfl, fun j v hv => ?_⟩
      rw [Addr.add_lit]
      refine hc j v ?_
      rw [List.map_take, List.getElem?_take] at hv
      split at hv
      · exact hv
      · cases hv
  · intro w' h1 h2
    have e : splice (L.map (Value.int .i64)) off ((zs.take n).map (Value.int .i64)) = (splice L off (zs.take n)).map (Value.int .i64) := by simp [splice]
    rw [e] at h1
    have := h w' h1.out h2
    rwa [List.length_map]
end Go.Proofs.Ytgcdhenbpkcmgaa
