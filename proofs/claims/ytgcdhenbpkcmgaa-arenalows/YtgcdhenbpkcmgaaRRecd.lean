/- Set over from a lower layer: Recd. -/
import Derived.Test.YtgcdhenbpkcmgaaBase
import Derived.Test.YtgcdhenbpkcmgaaQuietb
import Derived.Test.YtgcdhenbpkcmgaaRRecc
import Derived.Deep.RegionLaw
import Derived.Deep.RegionHeld3
import Derived.Laws.CopyOwn
namespace Go.Proofs.Ytgcdhenbpkcmgaa
open Go.RowKit Go.Shelf
set_option linter.unusedVariables false
/-- An image in a block of its own: sixteen words. -/
def Im (W : World) (g : Nat) (L : List Int) : Prop := W.heap[g]? = some (.cells (L.map (Value.int .i64)).toArray 107 (0, 0))
theorem Im.lt {W : World} {g : Nat} {L : List Int} (h : Im W g L) : g < W.heap.size := (Array.getElem?_eq_some_iff.1 h).1
theorem Im.belowN {W W' : World} {g n : Nat} {L : List Int} (h : Im W g L) (hb : Below n W W') (hg : g < n) : Im W' g L := (hb.block g hg).trans h
theorem Im.below {W W' : World} {g : Nat} {L : List Int} (h : Im W g L) (hb : Below W.heap.size W W') : Im W' g L := h.belowN hb h.lt
theorem Im.cell {W : World} {g : Nat} {L : List Int} (h : Im W g L) {k : Nat} {z : Int} (hk : L[k]? = some z) : W.cell? ⟨g, k, none⟩ = some (.int .i64 z) := by
  simp [World.cell?, show W.heap[g]? = _ from h, hk]
theorem Im.range {W : World} {g : Nat} {L : List Int} (h : Im W g L) : W.rangeAt g 0 (L.map (Value.int .i64)) := by
  intro j v hv
  rw [List.getElem?_map] at hv
  obtain ⟨z, hz, rfl⟩ := Option.map_eq_some_iff.1 hv
  rw [Nat.zero_add]
  exact h.cell hz
theorem Im.frozen {W : World} {g : Nat} {L : List Int} (h : Im W g L) (k : Nat) : W.frozen? ⟨g, k, none⟩ = false := by
  simp [World.frozen?, show W.heap[g]? = _ from h]
theorem Im.there {W : World} {g : Nat} {L : List Int} (h : Im W g L) : W.there g 0 L.length := by
  intro j hj
  rw [Nat.zero_add, h.cell (List.getElem?_eq_getElem hj)]
  exact ⟨rfl, h.frozen j⟩
theorem Im.rd {W : World} {g : Nat} {L : List Int} (h : Im W g L) (off n c : Nat) (hn : off + n ≤ L.length) (hc : n ≤ c) (hl : n ≤ 1000) : Rd W (.slice (some ⟨g, off, none⟩) n c) ((L.drop off).take n) := by
  have e : ((L.drop off).take n).length = n := by simp; omega
  unfold Rd
  rw [e]
  refine ⟨by rw [List.length_map, e, Nat.mul_one], hl, some ⟨g, off, none⟩, c, rfl, hc, .inr ⟨g, off, rfl, h.lt, ?_⟩⟩
  intro j u hu
  rw [List.getElem?_map] at hu
  obtain ⟨z, hz, rfl⟩ := Option.map_eq_some_iff.1 hu
  refine h.cell ?_
  rw [List.getElem?_take] at hz
  split at hz
  · rw [List.getElem?_drop] at hz; exact hz
  · cases hz
theorem Im.set {W : World} {g : Nat} {L : List Int} (h : Im W g L) (k : Nat) (z : Int) : Im (W.setCell ⟨g, k, none⟩ (.int .i64 z)) g (L.set k z) := by
  have := heap_setCell_same W g k _ 107 (.int .i64 z) h
  unfold Im
  rw [this]
  simp
/-- A record in a box. -/
def RcAt (W : World) (b : Nat) (x : Rc) : Prop := W.heap[b]? = some (.cells #[.int .i64 x.k, .string x.key, .string x.val, .int .i64 x.ch] 89)
theorem RcAt.lt {W : World} {b : Nat} {x : Rc} (h : RcAt W b x) : b < W.heap.size := (Array.getElem?_eq_some_iff.1 h).1
theorem RcAt.belowN {W W' : World} {b n : Nat} {x : Rc} (h : RcAt W b x) (hb : Below n W W') (hg : b < n) : RcAt W' b x := (hb.block b hg).trans h
theorem RcAt.below {W W' : World} {b : Nat} {x : Rc} (h : RcAt W b x) (hb : Below W.heap.size W W') : RcAt W' b x := h.belowN hb h.lt
theorem RcAt.c {W : World} {b : Nat} {x : Rc} (h : RcAt W b x) : W.cell? ⟨b, 0, none⟩ = some (.int .i64 x.k) ∧ W.cell? ⟨b, 1, none⟩ = some (.string x.key) ∧ W.cell? ⟨b, 2, none⟩ = some (.string x.val) ∧ W.cell? ⟨b, 3, none⟩ = some (.int .i64 x.ch) := by
  simp [World.cell?, show W.heap[b]? = _ from h]
theorem RcAt.other {W : World} {b g k : Nat} {x : Rc} (h : RcAt W b x) (hn : b ≠ g) (u : Value) : RcAt (W.setCell ⟨g, k, none⟩ u) b x := (Below.heap_setCell _ _ _ b hn).trans h
theorem Im.other {W : World} {b g k : Nat} {L : List Int} (h : Im W b L) (hn : b ≠ g) (u : Value) : Im (W.setCell ⟨g, k, none⟩ u) b L := (Below.heap_setCell _ _ _ b hn).trans h
/-- 'copy(w[off:off+n], l)', as one step of a region that draws. -/
theorem step_img {ops : Array Oper} {o : Oper} {a : Act} {w : World} {K : Act → World → Prop} {Q : Exit → Act → World → Prop} {E : Prop} (hgd : o.guard = none) (d s : Operand)
    (ho : o.op = .call { callee := .builtin .copy, args := #[d, s], argTypes := #[23, 23] }) (g off n c : Nat) (zs L : List Int) (v : Value) (hd : a.eval d = .slice (some ⟨g, off, none⟩) n c) (hs : a.eval s = v)
    (hR : Rl w v zs) (hI : Im w g L) (hL : off + n ≤ L.length)
    (h : ∀ w', Im w' g (splice L off (zs.take n)) → Below g w w' → K (a.put o.dst (goInt (zs.take n).length)) w') :
    if Region.wanted o (yielded ops a.tmps) = true then Oper.wp Try.prog o a w K Q else E := by
  have hsz : (Try.prog.info? 3).map (·.size) = some 1 := by
    obtain ⟨i0, hi, _, hz1, _⟩ := info_parts Try.info3
    rw [hi]; simp [hz1]
  obtain ⟨hk, ad, cap, rfl, hcap, h3⟩ := hR
  refine step_copy_splice hgd d s 23 23 ho 3 Try.underlying23 hsz _ _ n c zs.length cap hd hs g off (L.map (Value.int .i64)) 107 hI ((zs.take n).map (Value.int .i64)) (by simp; exact Nat.min_comm _ _) ?_ (by simp; omega) (ints_one _) g w (Below.refl _ _) (Nat.le_refl _) ?_
  · intro h0
    refine ⟨rfl, ?_⟩
    rcases h3 with ⟨hz, _⟩ | ⟨b, o', rfl, _, hc⟩
    · simp [hz] at h0
    · refine ⟨_, rfl, fun j v hv => ?_⟩
      rw [Addr.add_lit]
      refine hc j v ?_
      rw [List.map_take, List.getElem?_take] at hv
      split at hv
      · exact hv
      · cases hv
  · intro w' h1 h2
    have e : splice (L.map (Value.int .i64)) off ((zs.take n).map (Value.int .i64)) = (splice L off (zs.take n)).map (Value.int .i64) := by simp [splice]
    rw [e] at h1
    have := h w' h1.out h2
    rwa [List.length_map]
end Go.Proofs.Ytgcdhenbpkcmgaa
