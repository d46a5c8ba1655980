/- Walks of layer 4: variables that hold memories. · Walks of layer 4: awake. -/
import Derived.Test.YtbnlekheadmecaaWalkn
namespace Go.Proofs.Ytbnlekheadmecaa
open Go.RowKit Go.Shelf
set_option linter.unusedVariables false

/-- Three cells of a block are written. -/
def S3 (W : World) (b : Nat) (x y z : Value) : World := ((W.setCell ⟨b, 0, none⟩ x).setCell ⟨b, 1, none⟩ y).setCell ⟨b, 2, none⟩ z
theorem S3.other (W : World) (b k : Nat) (x y z : Value) (h : k ≠ b) : (S3 W b x y z).heap[k]? = W.heap[k]? := (Below.heap_setCell _ _ _ k h).trans ((Below.heap_setCell _ _ _ k h).trans (Below.heap_setCell _ _ _ k h))
theorem S3.size (W : World) (b : Nat) (x y z : Value) : (S3 W b x y z).heap.size = W.heap.size := by
  unfold S3
  rw [Go.Deep.nblk_setCell, Go.Deep.nblk_setCell, Go.Deep.nblk_setCell]
theorem S3.below {w W : World} {B b : Nat} (h : Below B w W) (hb : B ≤ b) (x y z : Value) : Below B w (S3 W b x y z) := ((h.setCell (p := ⟨b, 0, none⟩) hb x).setCell (p := ⟨b, 1, none⟩) hb y).setCell (p := ⟨b, 2, none⟩) hb z
/-- Block b is a variable of a memory. -/
def Bo (W : World) (b : Nat) (v1 v2 v3 : Value) : Prop := W.heap[b]? = some (.cells #[v1, v2, v3] 43)
theorem Bo.bx {W : World} {b : Nat} {v1 v2 v3 : Value} (h : Bo W b v1 v2 v3) : Bx W b v1 v2 v3 := by
  have h : W.heap[b]? = some (.cells #[v1, v2, v3] 43) := h
  simp [Bx, World.cell?, World.frozen?, h]
theorem Bo.lt {W : World} {b : Nat} {v1 v2 v3 : Value} (h : Bo W b v1 v2 v3) : b < W.heap.size := (Array.getElem?_eq_some_iff.1 h).1
theorem Bo.below {W W' : World} {b : Nat} {v1 v2 v3 : Value} (h : Bo W b v1 v2 v3) (hb : Below W.heap.size W W') : Bo W' b v1 v2 v3 := (hb.block b h.lt).trans h
theorem Bo.new (W : World) (v1 v2 v3 : Value) : Bo (W.alloc (.cells #[v1, v2, v3] 43)) W.heap.size v1 v2 v3 := heap_alloc_new W _
theorem Bo.other {W : World} {b c : Nat} {v1 v2 v3 : Value} (h : Bo W b v1 v2 v3) (hc : b ≠ c) (x y z : Value) : Bo (S3 W c x y z) b v1 v2 v3 := (S3.other W c b x y z hc).trans h
theorem Bo.set {W : World} {b : Nat} {v1 v2 v3 : Value} (h : Bo W b v1 v2 v3) (x y z : Value) : Bo (S3 W b x y z) b x y z := by
  have e := heap_setCell_same (((W.setCell ⟨b, 0, none⟩ x)).setCell ⟨b, 1, none⟩ y) b 2 _ 43 z (heap_setCell_same (W.setCell ⟨b, 0, none⟩ x) b 1 _ 43 y (heap_setCell_same W b 0 _ 43 x h))
  exact e
def Value.isSl : Value → Bool
  | .slice _ _ _ => true
  | _ => false
theorem RdC.box {W : World} {size : Nat} {v : Value} {n : Nat} {xs : List Value} {b n1 n2 n3 c1 c2 c3 : Nat} {a1 a2 a3 : Option Addr} (h : RdC W size v n xs) (hx : ∀ u ∈ xs, Value.isSl u = false) (hb : Bo W b (.slice a1 n1 c1) (.slice a2 n2 c2) (.slice a3 n3 c3)) (x y z : Value) : RdC (S3 W b x y z) size v n xs := by
  obtain ⟨h1, h2, a, cap, rfl, hcap, h3⟩ := h
  refine ⟨h1, h2, a, cap, rfl, hcap, ?_⟩
  rcases h3 with h | ⟨c, off, rfl, hlt, hc⟩
  · exact .inl h
  · refine .inr ⟨c, off, rfl, by rw [S3.size]; exact hlt, ?_⟩
    by_cases e : c = b
    · subst e
      intro j u hj
      have hcell := hc j u hj
      have hb' : W.heap[c]? = some (.cells #[.slice a1 n1 c1, .slice a2 n2 c2, .slice a3 n3 c3] 43) := hb
      have hns := hx u (List.mem_of_getElem? hj)
      simp only [World.cell?, hb'] at hcell
      exfalso
      match h : off + j, hcell with
      | 0, hcell => simp at hcell; subst hcell; cases hns
      | 1, hcell => simp at hcell; subst hcell; cases hns
      | 2, hcell => simp at hcell; subst hcell; cases hns
      | k + 3, hcell => simp at hcell
    · intro j u hj
      exact (World.cell?_of_block (S3.other W b c x y z e)).trans (hc j u hj)
theorem ints_sl (zs : List Int) : ∀ u ∈ zs.map (Value.int .i64), Value.isSl u = false := fun u hu => by obtain ⟨y, _, rfl⟩ := List.mem_map.1 hu; rfl
theorem pcs_sl (ps : List Pd) : ∀ u ∈ pcs ps, Value.isSl u = false := by
  intro u hu
  obtain ⟨p, _, hp⟩ := List.mem_flatMap.1 hu
  simp [pc1] at hp
  rcases hp with rfl | rfl | rfl <;> rfl
theorem Rd.box {W : World} {v : Value} {zs : List Int} {b n1 n2 n3 c1 c2 c3 : Nat} {a1 a2 a3 : Option Addr} (h : Rd W v zs) (hb : Bo W b (.slice a1 n1 c1) (.slice a2 n2 c2) (.slice a3 n3 c3)) (x y z : Value) : Rd (S3 W b x y z) v zs := RdC.box h (ints_sl zs) hb x y z
theorem RdM.box {W : World} {va vb vc : Value} {m : Mm} {b n1 n2 n3 c1 c2 c3 : Nat} {a1 a2 a3 : Option Addr} (h : RdM W va vb vc m) (hb : Bo W b (.slice a1 n1 c1) (.slice a2 n2 c2) (.slice a3 n3 c3)) (x y z : Value) : RdM (S3 W b x y z) va vb vc m := ⟨h.vol.box hb x y z, h.per.box hb x y z, RdC.box h.pend (pcs_sl _) hb x y z⟩
/-- Where a list stands, and all that is read of it. -/
theorem Rd.base {W : World} {a : Option Addr} {n c : Nat} {zs : List Int} (h : Rd W (.slice a n c) zs) (h0 : 0 < zs.length) : ∃ b off, a = some ⟨b, off, none⟩ ∧ ∀ k z, zs[k]? = some z → W.cell? ⟨b, off + k, none⟩ = some (.int .i64 z) := by
  obtain ⟨_, _, a', cap', e, _, h3⟩ := h
  cases e
  rcases h3 with ⟨h0', _⟩ | ⟨b, off, rfl, _, hc⟩
  · omega
  · exact ⟨b, off, rfl, fun k z hz => hc k _ (by rw [List.getElem?_map, hz]; rfl)⟩
end Go.Proofs.Ytbnlekheadmecaa
namespace Go.Proofs.Ytbnlekheadmecaa
open Go.RowKit Go.Shelf
set_option linter.unusedVariables false

theorem rd_two (W : World) (x y : Int) {b : Nat} (hb : b = W.heap.size) : Rd (W.alloc (.cells #[.int .i64 x, .int .i64 y] 3)) (.slice (some ⟨b, 0, none⟩) 2 2) [x, y] := by
  subst hb
  refine ⟨rfl, by simp, some ⟨W.heap.size, 0, none⟩, 2, rfl, Nat.le_refl _, .inr ⟨W.heap.size, 0, rfl, by simp, ?_⟩⟩
  intro j u hj
  match j, hj with
  | 0, hj => cases hj; simp
  | 1, hj => cases hj; simp
theorem rd_one (W : World) (x : Int) {b : Nat} (hb : b = W.heap.size) : Rd (W.alloc (.cells #[.int .i64 x] 3)) (.slice (some ⟨b, 0, none⟩) 1 1) [x] := by
  subst hb
  refine ⟨rfl, by simp, some ⟨W.heap.size, 0, none⟩, 1, rfl, Nat.le_refl _, .inr ⟨W.heap.size, 0, rfl, by simp, ?_⟩⟩
  intro j u hj
  match j, hj with
  | 0, hj => cases hj; simp


end Go.Proofs.Ytbnlekheadmecaa
