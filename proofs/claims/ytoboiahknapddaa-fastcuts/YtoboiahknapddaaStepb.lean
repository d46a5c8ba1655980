/- Walks of layer 5: the table is made; Check. -/
import Derived.Test.YtoboiahknapddaaStepa
namespace Go.Proofs.Ytoboiahknapddaa
open Go.RowKit Go.Shelf
set_option linter.unusedVariables false

theorem ins_one {W : World} {b : Nat} (v : Value) (h : W.heap[b]? = some (.map #[] 0)) : (Instr.mapUpdate 74 (.map (some b)) (.int .i64 1) v).run Try.prog W = .ok () (ChangeMaps.setBlock W b (.map #[⟨.int .i64 1, v, 0⟩] 1)) := by
  simp [Instr.mapUpdate, run_underlying Try.underlying74, run_underlying Try.underlying3, MapKept.run_getObj_map h, check3, Instr.findKey, Instr.findNow, MapKept.run_setObj_map _ h, Result.andThen, ChangeMaps.setBlock]
theorem ins_two {W : World} {b : Nat} (u v : Value) (h : W.heap[b]? = some (.map #[⟨.int .i64 1, u, 0⟩] 1)) : (Instr.mapUpdate 74 (.map (some b)) (.int .i64 2) v).run Try.prog W = .ok () (ChangeMaps.setBlock W b (.map #[⟨.int .i64 1, u, 0⟩, ⟨.int .i64 2, v, 1⟩] 2)) := by
  simp [Instr.mapUpdate, run_underlying Try.underlying74, run_underlying Try.underlying3, MapKept.run_getObj_map h, check3, Instr.findKey, Instr.findNow, Instr.sameNow, MapKept.run_setObj_map _ h, Result.andThen, ChangeMaps.setBlock]
theorem set_new (W : World) (o o' : Obj) : (ChangeMaps.setBlock (W.alloc o) W.heap.size o').heap[W.heap.size]? = some o' := by
  simp [ChangeMaps.setBlock]
theorem set_set (W : World) (o o' o'' : Obj) : (ChangeMaps.setBlock (ChangeMaps.setBlock (W.alloc o) W.heap.size o') W.heap.size o'').heap[W.heap.size]? = some o'' := by
  simp [ChangeMaps.setBlock]
theorem below_set {a W : World} {b : Nat} (h : Below a.heap.size a W) (hb : a.heap.size ≤ b) (o : Obj) : Below a.heap.size a (ChangeMaps.setBlock W b o) := by
  refine ⟨h.os, h.tape, h.output, ?_, ?_⟩
  · simp [ChangeMaps.setBlock]; exact h.size
  · intro k hk
    rw [← h.block k hk]
    simp only [ChangeMaps.setBlock]
    exact Array.getElem?_setIfInBounds_ne (by omega)

set_option maxRecDepth 100000 in
theorem kinds_any (w : World) : Calls Try.prog 55 #[] w fun e w' => ∃ b, e = .returned (.map (some b)) ∧ Tab w' b ∧ Below w.heap.size w w' := by
  have i1 := ins_one (W := w.alloc (.map #[] 0)) (.agg #[.func (.func 62) #[] #[], .func (.func 63) #[] #[]]) (heap_alloc_new w _)
  have i2 := ins_two (W := ChangeMaps.setBlock (w.alloc (.map #[] 0)) w.heap.size (.map #[⟨.int .i64 1, .agg #[.func (.func 62) #[] #[], .func (.func 63) #[] #[]], 0⟩] 1)) (.agg #[.func (.func 62) #[] #[], .func (.func 63) #[] #[]]) (.agg #[.func (.func 64) #[] #[], .func (.func 65) #[] #[]]) (set_new w _ _)
  have mk := run_makeMap (P := Try.prog) 74 w
  go_enter Try.func55, Try.ntmps55
  go_wp2
  go_ret
  exact ⟨_, rfl, set_set w _ _ _, below_set (below_set ((Below.refl _ _).alloc (Nat.le_refl _) _) (Nat.le_refl _) _) (Nat.le_refl _) _⟩
end Go.Proofs.Ytoboiahknapddaa
