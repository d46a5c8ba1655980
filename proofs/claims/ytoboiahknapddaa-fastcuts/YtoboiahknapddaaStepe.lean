/- Walks of layer 5: a copy; what steps leave. -/
import Derived.Test.YtoboiahknapddaaStepd
namespace Go.Proofs.Ytoboiahknapddaa
open Go.RowKit Go.Shelf
set_option linter.unusedVariables false

set_option maxRecDepth 100000 in
set_option maxHeartbeats 1000000 in
theorem cloneS_any (va vb vc : Value) (m : Mm) (w : World) (hR : RdM w va vb vc m) : Calls Try.prog 47 #[.agg #[va, vb, vc]] w fun e w' => ∃ va' vb' vc', e = .returned (.agg #[va', vb', vc']) ∧ OwnM w' w.heap.size va' vb' vc' m ∧ Below w.heap.size w w' := by
  have B0 : Below w.heap.size w ((w.alloc (.cells #[va, vb, vc] 41)).alloc (.cells #[.slice none 0 0, .slice none 0 0, .slice none 0 0] 41)) := ((Below.refl _ _).alloc (Nat.le_refl _) _).alloc (by simp) _
  have R0 := hR.below B0
  have X0 : Bx ((w.alloc (.cells #[va, vb, vc] 41)).alloc (.cells #[.slice none 0 0, .slice none 0 0, .slice none 0 0] 41)) w.heap.size va vb vc := by simp [Bx]
  have X1 : Bx ((w.alloc (.cells #[va, vb, vc] 41)).alloc (.cells #[.slice none 0 0, .slice none 0 0, .slice none 0 0] 41)) (w.heap.size + 1) (.slice none 0 0) (.slice none 0 0) (.slice none 0 0) := by simp [Bx]
  have hs : w.heap.size + 1 < ((w.alloc (.cells #[va, vb, vc] 41)).alloc (.cells #[.slice none 0 0, .slice none 0 0, .slice none 0 0] 41)).heap.size := by simp
  go_enter Try.func47, Try.ntmps47
  go_wp2
  generalize ((w.alloc (.cells #[va, vb, vc] 41)).alloc (.cells #[.slice none 0 0, .slice none 0 0, .slice none 0 0] 41)) = W0 at *
  have hS0 : SC w w.heap.size va vb vc W0.drew := ⟨X0.1, B0.drew⟩
  have S0 : Hid (SC w w.heap.size va vb vc W0.drew) := hS0
  have X1 : Hid (Bx W0.drew (w.heap.size + 1) (.slice none 0 0) (.slice none 0 0) (.slice none 0 0)) := X1
  have hS0 : Hid (w.heap.size + 1 < W0.drew.heap.size) := hs
  clear B0 R0 X0 hs
  have t1 : Hid (0 = 0) := rfl
  go_region_held3 (fun w2 => (w2.cell? ⟨w.heap.size, 0, none⟩ = some va ∧ w2.cell? ⟨w.heap.size, 1, none⟩ = some vb ∧ w2.cell? ⟨w.heap.size, 2, none⟩ = some vc) ∧ Below w.heap.size w w2)
    (first | exact S0.out | exact SC.next (by assumption) (by assumption) | exact (((SC.next hb3 (by assumption)).store (Nat.ne_of_lt (Nat.lt_succ_self _)) (Nat.le_succ _) 0 _).store (Nat.ne_of_lt (Nat.lt_succ_self _)) (Nat.le_succ _) 1 _).store (Nat.ne_of_lt (Nat.lt_succ_self _)) (Nat.le_succ _) 2 _ | exact ((SC.store (by assumption) (Nat.ne_of_lt (Nat.lt_succ_self _)) (Nat.le_succ _) 0 _).store (Nat.ne_of_lt (Nat.lt_succ_self _)) (Nat.le_succ _) 1 _).store (Nat.ne_of_lt (Nat.lt_succ_self _)) (Nat.le_succ _) 2 _)
    (first | (go_at_call 41; clear t1; refine (cloneI_any _ m.vol _ (hR.below S0.out.2).vol).mono ?_; rintro e w1 ⟨v1, rfl, o1, hb1⟩; obtain ⟨a1, c1, rfl⟩ := o1.form) | (go_at_call 41; refine (cloneI_any _ m.per _ (hR.below (bstep S0.out.2 hb1)).per).mono ?_; rintro e w2 ⟨v2, rfl, o2, hb2⟩; obtain ⟨a2, c2, rfl⟩ := o2.form) | (go_at_call 57; refine (cloneP_any _ m.pend _ (hR.below (bstep (bstep S0.out.2 hb1) hb2)).pend).mono ?_; rintro e w3 ⟨v3, rfl, o3, hb3⟩; obtain ⟨a3, c3, rfl⟩ := o3.form; obtain ⟨⟨x0, x1, x2⟩, f0, f1, f2⟩ := ((X1.out.below hb1).below hb2).below hb3))
  go_wp2
  have hX := ((X1.out.below hb1).below hb2).below hb3
  have hS1 := hb1.size
  have hS2 := hb2.size
  have hS0 := hS0.out
  have hX' := hX.set3 (.slice a1 m.vol.length c1) (.slice a2 m.per.length c2) (.slice a3 m.pend.length c3)
  have hB := (((bstep (bstep (bstep S0.out.2 hb1) hb2) hb3).setCell (p := ⟨w.heap.size + 1, 0, none⟩) (Nat.le_succ _) (.slice a1 m.vol.length c1)).setCell (p := ⟨w.heap.size + 1, 1, none⟩) (Nat.le_succ _) (.slice a2 m.per.length c2)).setCell (p := ⟨w.heap.size + 1, 2, none⟩) (Nat.le_succ _) (.slice a3 m.pend.length c3)
  have o1' := own_mono o1 (base' := w.heap.size + 2) (by omega)
  have o2' := own_mono o2 (base' := w.heap.size + 2) (by omega)
  have o3' := own_mono o3 (base' := w.heap.size + 2) (by omega)
  have hO : OwnM w3 (w.heap.size + 2) (.slice a1 m.vol.length c1) (.slice a2 m.per.length c2) (.slice a3 m.pend.length c3) m := ⟨own_below (own_below o1' hb2) hb3, own_below o2' hb3, o3', apart_made o1 o2 (Nat.le_refl _), apart_made o1 o3 hS2, apart_made o2 o3 (Nat.le_refl _)⟩
  have hO' := (((hO.setCell (p := ⟨w.heap.size + 1, 0, none⟩) (by show w.heap.size + 1 < _; omega) (.slice a1 m.vol.length c1)).setCell (p := ⟨w.heap.size + 1, 1, none⟩) (by show w.heap.size + 1 < _; omega) (.slice a2 m.per.length c2)).setCell (p := ⟨w.heap.size + 1, 2, none⟩) (by show w.heap.size + 1 < _; omega) (.slice a3 m.pend.length c3)).mono (base' := w.heap.size) (by omega)
  clear hO o1' o2' o3' hX
  exact bodyPost_ret (v := .agg #[.slice a1 m.vol.length c1, .slice a2 m.per.length c2, .slice a3 m.pend.length c3]) (ret_cell (p := 2) (b := w.heap.size + 1) Try.results47 rfl hX') rfl ⟨_, _, _, rfl, hO', hB⟩

end Go.Proofs.Ytoboiahknapddaa
