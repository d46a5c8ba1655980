/- Walks of layer 5: a step is done: store, persist. · Walks of layer 5: a copy; what steps leave. -/
import Derived.Test.YtbnlekheadmecaaStepc
import Derived.Test.YtbnlekheadmecaaLawa
namespace Go.Proofs.Ytbnlekheadmecaa
open Go.RowKit Go.Shelf
set_option linter.unusedVariables false

/-- Three boxes are made: a step's, a memory's, the answer's. -/
def W3 (w : World) (x : Mi) (u1 u2 u3 : Value) : World := ((w.alloc (.cells #[.int .i64 x.k, .int .i64 x.a, .int .i64 x.v] 78)).alloc (.cells #[u1, u2, u3] 43)).alloc (.cells #[.slice none 0 0, .slice none 0 0, .slice none 0 0] 43)
theorem W3.below (w : World) (x : Mi) (u1 u2 u3 : Value) : Below w.heap.size w (W3 w x u1 u2 u3) := (((Below.refl _ _).alloc (Nat.le_refl _) _).alloc (by simp) _).alloc (by simp; omega) _
theorem W3.box (w : World) (x : Mi) (u1 u2 u3 : Value) : Bo (W3 w x u1 u2 u3) (w.heap.size + 1 + 1) (.slice none 0 0) (.slice none 0 0) (.slice none 0 0) := by
  have := Bo.new ((w.alloc (.cells #[.int .i64 x.k, .int .i64 x.a, .int .i64 x.v] 78)).alloc (.cells #[u1, u2, u3] 43)) (.slice none 0 0) (.slice none 0 0) (.slice none 0 0)
  simpa [W3] using this

set_option maxRecDepth 100000 in
set_option maxHeartbeats 4000000 in
theorem store_any (x : Mi) (va vb vc : Value) (m : Mm) (w : World) (hR : RdM w va vb vc m) (hp : m.pend.length ≤ 900) : Calls Try.prog 51 #[.agg #[.int .i64 x.k, .int .i64 x.a, .int .i64 x.v], .agg #[va, vb, vc]] w fun e w' => ∃ va' vb' vc', e = .returned (.agg #[va', vb', vc']) ∧ RdM w' va' vb' vc' (putM m x.a x.v) ∧ Below w.heap.size w w' := by
  obtain ⟨l1, l2, l3⟩ := hR.lens
  obtain ⟨a1, c1, a2, c2, a3, c3, rfl, rfl, rfl⟩ := hR.forms
  obtain ⟨xk, xa, xv⟩ := x
  have HR : Hid (RdM w (.slice a1 m.vol.length c1) (.slice a2 m.per.length c2) (.slice a3 m.pend.length c3) m) := hR
  have HB : Hid (Below w.heap.size w (W3 w ⟨xk, xa, xv⟩ (.slice a1 m.vol.length c1) (.slice a2 m.per.length c2) (.slice a3 m.pend.length c3))) := W3.below _ _ _ _ _
  have HY : Hid (Bo (W3 w ⟨xk, xa, xv⟩ (.slice a1 m.vol.length c1) (.slice a2 m.per.length c2) (.slice a3 m.pend.length c3)) (w.heap.size + 1 + 1) (.slice none 0 0) (.slice none 0 0) (.slice none 0 0)) := W3.box _ _ _ _ _
  clear hR
  go_enter Try.func51, Try.ntmps51
  go_wp2_with (first
    | (go_at_call 55; refine (put_any _ _ _ m xa xv _ (HR.out.below HB.out) hp).mono ?_; rintro e w1 ⟨v1, v2, v3, rfl, R1, hb1⟩; obtain ⟨b1, d1, b2, d2, b3, d3, rfl, rfl, rfl⟩ := R1.forms; have b2' : Below w1.heap.size w1 (w1.alloc (.cells #[.slice b1 (putM m xa xv).vol.length d1, .slice b2 (putM m xa xv).per.length d2, .slice b3 (putM m xa xv).pend.length d3] 43)) := (Below.refl _ _).alloc (Nat.le_refl _) _; have HR1 : Hid (RdM (w1.alloc (.cells #[.slice b1 (putM m xa xv).vol.length d1, .slice b2 (putM m xa xv).per.length d2, .slice b3 (putM m xa xv).pend.length d3] 43)) (.slice b1 (putM m xa xv).vol.length d1) (.slice b2 (putM m xa xv).per.length d2) (.slice b3 (putM m xa xv).pend.length d3) (putM m xa xv)) := R1.below b2'; have HB1 : Hid (Below w.heap.size w (w1.alloc (.cells #[.slice b1 (putM m xa xv).vol.length d1, .slice b2 (putM m xa xv).per.length d2, .slice b3 (putM m xa xv).pend.length d3] 43))) := bstep (bstep HB.out hb1) b2'; have HY1 : Hid (Bo (w1.alloc (.cells #[.slice b1 (putM m xa xv).vol.length d1, .slice b2 (putM m xa xv).per.length d2, .slice b3 (putM m xa xv).pend.length d3] 43)) (w.heap.size + 1 + 1) (.slice none 0 0) (.slice none 0 0) (.slice none 0 0)) := (HY.out.below hb1).below b2'; obtain ⟨⟨y0, y1, y2⟩, yf0, yf1, yf2⟩ := HY1.out.bx; clear R1 hb1 b2'))
  obtain ⟨f1, f2, f3⟩ := finishR HR1.out HY1.out HB1.out (by omega)
  exact bodyPost_ret (ret_cell (p := 4) (b := w.heap.size + 1 + 1) Try.results51 rfl f1) rfl ⟨_, _, _, rfl, f2, f3⟩
set_option maxRecDepth 100000 in
set_option maxHeartbeats 4000000 in
theorem persist_any (x : Mi) (va vb vc : Value) (m : Mm) (w : World) (hR : RdM w va vb vc m) : Calls Try.prog 53 #[.agg #[.int .i64 x.k, .int .i64 x.a, .int .i64 x.v], .agg #[va, vb, vc]] w fun e w' => ∃ va' vb' vc', e = .returned (.agg #[va', vb', vc']) ∧ RdM w' va' vb' vc' (fenM (fluM m x.a)) ∧ Below w.heap.size w w' := by
  obtain ⟨l1, l2, l3⟩ := hR.lens
  obtain ⟨a1, c1, a2, c2, a3, c3, rfl, rfl, rfl⟩ := hR.forms
  obtain ⟨xk, xa, xv⟩ := x
  have HR : Hid (RdM w (.slice a1 m.vol.length c1) (.slice a2 m.per.length c2) (.slice a3 m.pend.length c3) m) := hR
  have HB : Hid (Below w.heap.size w (W3 w ⟨xk, xa, xv⟩ (.slice a1 m.vol.length c1) (.slice a2 m.per.length c2) (.slice a3 m.pend.length c3))) := W3.below _ _ _ _ _
  have HY : Hid (Bo (W3 w ⟨xk, xa, xv⟩ (.slice a1 m.vol.length c1) (.slice a2 m.per.length c2) (.slice a3 m.pend.length c3)) (w.heap.size + 1 + 1) (.slice none 0 0) (.slice none 0 0) (.slice none 0 0)) := W3.box _ _ _ _ _
  clear hR
  go_enter Try.func53, Try.ntmps53
  go_wp2_with (first
    | (go_at_call 56; refine (flush_any _ _ _ m xa _ (HR.out.below HB.out)).mono ?_; rintro e w1 ⟨v1, v2, v3, rfl, R1, hb1⟩; obtain ⟨f1, fd1, f2, fd2, f3, fd3, rfl, rfl, rfl⟩ := R1.forms; have b2' : Below w1.heap.size w1 (w1.alloc (.cells #[.slice f1 (fluM m xa).vol.length fd1, .slice f2 (fluM m xa).per.length fd2, .slice f3 (fluM m xa).pend.length fd3] 43)) := (Below.refl _ _).alloc (Nat.le_refl _) _; have HR1 : Hid (RdM (w1.alloc (.cells #[.slice f1 (fluM m xa).vol.length fd1, .slice f2 (fluM m xa).per.length fd2, .slice f3 (fluM m xa).pend.length fd3] 43)) (.slice f1 (fluM m xa).vol.length fd1) (.slice f2 (fluM m xa).per.length fd2) (.slice f3 (fluM m xa).pend.length fd3) (fluM m xa)) := R1.below b2'; have HB1 : Hid (Below w.heap.size w (w1.alloc (.cells #[.slice f1 (fluM m xa).vol.length fd1, .slice f2 (fluM m xa).per.length fd2, .slice f3 (fluM m xa).pend.length fd3] 43))) := bstep (bstep HB.out hb1) b2'; have HY1 : Hid (Bo (w1.alloc (.cells #[.slice f1 (fluM m xa).vol.length fd1, .slice f2 (fluM m xa).per.length fd2, .slice f3 (fluM m xa).pend.length fd3] 43)) (w.heap.size + 1 + 1) (.slice none 0 0) (.slice none 0 0) (.slice none 0 0)) := (HY.out.below hb1).below b2'; have HX1 : Hid (Bo (w1.alloc (.cells #[.slice f1 (fluM m xa).vol.length fd1, .slice f2 (fluM m xa).per.length fd2, .slice f3 (fluM m xa).pend.length fd3] 43)) w1.heap.size (.slice f1 (fluM m xa).vol.length fd1) (.slice f2 (fluM m xa).per.length fd2) (.slice f3 (fluM m xa).pend.length fd3)) := Bo.new _ _ _ _; have Hlt : Hid (w.heap.size + 1 + 1 < w1.heap.size) := (HY.out.below hb1).lt; clear R1 hb1 b2')
    | (go_at_call 57; refine (fence_any _ _ _ (fluM m xa) _ HR1.out).mono ?_; rintro e w3 ⟨v1, v2, v3, rfl, R3, hb3⟩; obtain ⟨g1, gd1, g2, gd2, g3, gd3, rfl, rfl, rfl⟩ := R3.forms; have X3 := HX1.out.below hb3; obtain ⟨⟨x0, x1, x2⟩, xf0, xf1, xf2⟩ := X3.bx; have HR4 : Hid (RdM (((w3.setCell ⟨w1.heap.size, 0, none⟩ (.slice g1 (fenM (fluM m xa)).vol.length gd1)).setCell ⟨w1.heap.size, 1, none⟩ (.slice g2 (fenM (fluM m xa)).per.length gd2)).setCell ⟨w1.heap.size, 2, none⟩ (.slice g3 (fenM (fluM m xa)).pend.length gd3)) (.slice g1 (fenM (fluM m xa)).vol.length gd1) (.slice g2 (fenM (fluM m xa)).per.length gd2) (.slice g3 (fenM (fluM m xa)).pend.length gd3) (fenM (fluM m xa))) := R3.box X3 _ _ _; have HY4 : Hid (Bo (((w3.setCell ⟨w1.heap.size, 0, none⟩ (.slice g1 (fenM (fluM m xa)).vol.length gd1)).setCell ⟨w1.heap.size, 1, none⟩ (.slice g2 (fenM (fluM m xa)).per.length gd2)).setCell ⟨w1.heap.size, 2, none⟩ (.slice g3 (fenM (fluM m xa)).pend.length gd3)) (w.heap.size + 1 + 1) (.slice none 0 0) (.slice none 0 0) (.slice none 0 0)) := (HY1.out.below hb3).other (by have := Hlt.out; omega) _ _ _; have HB4 : Hid (Below w.heap.size w (((w3.setCell ⟨w1.heap.size, 0, none⟩ (.slice g1 (fenM (fluM m xa)).vol.length gd1)).setCell ⟨w1.heap.size, 1, none⟩ (.slice g2 (fenM (fluM m xa)).per.length gd2)).setCell ⟨w1.heap.size, 2, none⟩ (.slice g3 (fenM (fluM m xa)).pend.length gd3))) := S3.below (bstep HB1.out hb3) (by have := Hlt.out; omega) _ _ _; obtain ⟨⟨y0, y1, y2⟩, yf0, yf1, yf2⟩ := HY4.out.bx; obtain ⟨⟨z0, z1, z2⟩, -⟩ := (X3.set (.slice g1 (fenM (fluM m xa)).vol.length gd1) (.slice g2 (fenM (fluM m xa)).per.length gd2) (.slice g3 (fenM (fluM m xa)).pend.length gd3)).bx; clear R3 hb3 X3))
  obtain ⟨f1, f2, f3⟩ := finishR HR4.out HY4.out HB4.out (by omega)
  exact bodyPost_ret (ret_cell (p := 4) (b := w.heap.size + 1 + 1) Try.results53 rfl f1) rfl ⟨_, _, _, rfl, f2, f3⟩
end Go.Proofs.Ytbnlekheadmecaa
namespace Go.Proofs.Ytbnlekheadmecaa
open Go.RowKit Go.Shelf
set_option linter.unusedVariables false

set_option maxRecDepth 100000 in
set_option maxHeartbeats 1000000 in
theorem cloneS_any (va vb vc : Value) (m : Mm) (w : World) (hR : RdM w va vb vc m) : Calls Try.prog 35 #[.agg #[va, vb, vc]] w fun e w' => ∃ va' vb' vc', e = .returned (.agg #[va', vb', vc']) ∧ OwnM w' w.heap.size va' vb' vc' m ∧ Below w.heap.size w w' := by
  have B0 : Below w.heap.size w ((w.alloc (.cells #[va, vb, vc] 43)).alloc (.cells #[.slice none 0 0, .slice none 0 0, .slice none 0 0] 43)) := ((Below.refl _ _).alloc (Nat.le_refl _) _).alloc (by simp) _
  have R0 := hR.below B0
  have X0 : Bx ((w.alloc (.cells #[va, vb, vc] 43)).alloc (.cells #[.slice none 0 0, .slice none 0 0, .slice none 0 0] 43)) w.heap.size va vb vc := by simp [Bx]
  have X1 : Bx ((w.alloc (.cells #[va, vb, vc] 43)).alloc (.cells #[.slice none 0 0, .slice none 0 0, .slice none 0 0] 43)) (w.heap.size + 1) (.slice none 0 0) (.slice none 0 0) (.slice none 0 0) := by simp [Bx]
  have hs : w.heap.size + 1 < ((w.alloc (.cells #[va, vb, vc] 43)).alloc (.cells #[.slice none 0 0, .slice none 0 0, .slice none 0 0] 43)).heap.size := by simp
  go_enter Try.func35, Try.ntmps35
  go_wp2
  generalize ((w.alloc (.cells #[va, vb, vc] 43)).alloc (.cells #[.slice none 0 0, .slice none 0 0, .slice none 0 0] 43)) = W0 at *
  have hS0 : SC w w.heap.size va vb vc W0.drew := ⟨X0.1, B0.drew⟩
  have S0 : Hid (SC w w.heap.size va vb vc W0.drew) := hS0
  have X1 : Hid (Bx W0.drew (w.heap.size + 1) (.slice none 0 0) (.slice none 0 0) (.slice none 0 0)) := X1
  have hS0 : Hid (w.heap.size + 1 < W0.drew.heap.size) := hs
  clear B0 R0 X0 hs
  have t1 : Hid (0 = 0) := rfl
  go_region_held3 (fun w2 => (w2.cell? ⟨w.heap.size, 0, none⟩ = some va ∧ w2.cell? ⟨w.heap.size, 1, none⟩ = some vb ∧ w2.cell? ⟨w.heap.size, 2, none⟩ = some vc) ∧ Below w.heap.size w w2)
    (first | exact S0.out | exact SC.next (by assumption) (by assumption) | exact (((SC.next hb3 (by assumption)).store (Nat.ne_of_lt (Nat.lt_succ_self _)) (Nat.le_succ _) 0 _).store (Nat.ne_of_lt (Nat.lt_succ_self _)) (Nat.le_succ _) 1 _).store (Nat.ne_of_lt (Nat.lt_succ_self _)) (Nat.le_succ _) 2 _ | exact ((SC.store (by assumption) (Nat.ne_of_lt (Nat.lt_succ_self _)) (Nat.le_succ _) 0 _).store (Nat.ne_of_lt (Nat.lt_succ_self _)) (Nat.le_succ _) 1 _).store (Nat.ne_of_lt (Nat.lt_succ_self _)) (Nat.le_succ _) 2 _)
    (first | (go_at_call 33; clear t1; refine (cloneI_any _ m.vol _ (hR.below S0.out.2).vol).mono ?_; rintro e w1 ⟨v1, rfl, o1, hb1⟩; obtain ⟨a1, c1, rfl⟩ := o1.form) | (go_at_call 33; refine (cloneI_any _ m.per _ (hR.below (bstep S0.out.2 hb1)).per).mono ?_; rintro e w2 ⟨v2, rfl, o2, hb2⟩; obtain ⟨a2, c2, rfl⟩ := o2.form) | (go_at_call 42; refine (cloneP_any _ m.pend _ (hR.below (bstep (bstep S0.out.2 hb1) hb2)).pend).mono ?_; rintro e w3 ⟨v3, rfl, o3, hb3⟩; obtain ⟨a3, c3, rfl⟩ := o3.form; obtain ⟨⟨x0, x1, x2⟩, f0, f1, f2⟩ := ((X1.out.below hb1).below hb2).below hb3))
  go_wp2
  have hX := ((X1.out.below hb1).below hb2).below hb3
  have hS1 := hb1.size
  have hS2 := hb2.size
  have hS0 := hS0.out
  have hX' := hX.set3 (.slice a1 m.vol.length c1) (.slice a2 m.per.length c2) (.slice a3 m.pend.length c3)
  have hB := (((bstep (bstep (bstep S0.out.2 hb1) hb2) hb3).setCell (p := ⟨w.heap.size + 1, 0, none⟩) (Nat.le_succ _) (.slice a1 m.vol.length c1)).setCell (p := ⟨w.heap.size + 1, 1, none⟩) (Nat.le_succ _) (.slice a2 m.per.length c2)).setCell (p := ⟨w.heap.size + 1, 2, none⟩) (Nat.le_succ _) (.slice a3 m.pend.length c3)
  have o1' := own_mono o1 (base' := w.heap.size + 2) (by omega)
  have o2' := own_mono o2 (base' := w.heap.size + 2) (by omega)
  have o3' := own_mono o3 (base' := w.heap.size + 2) (by omega)
  have hO : OwnM w3 (w.heap.size + 2) (.slice a1 m.vol.length c1) (.slice a2 m.per.length c2) (.slice a3 m.pend.length c3) m := ⟨own_below (own_below o1' hb2) hb3, own_below o2' hb3, o3', apart_made o1 o2 (Nat.le_refl _), apart_made o1 o3 hS2, apart_made o2 o3 (Nat.le_refl _)⟩
  have hO' := (((hO.setCell (p := ⟨w.heap.size + 1, 0, none⟩) (by show w.heap.size + 1 < _; omega) (.slice a1 m.vol.length c1)).setCell (p := ⟨w.heap.size + 1, 1, none⟩) (by show w.heap.size + 1 < _; omega) (.slice a2 m.per.length c2)).setCell (p := ⟨w.heap.size + 1, 2, none⟩) (by show w.heap.size + 1 < _; omega) (.slice a3 m.pend.length c3)).mono (base' := w.heap.size) (by omega)
  clear hO o1' o2' o3' hX
  exact bodyPost_ret (v := .agg #[.slice a1 m.vol.length c1, .slice a2 m.per.length c2, .slice a3 m.pend.length c3]) (ret_cell (p := 2) (b := w.heap.size + 1) Try.results35 rfl hX') rfl ⟨_, _, _, rfl, hO', hB⟩

end Go.Proofs.Ytbnlekheadmecaa
