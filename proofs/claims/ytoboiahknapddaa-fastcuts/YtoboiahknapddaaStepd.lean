/- Walks of layer 5: a step is done: store, persist. -/
import Derived.Test.YtoboiahknapddaaStepc
import Derived.Test.YtoboiahknapddaaWalks
namespace Go.Proofs.Ytoboiahknapddaa
open Go.RowKit Go.Shelf
set_option linter.unusedVariables false

/-- Three boxes are made: a step's, a memory's, the answer's. -/
def W3 (w : World) (x : Mi) (u1 u2 u3 : Value) : World := ((w.alloc (.cells #[.int .i64 x.k, .int .i64 x.a, .int .i64 x.v] 80)).alloc (.cells #[u1, u2, u3] 41)).alloc (.cells #[.slice none 0 0, .slice none 0 0, .slice none 0 0] 41)
theorem W3.below (w : World) (x : Mi) (u1 u2 u3 : Value) : Below w.heap.size w (W3 w x u1 u2 u3) := (((Below.refl _ _).alloc (Nat.le_refl _) _).alloc (by simp) _).alloc (by simp; omega) _
theorem W3.box (w : World) (x : Mi) (u1 u2 u3 : Value) : Bo (W3 w x u1 u2 u3) (w.heap.size + 1 + 1) (.slice none 0 0) (.slice none 0 0) (.slice none 0 0) := by
  have := Bo.new ((w.alloc (.cells #[.int .i64 x.k, .int .i64 x.a, .int .i64 x.v] 80)).alloc (.cells #[u1, u2, u3] 41)) (.slice none 0 0) (.slice none 0 0) (.slice none 0 0)
  simpa [W3] using this

set_option maxRecDepth 100000 in
set_option maxHeartbeats 4000000 in
theorem store_any (x : Mi) (va vb vc : Value) (m : Mm) (w : World) (hR : RdM w va vb vc m) (hp : m.pend.length ≤ 900) : Calls Try.prog 63 #[.agg #[.int .i64 x.k, .int .i64 x.a, .int .i64 x.v], .agg #[va, vb, vc]] w fun e w' => ∃ va' vb' vc', e = .returned (.agg #[va', vb', vc']) ∧ RdM w' va' vb' vc' (putM m x.a x.v) ∧ Below w.heap.size w w' := by
  obtain ⟨l1, l2, l3⟩ := hR.lens
  obtain ⟨a1, c1, a2, c2, a3, c3, rfl, rfl, rfl⟩ := hR.forms
  obtain ⟨xk, xa, xv⟩ := x
  have HR : Hid (RdM w (.slice a1 m.vol.length c1) (.slice a2 m.per.length c2) (.slice a3 m.pend.length c3) m) := hR
  have HB : Hid (Below w.heap.size w (W3 w ⟨xk, xa, xv⟩ (.slice a1 m.vol.length c1) (.slice a2 m.per.length c2) (.slice a3 m.pend.length c3))) := W3.below _ _ _ _ _
  have HY : Hid (Bo (W3 w ⟨xk, xa, xv⟩ (.slice a1 m.vol.length c1) (.slice a2 m.per.length c2) (.slice a3 m.pend.length c3)) (w.heap.size + 1 + 1) (.slice none 0 0) (.slice none 0 0) (.slice none 0 0)) := W3.box _ _ _ _ _
  clear hR
  go_enter Try.func63, Try.ntmps63
  go_wp2_with (first
    | (go_at_call 66; refine (put_any _ _ _ m xa xv _ (HR.out.below HB.out) hp).mono ?_; rintro e w1 ⟨v1, v2, v3, rfl, R1, hb1⟩; obtain ⟨b1, d1, b2, d2, b3, d3, rfl, rfl, rfl⟩ := R1.forms; have b2' : Below w1.heap.size w1 (w1.alloc (.cells #[.slice b1 (putM m xa xv).vol.length d1, .slice b2 (putM m xa xv).per.length d2, .slice b3 (putM m xa xv).pend.length d3] 41)) := (Below.refl _ _).alloc (Nat.le_refl _) _; have HR1 : Hid (RdM (w1.alloc (.cells #[.slice b1 (putM m xa xv).vol.length d1, .slice b2 (putM m xa xv).per.length d2, .slice b3 (putM m xa xv).pend.length d3] 41)) (.slice b1 (putM m xa xv).vol.length d1) (.slice b2 (putM m xa xv).per.length d2) (.slice b3 (putM m xa xv).pend.length d3) (putM m xa xv)) := R1.below b2'; have HB1 : Hid (Below w.heap.size w (w1.alloc (.cells #[.slice b1 (putM m xa xv).vol.length d1, .slice b2 (putM m xa xv).per.length d2, .slice b3 (putM m xa xv).pend.length d3] 41))) := bstep (bstep HB.out hb1) b2'; have HY1 : Hid (Bo (w1.alloc (.cells #[.slice b1 (putM m xa xv).vol.length d1, .slice b2 (putM m xa xv).per.length d2, .slice b3 (putM m xa xv).pend.length d3] 41)) (w.heap.size + 1 + 1) (.slice none 0 0) (.slice none 0 0) (.slice none 0 0)) := (HY.out.below hb1).below b2'; obtain ⟨⟨y0, y1, y2⟩, yf0, yf1, yf2⟩ := HY1.out.bx; clear R1 hb1 b2'))
  obtain ⟨f1, f2, f3⟩ := finishR HR1.out HY1.out HB1.out (by omega)
  exact bodyPost_ret (ret_cell (p := 4) (b := w.heap.size + 1 + 1) Try.results63 rfl f1) rfl ⟨_, _, _, rfl, f2, f3⟩
set_option maxRecDepth 100000 in
set_option maxHeartbeats 4000000 in
theorem persist_any (x : Mi) (va vb vc : Value) (m : Mm) (w : World) (hR : RdM w va vb vc m) : Calls Try.prog 65 #[.agg #[.int .i64 x.k, .int .i64 x.a, .int .i64 x.v], .agg #[va, vb, vc]] w fun e w' => ∃ va' vb' vc', e = .returned (.agg #[va', vb', vc']) ∧ RdM w' va' vb' vc' (fenM (fluM m x.a)) ∧ Below w.heap.size w w' := by
  obtain ⟨l1, l2, l3⟩ := hR.lens
  obtain ⟨a1, c1, a2, c2, a3, c3, rfl, rfl, rfl⟩ := hR.forms
  obtain ⟨xk, xa, xv⟩ := x
  have HR : Hid (RdM w (.slice a1 m.vol.length c1) (.slice a2 m.per.length c2) (.slice a3 m.pend.length c3) m) := hR
  have HB : Hid (Below w.heap.size w (W3 w ⟨xk, xa, xv⟩ (.slice a1 m.vol.length c1) (.slice a2 m.per.length c2) (.slice a3 m.pend.length c3))) := W3.below _ _ _ _ _
  have HY : Hid (Bo (W3 w ⟨xk, xa, xv⟩ (.slice a1 m.vol.length c1) (.slice a2 m.per.length c2) (.slice a3 m.pend.length c3)) (w.heap.size + 1 + 1) (.slice none 0 0) (.slice none 0 0) (.slice none 0 0)) := W3.box _ _ _ _ _
  clear hR
  go_enter Try.func65, Try.ntmps65
  go_wp2_with (first
    | (go_at_call 67; refine (flush_any _ _ _ m xa _ (HR.out.below HB.out)).mono ?_; rintro e w1 ⟨v1, v2, v3, rfl, R1, hb1⟩; obtain ⟨f1, fd1, f2, fd2, f3, fd3, rfl, rfl, rfl⟩ := R1.forms; have b2' : Below w1.heap.size w1 (w1.alloc (.cells #[.slice f1 (fluM m xa).vol.length fd1, .slice f2 (fluM m xa).per.length fd2, .slice f3 (fluM m xa).pend.length fd3] 41)) := (Below.refl _ _).alloc (Nat.le_refl _) _; have HR1 : Hid (RdM (w1.alloc (.cells #[.slice f1 (fluM m xa).vol.length fd1, .slice f2 (fluM m xa).per.length fd2, .slice f3 (fluM m xa).pend.length fd3] 41)) (.slice f1 (fluM m xa).vol.length fd1) (.slice f2 (fluM m xa).per.length fd2) (.slice f3 (fluM m xa).pend.length fd3) (fluM m xa)) := R1.below b2'; have HB1 : Hid (Below w.heap.size w (w1.alloc (.cells #[.slice f1 (fluM m xa).vol.length fd1, .slice f2 (fluM m xa).per.length fd2, .slice f3 (fluM m xa).pend.length fd3] 41))) := bstep (bstep HB.out hb1) b2'; have HY1 : Hid (Bo (w1.alloc (.cells #[.slice f1 (fluM m xa).vol.length fd1, .slice f2 (fluM m xa).per.length fd2, .slice f3 (fluM m xa).pend.length fd3] 41)) (w.heap.size + 1 + 1) (.slice none 0 0) (.slice none 0 0) (.slice none 0 0)) := (HY.out.below hb1).below b2'; have HX1 : Hid (Bo (w1.alloc (.cells #[.slice f1 (fluM m xa).vol.length fd1, .slice f2 (fluM m xa).per.length fd2, .slice f3 (fluM m xa).pend.length fd3] 41)) w1.heap.size (.slice f1 (fluM m xa).vol.length fd1) (.slice f2 (fluM m xa).per.length fd2) (.slice f3 (fluM m xa).pend.length fd3)) := Bo.new _ _ _ _; have Hlt : Hid (w.heap.size + 1 + 1 < w1.heap.size) := (HY.out.below hb1).lt; clear R1 hb1 b2')
    | (go_at_call 68; refine (fence_any _ _ _ (fluM m xa) _ HR1.out).mono ?_; rintro e w3 ⟨v1, v2, v3, rfl, R3, hb3⟩; obtain ⟨g1, gd1, g2, gd2, g3, gd3, rfl, rfl, rfl⟩ := R3.forms; have X3 := HX1.out.below hb3; obtain ⟨⟨x0, x1, x2⟩, xf0, xf1, xf2⟩ := X3.bx; have HR4 : Hid (RdM (((w3.setCell ⟨w1.heap.size, 0, none⟩ (.slice g1 (fenM (fluM m xa)).vol.length gd1)).setCell ⟨w1.heap.size, 1, none⟩ (.slice g2 (fenM (fluM m xa)).per.length gd2)).setCell ⟨w1.heap.size, 2, none⟩ (.slice g3 (fenM (fluM m xa)).pend.length gd3)) (.slice g1 (fenM (fluM m xa)).vol.length gd1) (.slice g2 (fenM (fluM m xa)).per.length gd2) (.slice g3 (fenM (fluM m xa)).pend.length gd3) (fenM (fluM m xa))) := R3.box X3 _ _ _; have HY4 : Hid (Bo (((w3.setCell ⟨w1.heap.size, 0, none⟩ (.slice g1 (fenM (fluM m xa)).vol.length gd1)).setCell ⟨w1.heap.size, 1, none⟩ (.slice g2 (fenM (fluM m xa)).per.length gd2)).setCell ⟨w1.heap.size, 2, none⟩ (.slice g3 (fenM (fluM m xa)).pend.length gd3)) (w.heap.size + 1 + 1) (.slice none 0 0) (.slice none 0 0) (.slice none 0 0)) := (HY1.out.below hb3).other (by have := Hlt.out; omega) _ _ _; have HB4 : Hid (Below w.heap.size w (((w3.setCell ⟨w1.heap.size, 0, none⟩ (.slice g1 (fenM (fluM m xa)).vol.length gd1)).setCell ⟨w1.heap.size, 1, none⟩ (.slice g2 (fenM (fluM m xa)).per.length gd2)).setCell ⟨w1.heap.size, 2, none⟩ (.slice g3 (fenM (fluM m xa)).pend.length gd3))) := S3.below (bstep HB1.out hb3) (by have := Hlt.out; omega) _ _ _; obtain ⟨⟨y0, y1, y2⟩, yf0, yf1, yf2⟩ := HY4.out.bx; obtain ⟨⟨z0, z1, z2⟩, -⟩ := (X3.set (.slice g1 (fenM (fluM m xa)).vol.length gd1) (.slice g2 (fenM (fluM m xa)).per.length gd2) (.slice g3 (fenM (fluM m xa)).pend.length gd3)).bx; clear R3 hb3 X3))
  obtain ⟨f1, f2, f3⟩ := finishR HR4.out HY4.out HB4.out (by omega)
  exact bodyPost_ret (ret_cell (p := 4) (b := w.heap.size + 1 + 1) Try.results65 rfl f1) rfl ⟨_, _, _, rfl, f2, f3⟩
end Go.Proofs.Ytoboiahknapddaa
