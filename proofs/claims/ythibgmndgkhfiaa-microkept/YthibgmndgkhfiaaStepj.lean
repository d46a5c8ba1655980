/- Walks of layer 5: the document's own answers: Do. -/
import Derived.Test.YthibgmndgkhfiaaStepi
import Derived.Test.YthibgmndgkhfiaaNumj
namespace Go.Proofs.Ythibgmndgkhfiaa
open Go.RowKit Go.Shelf
set_option linter.unusedVariables false

/-- A step's box. -/
def Bq (W : World) (b : Nat) (x : Mi) : Prop := W.heap[b]? = some (.cells #[.int .i64 x.k, .int .i64 x.a, .int .i64 x.v] 28)
theorem Bq.lt {W : World} {b : Nat} {x : Mi} (h : Bq W b x) : b < W.heap.size := (Array.getElem?_eq_some_iff.1 h).1
theorem Bq.below {W W' : World} {b : Nat} {x : Mi} (h : Bq W b x) (hb : Below W.heap.size W W') : Bq W' b x := (hb.block b h.lt).trans h
theorem Bq.new (W : World) (x : Mi) : Bq (W.alloc (.cells #[.int .i64 x.k, .int .i64 x.a, .int .i64 x.v] 28)) W.heap.size x := heap_alloc_new W _
theorem Bq.other {W : World} {b c : Nat} {q : Mi} (h : Bq W b q) (hc : b ≠ c) (x y z : Value) : Bq (S3 W c x y z) b q := (S3.other W c b x y z hc).trans h
theorem Bq.cells {W : World} {b : Nat} {x : Mi} (h : Bq W b x) : W.cell? ⟨b, 0, none⟩ = some (.int .i64 x.k) ∧ W.cell? ⟨b, 1, none⟩ = some (.int .i64 x.a) ∧ W.cell? ⟨b, 2, none⟩ = some (.int .i64 x.v) := by
  unfold Bq at h
  refine ⟨?_, ?_, ?_⟩ <;> simp [World.cell?, h]

set_option maxRecDepth 100000 in
set_option maxHeartbeats 4000000 in
theorem doR_any (x : Mi) (va vb vc : Value) (m : Mm) (w : World) (hR : RdM w va vb vc m) (hp : m.pend.length ≤ 900) : Calls Try.prog 13 #[.agg #[va, vb, vc], .agg #[.int .i64 x.k, .int .i64 x.a, .int .i64 x.v]] w fun e w' => ∃ va' vb' vc', e = .returned (.tuple #[.agg #[va', vb', vc'], .int .i64 (ruE m [x])]) ∧ RdM w' va' vb' vc' (ruM m [x]) ∧ Below w.heap.size w w' := by
  obtain ⟨l1, l2, l3⟩ := hR.lens
  obtain ⟨a1, c1, a2, c2, a3, c3, rfl, rfl, rfl⟩ := hR.forms
  obtain ⟨xk, xa, xv⟩ := x
  have HR : Hid (RdM w (.slice a1 m.vol.length c1) (.slice a2 m.per.length c2) (.slice a3 m.pend.length c3) m) := hR
  have b1 : Below w.heap.size w (w.alloc (.cells #[.slice a1 m.vol.length c1, .slice a2 m.per.length c2, .slice a3 m.pend.length c3] 25)) := (Below.refl _ _).alloc (Nat.le_refl _) _
  have b2 : Below (w.alloc (.cells #[.slice a1 m.vol.length c1, .slice a2 m.per.length c2, .slice a3 m.pend.length c3] 25)).heap.size (w.alloc (.cells #[.slice a1 m.vol.length c1, .slice a2 m.per.length c2, .slice a3 m.pend.length c3] 25)) ((w.alloc (.cells #[.slice a1 m.vol.length c1, .slice a2 m.per.length c2, .slice a3 m.pend.length c3] 25)).alloc (.cells #[.int .i64 xk, .int .i64 xa, .int .i64 xv] 28)) := (Below.refl _ _).alloc (Nat.le_refl _) _
  have b3 : Below ((w.alloc (.cells #[.slice a1 m.vol.length c1, .slice a2 m.per.length c2, .slice a3 m.pend.length c3] 25)).alloc (.cells #[.int .i64 xk, .int .i64 xa, .int .i64 xv] 28)).heap.size ((w.alloc (.cells #[.slice a1 m.vol.length c1, .slice a2 m.per.length c2, .slice a3 m.pend.length c3] 25)).alloc (.cells #[.int .i64 xk, .int .i64 xa, .int .i64 xv] 28)) (((w.alloc (.cells #[.slice a1 m.vol.length c1, .slice a2 m.per.length c2, .slice a3 m.pend.length c3] 25)).alloc (.cells #[.int .i64 xk, .int .i64 xa, .int .i64 xv] 28)).alloc (.cells #[.slice none 0 0, .slice none 0 0, .slice none 0 0] 25)) := (Below.refl _ _).alloc (Nat.le_refl _) _
  have HB : Hid (Below w.heap.size w (((w.alloc (.cells #[.slice a1 m.vol.length c1, .slice a2 m.per.length c2, .slice a3 m.pend.length c3] 25)).alloc (.cells #[.int .i64 xk, .int .i64 xa, .int .i64 xv] 28)).alloc (.cells #[.slice none 0 0, .slice none 0 0, .slice none 0 0] 25))) := bstep (bstep b1 b2) b3
  have HX : Hid (Bo (((w.alloc (.cells #[.slice a1 m.vol.length c1, .slice a2 m.per.length c2, .slice a3 m.pend.length c3] 25)).alloc (.cells #[.int .i64 xk, .int .i64 xa, .int .i64 xv] 28)).alloc (.cells #[.slice none 0 0, .slice none 0 0, .slice none 0 0] 25)) w.heap.size (.slice a1 m.vol.length c1) (.slice a2 m.per.length c2) (.slice a3 m.pend.length c3)) := ((Bo.new w _ _ _).below b2).below b3
  have HQ : Hid (Bq (((w.alloc (.cells #[.slice a1 m.vol.length c1, .slice a2 m.per.length c2, .slice a3 m.pend.length c3] 25)).alloc (.cells #[.int .i64 xk, .int .i64 xa, .int .i64 xv] 28)).alloc (.cells #[.slice none 0 0, .slice none 0 0, .slice none 0 0] 25)) (w.heap.size + 1) ⟨xk, xa, xv⟩) := Bq.below (by (have := Bq.new (w.alloc (.cells #[.slice a1 m.vol.length c1, .slice a2 m.per.length c2, .slice a3 m.pend.length c3] 25)) ⟨xk, xa, xv⟩; simpa using this)) b3
  have HY : Hid (Bo (((w.alloc (.cells #[.slice a1 m.vol.length c1, .slice a2 m.per.length c2, .slice a3 m.pend.length c3] 25)).alloc (.cells #[.int .i64 xk, .int .i64 xa, .int .i64 xv] 28)).alloc (.cells #[.slice none 0 0, .slice none 0 0, .slice none 0 0] 25)) (w.heap.size + 1 + 1) (.slice none 0 0) (.slice none 0 0) (.slice none 0 0)) := by (show Bo _ _ _ _ _; have := Bo.new ((w.alloc (.cells #[.slice a1 m.vol.length c1, .slice a2 m.per.length c2, .slice a3 m.pend.length c3] 25)).alloc (.cells #[.int .i64 xk, .int .i64 xa, .int .i64 xv] 28)) (.slice none 0 0) (.slice none 0 0) (.slice none 0 0); simpa using this)
  have hn0 : (0 : Int) ≤ (m.vol.length : Int) := by omega
  have hn9 : (m.vol.length : Int) ≤ 4096 := by omega
  clear hR b1 b2 b3
  cases e1 : ok m
  · have HN : Hid (mrB m [⟨xk, xa, xv⟩] = false) := mr_off e1 _
    have HE : Hid (ruE m [⟨xk, xa, xv⟩] = 40) := ruE_no HN.out
    have HM : Hid (ruM m [⟨xk, xa, xv⟩] = m) := ruM_no HN.out
    go_enter Try.func13, Try.ntmps13
    go_wp2_with (first
      | (go_at_call 26; refine (checkR_any _ _ _ m _ (HR.out.below HB.out)).mono ?_; rintro e w1 ⟨rfl, hb1⟩; rw [e1]; have HB1 : Hid (Below w.heap.size w w1) := bstep HB.out hb1; have HY1 : Hid (Bo w1 (w.heap.size + 1 + 1) (.slice none 0 0) (.slice none 0 0) (.slice none 0 0)) := HY.out.below hb1; have HQ1 : Hid (Bq w1 (w.heap.size + 1) ⟨xk, xa, xv⟩) := HQ.out.below hb1; have HX1 : Hid (Bo w1 w.heap.size (.slice a1 m.vol.length c1) (.slice a2 m.per.length c2) (.slice a3 m.pend.length c3)) := HX.out.below hb1; obtain ⟨⟨x0, x1, x2⟩, -⟩ := HX1.out.bx; obtain ⟨s0, s1, s2⟩ := HQ1.out.cells; obtain ⟨⟨y0, y1, y2⟩, yf0, yf1, yf2⟩ := HY1.out.bx; clear hb1))
    have HR2 : Hid (RdM w1 (.slice a1 m.vol.length c1) (.slice a2 m.per.length c2) (.slice a3 m.pend.length c3) m) := HR.out.below HB1.out
    have HY2 := HY1
    have HB2 := HB1
    obtain ⟨f1, f2, f3⟩ := finishR HR2.out HY2.out HB2.out (by omega)
    exact bodyPost_ret (ret_cell2 (p := 4) (u := 5) Try.results13 rfl f1) rfl ⟨_, _, _, by rw [HE.out]; rfl, by rw [HM.out]; exact f2, f3⟩
  cases e2 : miB (m.vol.length : Int) ⟨xk, xa, xv⟩
  · have HN : Hid (mrB m [⟨xk, xa, xv⟩] = false) := (mr_one e1 _).trans e2
    have HE : Hid (ruE m [⟨xk, xa, xv⟩] = 40) := ruE_no HN.out
    have HM : Hid (ruM m [⟨xk, xa, xv⟩] = m) := ruM_no HN.out
    go_enter Try.func13, Try.ntmps13
    go_wp2_with (first
      | (go_at_call 26; refine (checkR_any _ _ _ m _ (HR.out.below HB.out)).mono ?_; rintro e w1 ⟨rfl, hb1⟩; rw [e1]; have HB1 : Hid (Below w.heap.size w w1) := bstep HB.out hb1; have HY1 : Hid (Bo w1 (w.heap.size + 1 + 1) (.slice none 0 0) (.slice none 0 0) (.slice none 0 0)) := HY.out.below hb1; have HQ1 : Hid (Bq w1 (w.heap.size + 1) ⟨xk, xa, xv⟩) := HQ.out.below hb1; have HX1 : Hid (Bo w1 w.heap.size (.slice a1 m.vol.length c1) (.slice a2 m.per.length c2) (.slice a3 m.pend.length c3)) := HX.out.below hb1; obtain ⟨⟨x0, x1, x2⟩, -⟩ := HX1.out.bx; obtain ⟨s0, s1, s2⟩ := HQ1.out.cells; obtain ⟨⟨y0, y1, y2⟩, yf0, yf1, yf2⟩ := HY1.out.bx; clear hb1)
      | (go_at_call 27; refine (mayR_any ⟨xk, xa, xv⟩ _ _ hn0 hn9).mono ?_; rintro e w2 ⟨rfl, hb2⟩; rw [e2]; have HB2 : Hid (Below w.heap.size w w2) := bstep HB1.out hb2; have HY2 : Hid (Bo w2 (w.heap.size + 1 + 1) (.slice none 0 0) (.slice none 0 0) (.slice none 0 0)) := HY1.out.below hb2; have HQ2 : Hid (Bq w2 (w.heap.size + 1) ⟨xk, xa, xv⟩) := HQ1.out.below hb2; have HX2 : Hid (Bo w2 w.heap.size (.slice a1 m.vol.length c1) (.slice a2 m.per.length c2) (.slice a3 m.pend.length c3)) := HX1.out.below hb2; clear x0 x1 x2 s0 s1 s2 y0 y1 y2 yf0 yf1 yf2; obtain ⟨⟨x0, x1, x2⟩, -⟩ := HX2.out.bx; obtain ⟨s0, s1, s2⟩ := HQ2.out.cells; obtain ⟨⟨y0, y1, y2⟩, yf0, yf1, yf2⟩ := HY2.out.bx; clear hb2))
    have HR2 : Hid (RdM w2 (.slice a1 m.vol.length c1) (.slice a2 m.per.length c2) (.slice a3 m.pend.length c3) m) := HR.out.below HB2.out
    obtain ⟨f1, f2, f3⟩ := finishR HR2.out HY2.out HB2.out (by omega)
    exact bodyPost_ret (ret_cell2 (p := 4) (u := 5) Try.results13 rfl f1) rfl ⟨_, _, _, by rw [HE.out]; rfl, by rw [HM.out]; exact f2, f3⟩
  have HN : Hid (mrB m [⟨xk, xa, xv⟩] = true) := (mr_one e1 _).trans e2
  have HE : Hid (ruE m [⟨xk, xa, xv⟩] = 0) := ruE_yes HN.out
  rcases miB_kind e2 with k1 | k1
  · dsimp only at k1
    subst k1
    have HM : Hid (ruM m [⟨1, xa, xv⟩] = (putM m xa xv)) := (ruM_yes HN.out).trans (doM_one (m := m) (x := ⟨1, xa, xv⟩) rfl)
    have HE2 : Hid (putE m xa = 0) := put_zero (x := ⟨1, xa, xv⟩) e1 rfl e2
    go_enter Try.func13, Try.ntmps13
    go_wp2_with (first
      | (go_at_call 26; refine (checkR_any _ _ _ m _ (HR.out.below HB.out)).mono ?_; rintro e w1 ⟨rfl, hb1⟩; rw [e1]; have HB1 : Hid (Below w.heap.size w w1) := bstep HB.out hb1; have HY1 : Hid (Bo w1 (w.heap.size + 1 + 1) (.slice none 0 0) (.slice none 0 0) (.slice none 0 0)) := HY.out.below hb1; have HQ1 : Hid (Bq w1 (w.heap.size + 1) ⟨1, xa, xv⟩) := HQ.out.below hb1; have HX1 : Hid (Bo w1 w.heap.size (.slice a1 m.vol.length c1) (.slice a2 m.per.length c2) (.slice a3 m.pend.length c3)) := HX.out.below hb1; obtain ⟨⟨x0, x1, x2⟩, -⟩ := HX1.out.bx; obtain ⟨s0, s1, s2⟩ := HQ1.out.cells; obtain ⟨⟨y0, y1, y2⟩, yf0, yf1, yf2⟩ := HY1.out.bx; clear hb1)
      | (go_at_call 27; refine (mayR_any ⟨1, xa, xv⟩ _ _ hn0 hn9).mono ?_; rintro e w2 ⟨rfl, hb2⟩; rw [e2]; have HB2 : Hid (Below w.heap.size w w2) := bstep HB1.out hb2; have HY2 : Hid (Bo w2 (w.heap.size + 1 + 1) (.slice none 0 0) (.slice none 0 0) (.slice none 0 0)) := HY1.out.below hb2; have HQ2 : Hid (Bq w2 (w.heap.size + 1) ⟨1, xa, xv⟩) := HQ1.out.below hb2; have HX2 : Hid (Bo w2 w.heap.size (.slice a1 m.vol.length c1) (.slice a2 m.per.length c2) (.slice a3 m.pend.length c3)) := HX1.out.below hb2; clear x0 x1 x2 s0 s1 s2 y0 y1 y2 yf0 yf1 yf2; obtain ⟨⟨x0, x1, x2⟩, -⟩ := HX2.out.bx; obtain ⟨s0, s1, s2⟩ := HQ2.out.cells; obtain ⟨⟨y0, y1, y2⟩, yf0, yf1, yf2⟩ := HY2.out.bx; clear hb2)
      | (go_at_call 28; refine (putR_any _ _ _ m xa xv _ (HR.out.below HB2.out) hp).mono ?_; rintro e w3 ⟨v1, v2, v3, rfl, R3, hb3⟩; rw [HE2.out]; obtain ⟨g1, gd1, g2, gd2, g3, gd3, rfl, rfl, rfl⟩ := R3.forms; have HR3 : Hid (RdM w3 (.slice g1 (putM m xa xv).vol.length gd1) (.slice g2 (putM m xa xv).per.length gd2) (.slice g3 (putM m xa xv).pend.length gd3) (putM m xa xv)) := R3; have HB3 : Hid (Below w.heap.size w w3) := bstep HB2.out hb3; have HY3 : Hid (Bo w3 (w.heap.size + 1 + 1) (.slice none 0 0) (.slice none 0 0) (.slice none 0 0)) := HY2.out.below hb3; clear x0 x1 x2 s0 s1 s2 y0 y1 y2 yf0 yf1 yf2; obtain ⟨⟨y0, y1, y2⟩, yf0, yf1, yf2⟩ := HY3.out.bx; clear R3 hb3))
    obtain ⟨f1, f2, f3⟩ := finishR HR3.out HY3.out HB3.out (by omega)
    exact bodyPost_ret (ret_cell2 (p := 4) (u := 5) Try.results13 rfl f1) rfl ⟨_, _, _, by rw [HE.out]; rfl, by rw [HM.out]; exact f2, f3⟩
  · dsimp only at k1
    subst k1
    have HM : Hid (ruM m [⟨2, xa, xv⟩] = (fenM (fluM m xa))) := (ruM_yes HN.out).trans (doM_two (m := m) (x := ⟨2, xa, xv⟩) rfl)
    have HE2 : Hid (okE (fluM m xa) = 0) := okE_yes (ok_flu (ok_out e1) _)
    go_enter Try.func13, Try.ntmps13
    go_wp2_with (first
      | (go_at_call 26; refine (checkR_any _ _ _ m _ (HR.out.below HB.out)).mono ?_; rintro e w1 ⟨rfl, hb1⟩; rw [e1]; have HB1 : Hid (Below w.heap.size w w1) := bstep HB.out hb1; have HY1 : Hid (Bo w1 (w.heap.size + 1 + 1) (.slice none 0 0) (.slice none 0 0) (.slice none 0 0)) := HY.out.below hb1; have HQ1 : Hid (Bq w1 (w.heap.size + 1) ⟨2, xa, xv⟩) := HQ.out.below hb1; have HX1 : Hid (Bo w1 w.heap.size (.slice a1 m.vol.length c1) (.slice a2 m.per.length c2) (.slice a3 m.pend.length c3)) := HX.out.below hb1; obtain ⟨⟨x0, x1, x2⟩, -⟩ := HX1.out.bx; obtain ⟨s0, s1, s2⟩ := HQ1.out.cells; obtain ⟨⟨y0, y1, y2⟩, yf0, yf1, yf2⟩ := HY1.out.bx; clear hb1)
      | (go_at_call 27; refine (mayR_any ⟨2, xa, xv⟩ _ _ hn0 hn9).mono ?_; rintro e w2 ⟨rfl, hb2⟩; rw [e2]; have HB2 : Hid (Below w.heap.size w w2) := bstep HB1.out hb2; have HY2 : Hid (Bo w2 (w.heap.size + 1 + 1) (.slice none 0 0) (.slice none 0 0) (.slice none 0 0)) := HY1.out.below hb2; have HQ2 : Hid (Bq w2 (w.heap.size + 1) ⟨2, xa, xv⟩) := HQ1.out.below hb2; have HX2 : Hid (Bo w2 w.heap.size (.slice a1 m.vol.length c1) (.slice a2 m.per.length c2) (.slice a3 m.pend.length c3)) := HX1.out.below hb2; clear x0 x1 x2 s0 s1 s2 y0 y1 y2 yf0 yf1 yf2; obtain ⟨⟨x0, x1, x2⟩, -⟩ := HX2.out.bx; obtain ⟨s0, s1, s2⟩ := HQ2.out.cells; obtain ⟨⟨y0, y1, y2⟩, yf0, yf1, yf2⟩ := HY2.out.bx; clear hb2)
      | (go_at_call 29; refine (flushR_any _ _ _ m xa _ (HR.out.below HB2.out)).mono ?_; rintro e w3 ⟨v1, v2, v3, rfl, R3, hb3⟩; obtain ⟨f1, fd1, f2, fd2, f3, fd3, rfl, rfl, rfl⟩ := R3.forms; have b4 : Below w3.heap.size w3 (w3.alloc (.cells #[.slice f1 (fluM m xa).vol.length fd1, .slice f2 (fluM m xa).per.length fd2, .slice f3 (fluM m xa).pend.length fd3] 25)) := (Below.refl _ _).alloc (Nat.le_refl _) _; have HR3 : Hid (RdM (w3.alloc (.cells #[.slice f1 (fluM m xa).vol.length fd1, .slice f2 (fluM m xa).per.length fd2, .slice f3 (fluM m xa).pend.length fd3] 25)) (.slice f1 (fluM m xa).vol.length fd1) (.slice f2 (fluM m xa).per.length fd2) (.slice f3 (fluM m xa).pend.length fd3) (fluM m xa)) := R3.below b4; have HB3 : Hid (Below w.heap.size w (w3.alloc (.cells #[.slice f1 (fluM m xa).vol.length fd1, .slice f2 (fluM m xa).per.length fd2, .slice f3 (fluM m xa).pend.length fd3] 25))) := bstep (bstep HB2.out hb3) b4; have HY3 : Hid (Bo (w3.alloc (.cells #[.slice f1 (fluM m xa).vol.length fd1, .slice f2 (fluM m xa).per.length fd2, .slice f3 (fluM m xa).pend.length fd3] 25)) (w.heap.size + 1 + 1) (.slice none 0 0) (.slice none 0 0) (.slice none 0 0)) := (HY2.out.below hb3).below b4; clear x0 x1 x2 s0 s1 s2 y0 y1 y2 yf0 yf1 yf2 R3 hb3 b4)
      | (go_at_call 30; refine (fenceR_any _ _ _ (fluM m xa) _ HR3.out).mono ?_; rintro e w5 ⟨v1, v2, v3, rfl, R5, hb5⟩; rw [HE2.out]; obtain ⟨g1, gd1, g2, gd2, g3, gd3, rfl, rfl, rfl⟩ := R5.forms; have HR5 : Hid (RdM w5 (.slice g1 (fenM (fluM m xa)).vol.length gd1) (.slice g2 (fenM (fluM m xa)).per.length gd2) (.slice g3 (fenM (fluM m xa)).pend.length gd3) (fenM (fluM m xa))) := R5; have HB5 : Hid (Below w.heap.size w w5) := bstep HB3.out hb5; have HY5 : Hid (Bo w5 (w.heap.size + 1 + 1) (.slice none 0 0) (.slice none 0 0) (.slice none 0 0)) := HY3.out.below hb5; obtain ⟨⟨y0, y1, y2⟩, yf0, yf1, yf2⟩ := HY5.out.bx; clear R5 hb5))
    obtain ⟨f1, f2, f3⟩ := finishR HR5.out HY5.out HB5.out (by omega)
    exact bodyPost_ret (ret_cell2 (p := 4) (u := 5) Try.results13 rfl f1) rfl ⟨_, _, _, by rw [HE.out]; rfl, by rw [HM.out]; exact f2, f3⟩
end Go.Proofs.Ythibgmndgkhfiaa
