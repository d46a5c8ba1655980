/- Walks of layer 5: the document's own answers: Run. -/
import Derived.Test.YthibgmndgkhfiaaStepj
import Derived.Deep.RegionHeld3
namespace Go.Proofs.Ythibgmndgkhfiaa
open Go.RowKit Go.Shelf
set_option linter.unusedVariables false

theorem keep8 {W : World} {b c n cap blk off k : Nat} {u1 u2 u3 : Value} {l : List Mi} {x : Mi} (hX : Bo W b u1 u2 u3) (hS : RdS W (.slice (some ⟨blk, off, none⟩) n cap) l) (hx : l[k]? = some x) (hZ : Bo W c (.slice none 0 0) (.slice none 0 0) (.slice none 0 0)) (hbc : b ≠ c) (p q r : Value) :
    (((( W.setCell ⟨c, 0, none⟩ p).setCell ⟨c, 1, none⟩ q).setCell ⟨c, 2, none⟩ r).cell? ⟨b, 0, none⟩ = some u1 ∧ (((W.setCell ⟨c, 0, none⟩ p).setCell ⟨c, 1, none⟩ q).setCell ⟨c, 2, none⟩ r).cell? ⟨b, 1, none⟩ = some u2 ∧ (((W.setCell ⟨c, 0, none⟩ p).setCell ⟨c, 1, none⟩ q).setCell ⟨c, 2, none⟩ r).cell? ⟨b, 2, none⟩ = some u3) ∧ ((((W.setCell ⟨c, 0, none⟩ p).setCell ⟨c, 1, none⟩ q).setCell ⟨c, 2, none⟩ r).cell? ⟨blk, off + k * 3, none⟩ = some (.int .i64 x.k) ∧ (((W.setCell ⟨c, 0, none⟩ p).setCell ⟨c, 1, none⟩ q).setCell ⟨c, 2, none⟩ r).cell? ⟨blk, off + k * 3 + 1, none⟩ = some (.int .i64 x.a) ∧ (((W.setCell ⟨c, 0, none⟩ p).setCell ⟨c, 1, none⟩ q).setCell ⟨c, 2, none⟩ r).cell? ⟨blk, off + k * 3 + 2, none⟩ = some (.int .i64 x.v)) :=
  ⟨(hX.other hbc p q r).bx.1, (hS.box hZ p q r).cells hx⟩

set_option maxRecDepth 100000 in
set_option maxHeartbeats 16000000 in
theorem runR_any (va vb vc v : Value) (m : Mm) (l : List Mi) (w : World) (hR : RdM w va vb vc m) (hS : RdS w v l) (hp : m.pend.length + l.length ≤ 900) : Calls Try.prog 11 #[.agg #[va, vb, vc], v] w fun e w' => ∃ va' vb' vc', e = .returned (.tuple #[.agg #[va', vb', vc'], .int .i64 (ruE m l)]) ∧ RdM w' va' vb' vc' (ruM m l) ∧ Below w.heap.size w w' := by
  obtain ⟨l1, l2, l3⟩ := hR.lens
  obtain ⟨a1, c1, a2, c2, a3, c3, rfl, rfl, rfl⟩ := hR.forms
  obtain ⟨ll, a, cap, rfl⟩ := hS.form
  have HS : Hid (RdS w (.slice a l.length cap) l) := hS
  have HR : Hid (RdM w (.slice a1 m.vol.length c1) (.slice a2 m.per.length c2) (.slice a3 m.pend.length c3) m) := hR
  have HB : Hid (Below w.heap.size w ((w.alloc (.cells #[.slice a1 m.vol.length c1, .slice a2 m.per.length c2, .slice a3 m.pend.length c3] 25)).alloc (.cells #[.slice none 0 0, .slice none 0 0, .slice none 0 0] 25))) := ((Below.refl _ _).alloc (Nat.le_refl _) _).alloc (by simp) _
  have HX : Hid (Bo ((w.alloc (.cells #[.slice a1 m.vol.length c1, .slice a2 m.per.length c2, .slice a3 m.pend.length c3] 25)).alloc (.cells #[.slice none 0 0, .slice none 0 0, .slice none 0 0] 25)) w.heap.size (.slice a1 m.vol.length c1) (.slice a2 m.per.length c2) (.slice a3 m.pend.length c3)) := (Bo.new w _ _ _).below ((Below.refl _ _).alloc (Nat.le_refl _) _)
  have HY : Hid (Bo ((w.alloc (.cells #[.slice a1 m.vol.length c1, .slice a2 m.per.length c2, .slice a3 m.pend.length c3] 25)).alloc (.cells #[.slice none 0 0, .slice none 0 0, .slice none 0 0] 25)) (w.heap.size + 1) (.slice none 0 0) (.slice none 0 0) (.slice none 0 0)) := by (have := Bo.new (w.alloc (.cells #[.slice a1 m.vol.length c1, .slice a2 m.per.length c2, .slice a3 m.pend.length c3] 25)) (.slice none 0 0) (.slice none 0 0) (.slice none 0 0); rwa [World.size_alloc] at this)
  clear hR hS
  cases e1 : ok m
  · have HN : Hid (mrB m l = false) := mr_off e1 _
    have HE : Hid (ruE m l = 40) := ruE_no HN.out
    have HM : Hid (ruM m l = m) := ruM_no HN.out
    go_enter Try.func11, Try.ntmps11
    go_wp2_with (first
      | (go_at_call 26; refine (checkR_any _ _ _ m _ (HR.out.below HB.out)).mono ?_; rintro e w1 ⟨rfl, hb1⟩; rw [e1]; have HB1 : Hid (Below w.heap.size w w1) := bstep HB.out hb1; have HY1 : Hid (Bo w1 (w.heap.size + 1) (.slice none 0 0) (.slice none 0 0) (.slice none 0 0)) := HY.out.below hb1; have HX1 : Hid (Bo w1 w.heap.size (.slice a1 m.vol.length c1) (.slice a2 m.per.length c2) (.slice a3 m.pend.length c3)) := HX.out.below hb1; obtain ⟨⟨x0, x1, x2⟩, -⟩ := HX1.out.bx; clear hb1)
      | (go_at_call 19; refine (chkR_any _ l _ _ (HS.out.below HB1.out)).mono ?_; rintro e w2 ⟨rfl, hb2⟩; have HB2 : Hid (Below w.heap.size w w2) := bstep HB1.out hb2; have HY2 : Hid (Bo w2 (w.heap.size + 1) (.slice none 0 0) (.slice none 0 0) (.slice none 0 0)) := HY1.out.below hb2; have HX2 : Hid (Bo w2 w.heap.size (.slice a1 m.vol.length c1) (.slice a2 m.per.length c2) (.slice a3 m.pend.length c3)) := HX1.out.below hb2; clear x0 x1 x2; obtain ⟨⟨x0, x1, x2⟩, -⟩ := HX2.out.bx; obtain ⟨⟨y0, y1, y2⟩, yf0, yf1, yf2⟩ := HY2.out.bx; clear hb2))
    have HR2 : Hid (RdM w2 (.slice a1 m.vol.length c1) (.slice a2 m.per.length c2) (.slice a3 m.pend.length c3) m) := HR.out.below HB2.out
    obtain ⟨f1, f2, f3⟩ := finishR HR2.out HY2.out HB2.out (by omega)
    exact bodyPost_ret (ret_cell2 (p := 4) (u := 5) Try.results11 rfl f1) rfl ⟨_, _, _, by rw [HE.out]; rfl, by rw [HM.out]; exact f2, f3⟩
  cases e2 : chB l (m.vol.length : Int)
  · have HN : Hid (mrB m l = false) := by (show mrB m l = _; unfold mrB; rw [e1, e2]; rfl)
    have HE : Hid (ruE m l = 40) := ruE_no HN.out
    have HM : Hid (ruM m l = m) := ruM_no HN.out
    go_enter Try.func11, Try.ntmps11
    go_wp2_with (first
      | (go_at_call 26; refine (checkR_any _ _ _ m _ (HR.out.below HB.out)).mono ?_; rintro e w1 ⟨rfl, hb1⟩; rw [e1]; have HB1 : Hid (Below w.heap.size w w1) := bstep HB.out hb1; have HY1 : Hid (Bo w1 (w.heap.size + 1) (.slice none 0 0) (.slice none 0 0) (.slice none 0 0)) := HY.out.below hb1; have HX1 : Hid (Bo w1 w.heap.size (.slice a1 m.vol.length c1) (.slice a2 m.per.length c2) (.slice a3 m.pend.length c3)) := HX.out.below hb1; obtain ⟨⟨x0, x1, x2⟩, -⟩ := HX1.out.bx; clear hb1)
      | (go_at_call 19; refine (chkR_any _ l _ _ (HS.out.below HB1.out)).mono ?_; rintro e w2 ⟨rfl, hb2⟩; rw [e2]; have HB2 : Hid (Below w.heap.size w w2) := bstep HB1.out hb2; have HY2 : Hid (Bo w2 (w.heap.size + 1) (.slice none 0 0) (.slice none 0 0) (.slice none 0 0)) := HY1.out.below hb2; have HX2 : Hid (Bo w2 w.heap.size (.slice a1 m.vol.length c1) (.slice a2 m.per.length c2) (.slice a3 m.pend.length c3)) := HX1.out.below hb2; clear x0 x1 x2; obtain ⟨⟨x0, x1, x2⟩, -⟩ := HX2.out.bx; obtain ⟨⟨y0, y1, y2⟩, yf0, yf1, yf2⟩ := HY2.out.bx; clear hb2))
    have HR2 : Hid (RdM w2 (.slice a1 m.vol.length c1) (.slice a2 m.per.length c2) (.slice a3 m.pend.length c3) m) := HR.out.below HB2.out
    obtain ⟨f1, f2, f3⟩ := finishR HR2.out HY2.out HB2.out (by omega)
    exact bodyPost_ret (ret_cell2 (p := 4) (u := 5) Try.results11 rfl f1) rfl ⟨_, _, _, by rw [HE.out]; rfl, by rw [HM.out]; exact f2, f3⟩
  have HN : Hid (mrB m l = true) := by (show mrB m l = _; unfold mrB; rw [e1, e2]; rfl)
  have HE : Hid (ruE m l = 0) := ruE_yes HN.out
  have HM : Hid (ruM m l = runM m l) := ruM_yes HN.out
  go_enter Try.func11, Try.ntmps11
  go_wp2_with (first
    | (go_at_call 26; refine (checkR_any _ _ _ m _ (HR.out.below HB.out)).mono ?_; rintro e w1 ⟨rfl, hb1⟩; rw [e1]; have HB1 : Hid (Below w.heap.size w w1) := bstep HB.out hb1; have HY1 : Hid (Bo w1 (w.heap.size + 1) (.slice none 0 0) (.slice none 0 0) (.slice none 0 0)) := HY.out.below hb1; have HX1 : Hid (Bo w1 w.heap.size (.slice a1 m.vol.length c1) (.slice a2 m.per.length c2) (.slice a3 m.pend.length c3)) := HX.out.below hb1; obtain ⟨⟨x0, x1, x2⟩, -⟩ := HX1.out.bx; clear hb1)
    | (go_at_call 19; refine (chkR_any _ l _ _ (HS.out.below HB1.out)).mono ?_; rintro e w2 ⟨rfl, hb2⟩; rw [e2]; have HB2 : Hid (Below w.heap.size w w2) := bstep HB1.out hb2; have HY2 : Hid (Bo w2 (w.heap.size + 1) (.slice none 0 0) (.slice none 0 0) (.slice none 0 0)) := HY1.out.below hb2; have HX2 : Hid (Bo w2 w.heap.size (.slice a1 m.vol.length c1) (.slice a2 m.per.length c2) (.slice a3 m.pend.length c3)) := HX1.out.below hb2; clear x0 x1 x2; obtain ⟨⟨x0, x1, x2⟩, -⟩ := HX2.out.bx; obtain ⟨⟨y0, y1, y2⟩, yf0, yf1, yf2⟩ := HY2.out.bx; clear hb2))
  go_loopw [8] (fun i w4 => ∃ (k : Nat) (v1 v2 v3 : Value), k ≤ l.length ∧ i = .int .i64 k ∧ Below w.heap.size w w4 ∧ RdM w4 v1 v2 v3 (runM m (l.take k)) ∧ Bo w4 w.heap.size v1 v2 v3 ∧ Bo w4 (w.heap.size + 1) (.slice none 0 0) (.slice none 0 0) (.slice none 0 0)) (fun i _ => l.length - (intOf i).toNat)
  case atStart => exact ⟨0, _, _, _, Nat.zero_le _, rfl, HB2.out, HR.out.below HB2.out, HX2.out, HY2.out⟩
  case round =>
    clear x0 x1 x2 y0 y1 y2 yf0 yf1 yf2
    obtain ⟨k, v1, v2, v3, hk, rfl, hbel, hM, hX, hY⟩ := hrel
    obtain ⟨e1, ed1, e2, ed2, e3, ed3, rfl, rfl, rfl⟩ := hM.forms
    have HBr : Hid (Below w.heap.size w wr) := hbel
    have HRr : Hid (RdM wr (.slice e1 (runM m (l.take k)).vol.length ed1) (.slice e2 (runM m (l.take k)).per.length ed2) (.slice e3 (runM m (l.take k)).pend.length ed3) (runM m (l.take k))) := hM
    have HXr : Hid (Bo wr w.heap.size (.slice e1 (runM m (l.take k)).vol.length ed1) (.slice e2 (runM m (l.take k)).per.length ed2) (.slice e3 (runM m (l.take k)).pend.length ed3)) := hX
    have HYr : Hid (Bo wr (w.heap.size + 1) (.slice none 0 0) (.slice none 0 0) (.slice none 0 0)) := hY
    have hsz : w.heap.size + 1 < wr.heap.size := hY.lt
    have hne : Hid (w.heap.size ≠ wr.heap.size) := by (show _ ≠ _; omega)
    clear hbel hM hX hY
    by_cases hlt : k < l.length
    · have hltI : (k : Int) < (l.length : Int) := by omega
      obtain ⟨x, hx⟩ : ∃ x, l[k]? = some x := ⟨_, List.getElem?_eq_getElem hlt⟩
      obtain ⟨xk, xa, xv⟩ := x
      have Hx : Hid (l[k]? = some ⟨xk, xa, xv⟩) := hx
      obtain ⟨blk, off, rfl, s0, s1, s2⟩ := (HS.out.below HBr.out).get hx
      have HSr : Hid (RdS wr (.slice (some ⟨blk, off, none⟩) l.length cap) l) := HS.out.below HBr.out
      have Hn : Hid ((ruM (runM m (l.take k)) [⟨xk, xa, xv⟩]) = runM m (l.take (k + 1))) := ru_next HN.out hx
      have hpk : (runM m (l.take k)).pend.length ≤ 900 := by (have := (run_len m (l.take k)).2.2; rw [List.length_take] at this; omega)
      clear hx
      dsimp only at s0 s1 s2
      obtain ⟨⟨z0, z1, z2⟩, zf0, zf1, zf2⟩ := HXr.out.bx
      have HS0 : Hid ((wr.drew.cell? ⟨w.heap.size, 0, none⟩ = some (.slice e1 (runM m (l.take k)).vol.length ed1) ∧ wr.drew.cell? ⟨w.heap.size, 1, none⟩ = some (.slice e2 (runM m (l.take k)).per.length ed2) ∧ wr.drew.cell? ⟨w.heap.size, 2, none⟩ = some (.slice e3 (runM m (l.take k)).pend.length ed3)) ∧ (wr.drew.cell? ⟨blk, off + k * 3, none⟩ = some (.int .i64 xk) ∧ wr.drew.cell? ⟨blk, off + k * 3 + 1, none⟩ = some (.int .i64 xa) ∧ wr.drew.cell? ⟨blk, off + k * 3 + 2, none⟩ = some (.int .i64 xv))) := ⟨⟨z0, z1, z2⟩, s0, s1, s2⟩
      go_wp2
      go_region_held3 (fun W => (W.cell? ⟨w.heap.size, 0, none⟩ = some (.slice e1 (runM m (l.take k)).vol.length ed1) ∧ W.cell? ⟨w.heap.size, 1, none⟩ = some (.slice e2 (runM m (l.take k)).per.length ed2) ∧ W.cell? ⟨w.heap.size, 2, none⟩ = some (.slice e3 (runM m (l.take k)).pend.length ed3)) ∧ (W.cell? ⟨blk, off + k * 3, none⟩ = some (.int .i64 xk) ∧ W.cell? ⟨blk, off + k * 3 + 1, none⟩ = some (.int .i64 xa) ∧ W.cell? ⟨blk, off + k * 3 + 2, none⟩ = some (.int .i64 xv)))
        (first | exact HS0.out | (with_reducible exact keep8 (HXr.out.below H6.out) (HSr.out.below H6.out) Hx.out HZ6.out hne.out _ _ _) | exact ⟨(HXr.out.below (by ((repeat (first | exact Below.refl _ _ | exact H6.out | with_reducible refine Below.dr ?_ | with_reducible refine Below.al _ ?_)); all_goals fail))).bx.1, (HSr.out.below (by ((repeat (first | exact Below.refl _ _ | exact H6.out | with_reducible refine Below.dr ?_ | with_reducible refine Below.al _ ?_)); all_goals fail))).cells Hx.out⟩)
        (first
        | (go_at_call 13; refine (doR_any ⟨xk, xa, xv⟩ _ _ _ (runM m (l.take k)) _ (HRr.out.below (by ((repeat (first | exact Below.refl _ _ | with_reducible refine Below.dr ?_ | with_reducible refine Below.al _ ?_)); all_goals fail))) hpk).mono ?_; rintro e w6 ⟨v1, v2, v3, rfl, R6, hb6⟩; obtain ⟨g1, gd1, g2, gd2, g3, gd3, rfl, rfl, rfl⟩ := R6.forms; have H6 : Hid (Below wr.heap.size wr w6) := bstep (by ((repeat (first | exact Below.refl _ _ | with_reducible refine Below.dr ?_ | with_reducible refine Below.al _ ?_)); all_goals fail)) hb6; (try (have HZ6 : Hid (Bo w6 wr.heap.size (.slice none 0 0) (.slice none 0 0) (.slice none 0 0)) := hp_below hb6 (hp_new rfl); obtain ⟨⟨t0, t1, t2⟩, tf0, tf1, tf2⟩ := HZ6.out.bx)); have HR6 : Hid (RdM w6 (.slice g1 (ruM (runM m (l.take k)) [⟨xk, xa, xv⟩]).vol.length gd1) (.slice g2 (ruM (runM m (l.take k)) [⟨xk, xa, xv⟩]).per.length gd2) (.slice g3 (ruM (runM m (l.take k)) [⟨xk, xa, xv⟩]).pend.length gd3) (ruM (runM m (l.take k)) [⟨xk, xa, xv⟩])) := R6; clear R6 hb6))
      · have b7 : Below w6.heap.size w6 (w6.alloc (.cells #[.slice g1 (ruM (runM m (l.take k)) [⟨xk, xa, xv⟩]).vol.length gd1, .slice g2 (ruM (runM m (l.take k)) [⟨xk, xa, xv⟩]).per.length gd2, .slice g3 (ruM (runM m (l.take k)) [⟨xk, xa, xv⟩]).pend.length gd3] 25)) := (Below.refl _ _).alloc (Nat.le_refl _) _
        have HFB : Hid (Below wr.heap.size wr (w6.alloc (.cells #[.slice g1 (ruM (runM m (l.take k)) [⟨xk, xa, xv⟩]).vol.length gd1, .slice g2 (ruM (runM m (l.take k)) [⟨xk, xa, xv⟩]).per.length gd2, .slice g3 (ruM (runM m (l.take k)) [⟨xk, xa, xv⟩]).pend.length gd3] 25))) := bstep H6.out b7
        have HFX : Hid (Bo (w6.alloc (.cells #[.slice g1 (ruM (runM m (l.take k)) [⟨xk, xa, xv⟩]).vol.length gd1, .slice g2 (ruM (runM m (l.take k)) [⟨xk, xa, xv⟩]).per.length gd2, .slice g3 (ruM (runM m (l.take k)) [⟨xk, xa, xv⟩]).pend.length gd3] 25)) w.heap.size (.slice e1 (runM m (l.take k)).vol.length ed1) (.slice e2 (runM m (l.take k)).per.length ed2) (.slice e3 (runM m (l.take k)).pend.length ed3)) := HXr.out.below HFB.out
        have HFN : Hid (Bo (w6.alloc (.cells #[.slice g1 (ruM (runM m (l.take k)) [⟨xk, xa, xv⟩]).vol.length gd1, .slice g2 (ruM (runM m (l.take k)) [⟨xk, xa, xv⟩]).per.length gd2, .slice g3 (ruM (runM m (l.take k)) [⟨xk, xa, xv⟩]).pend.length gd3] 25)) w6.heap.size (.slice g1 (ruM (runM m (l.take k)) [⟨xk, xa, xv⟩]).vol.length gd1) (.slice g2 (ruM (runM m (l.take k)) [⟨xk, xa, xv⟩]).per.length gd2) (.slice g3 (ruM (runM m (l.take k)) [⟨xk, xa, xv⟩]).pend.length gd3)) := Bo.new w6 _ _ _
        have HFR : Hid (RdM (w6.alloc (.cells #[.slice g1 (ruM (runM m (l.take k)) [⟨xk, xa, xv⟩]).vol.length gd1, .slice g2 (ruM (runM m (l.take k)) [⟨xk, xa, xv⟩]).per.length gd2, .slice g3 (ruM (runM m (l.take k)) [⟨xk, xa, xv⟩]).pend.length gd3] 25)) (.slice g1 (ruM (runM m (l.take k)) [⟨xk, xa, xv⟩]).vol.length gd1) (.slice g2 (ruM (runM m (l.take k)) [⟨xk, xa, xv⟩]).per.length gd2) (.slice g3 (ruM (runM m (l.take k)) [⟨xk, xa, xv⟩]).pend.length gd3) (ruM (runM m (l.take k)) [⟨xk, xa, xv⟩])) := HR6.out.below b7
        have HFY : Hid (Bo (w6.alloc (.cells #[.slice g1 (ruM (runM m (l.take k)) [⟨xk, xa, xv⟩]).vol.length gd1, .slice g2 (ruM (runM m (l.take k)) [⟨xk, xa, xv⟩]).per.length gd2, .slice g3 (ruM (runM m (l.take k)) [⟨xk, xa, xv⟩]).pend.length gd3] 25)) (w.heap.size + 1) (.slice none 0 0) (.slice none 0 0) (.slice none 0 0)) := HYr.out.below HFB.out
        clear b7 z0 z1 z2 zf0 zf1 zf2 s0 s1 s2
        obtain ⟨⟨q0, q1, q2⟩, qf0, qf1, qf2⟩ := HFX.out.bx
        obtain ⟨⟨n0, n1, n2⟩, -⟩ := HFN.out.bx
        go_wp2
        go_roundw
        case rel => exact ⟨k + 1, _, _, _, by omega, by go_num, S3.below (bstep HBr.out HFB.out) (Nat.le_refl _) _ _ _, by rw [← Hn.out]; exact HFR.out.box HFX.out _ _ _, HFX.out.set _ _ _, HFY.out.other (by omega) _ _ _⟩
        case measure => simp [intOf]; omega
      · have HFB : Hid (Below wr.heap.size wr (((w6.setCell ⟨wr.heap.size, 0, none⟩ (.slice g1 (ruM (runM m (l.take k)) [⟨xk, xa, xv⟩]).vol.length gd1)).setCell ⟨wr.heap.size, 1, none⟩ (.slice g2 (ruM (runM m (l.take k)) [⟨xk, xa, xv⟩]).per.length gd2)).setCell ⟨wr.heap.size, 2, none⟩ (.slice g3 (ruM (runM m (l.take k)) [⟨xk, xa, xv⟩]).pend.length gd3))) := S3.below H6.out (Nat.le_refl _) _ _ _
        have HFX : Hid (Bo (((w6.setCell ⟨wr.heap.size, 0, none⟩ (.slice g1 (ruM (runM m (l.take k)) [⟨xk, xa, xv⟩]).vol.length gd1)).setCell ⟨wr.heap.size, 1, none⟩ (.slice g2 (ruM (runM m (l.take k)) [⟨xk, xa, xv⟩]).per.length gd2)).setCell ⟨wr.heap.size, 2, none⟩ (.slice g3 (ruM (runM m (l.take k)) [⟨xk, xa, xv⟩]).pend.length gd3)) w.heap.size (.slice e1 (runM m (l.take k)).vol.length ed1) (.slice e2 (runM m (l.take k)).per.length ed2) (.slice e3 (runM m (l.take k)).pend.length ed3)) := (HXr.out.below H6.out).other hne.out _ _ _
        have HFN : Hid (Bo (((w6.setCell ⟨wr.heap.size, 0, none⟩ (.slice g1 (ruM (runM m (l.take k)) [⟨xk, xa, xv⟩]).vol.length gd1)).setCell ⟨wr.heap.size, 1, none⟩ (.slice g2 (ruM (runM m (l.take k)) [⟨xk, xa, xv⟩]).per.length gd2)).setCell ⟨wr.heap.size, 2, none⟩ (.slice g3 (ruM (runM m (l.take k)) [⟨xk, xa, xv⟩]).pend.length gd3)) wr.heap.size (.slice g1 (ruM (runM m (l.take k)) [⟨xk, xa, xv⟩]).vol.length gd1) (.slice g2 (ruM (runM m (l.take k)) [⟨xk, xa, xv⟩]).per.length gd2) (.slice g3 (ruM (runM m (l.take k)) [⟨xk, xa, xv⟩]).pend.length gd3)) := HZ6.out.set _ _ _
        have HFR : Hid (RdM (((w6.setCell ⟨wr.heap.size, 0, none⟩ (.slice g1 (ruM (runM m (l.take k)) [⟨xk, xa, xv⟩]).vol.length gd1)).setCell ⟨wr.heap.size, 1, none⟩ (.slice g2 (ruM (runM m (l.take k)) [⟨xk, xa, xv⟩]).per.length gd2)).setCell ⟨wr.heap.size, 2, none⟩ (.slice g3 (ruM (runM m (l.take k)) [⟨xk, xa, xv⟩]).pend.length gd3)) (.slice g1 (ruM (runM m (l.take k)) [⟨xk, xa, xv⟩]).vol.length gd1) (.slice g2 (ruM (runM m (l.take k)) [⟨xk, xa, xv⟩]).per.length gd2) (.slice g3 (ruM (runM m (l.take k)) [⟨xk, xa, xv⟩]).pend.length gd3) (ruM (runM m (l.take k)) [⟨xk, xa, xv⟩])) := HR6.out.box HZ6.out _ _ _
        have HFY : Hid (Bo (((w6.setCell ⟨wr.heap.size, 0, none⟩ (.slice g1 (ruM (runM m (l.take k)) [⟨xk, xa, xv⟩]).vol.length gd1)).setCell ⟨wr.heap.size, 1, none⟩ (.slice g2 (ruM (runM m (l.take k)) [⟨xk, xa, xv⟩]).per.length gd2)).setCell ⟨wr.heap.size, 2, none⟩ (.slice g3 (ruM (runM m (l.take k)) [⟨xk, xa, xv⟩]).pend.length gd3)) (w.heap.size + 1) (.slice none 0 0) (.slice none 0 0) (.slice none 0 0)) := (HYr.out.below H6.out).other (by omega) _ _ _
        clear z0 z1 z2 zf0 zf1 zf2 s0 s1 s2 t0 t1 t2 tf0 tf1 tf2
        obtain ⟨⟨q0, q1, q2⟩, qf0, qf1, qf2⟩ := HFX.out.bx
        obtain ⟨⟨n0, n1, n2⟩, -⟩ := HFN.out.bx
        go_wp2
        go_roundw
        case rel => exact ⟨k + 1, _, _, _, by omega, by go_num, S3.below (bstep HBr.out HFB.out) (Nat.le_refl _) _ _ _, by rw [← Hn.out]; exact HFR.out.box HFX.out _ _ _, HFX.out.set _ _ _, HFY.out.other (by omega) _ _ _⟩
        case measure => simp [intOf]; omega
    · have Hk : Hid (runM m (l.take k) = runM m l) := by (show _ = _; rw [List.take_of_length_le (by omega)])
      obtain ⟨⟨z0, z1, z2⟩, -⟩ := HXr.out.bx
      obtain ⟨⟨y0, y1, y2⟩, yf0, yf1, yf2⟩ := HYr.out.bx
      go_wp2
      obtain ⟨f1, f2, f3⟩ := finishR HRr.out HYr.out HBr.out (by omega)
      exact bodyPost_ret (ret_cell2 (p := 4) (u := 5) Try.results11 rfl f1) rfl ⟨_, _, _, by rw [HE.out]; rfl, by rw [HM.out, ← Hk.out]; exact f2, f3⟩
end Go.Proofs.Ythibgmndgkhfiaa
