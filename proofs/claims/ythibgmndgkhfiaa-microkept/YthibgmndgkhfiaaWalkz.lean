/- Walks of layer 4: the document's own answers: Put. -/
import Derived.Test.YthibgmndgkhfiaaWalky
import Derived.Deep.RegionHeld3
namespace Go.Proofs.Ythibgmndgkhfiaa
open Go.RowKit Go.Shelf
set_option linter.unusedVariables false

theorem keep3 {W : World} {b : Nat} {v1 v2 v3 : Value} (h : Bo W b v1 v2 v3) (x y z : Value) : (((W.setCell ⟨b + 1, 0, none⟩ x).setCell ⟨b + 1, 1, none⟩ y).setCell ⟨b + 1, 2, none⟩ z).cell? ⟨b, 0, none⟩ = some v1 ∧ (((W.setCell ⟨b + 1, 0, none⟩ x).setCell ⟨b + 1, 1, none⟩ y).setCell ⟨b + 1, 2, none⟩ z).cell? ⟨b, 1, none⟩ = some v2 ∧ (((W.setCell ⟨b + 1, 0, none⟩ x).setCell ⟨b + 1, 1, none⟩ y).setCell ⟨b + 1, 2, none⟩ z).cell? ⟨b, 2, none⟩ = some v3 := (h.other (Nat.ne_of_lt (Nat.lt_succ_self b)) x y z).bx.1
theorem OwnI.there {W : World} {base : Nat} {a : Option Addr} {n c : Nat} {zs : List Int} (h : OwnI W base (.slice a n c) zs) {k : Nat} (hk : k < zs.length) : ∃ g, a = some ⟨g, 0, none⟩ ∧ base ≤ g ∧ g < W.heap.size := by
  obtain ⟨g, rfl, hbg, hgl, _⟩ := h.put hk
  exact ⟨g, rfl, hbg, hgl⟩


set_option maxRecDepth 100000 in
set_option maxHeartbeats 16000000 in
theorem putR_any (va vb vc : Value) (m : Mm) (i v : Int) (w : World) (hR : RdM w va vb vc m) (hp : m.pend.length ≤ 900) : Calls Try.prog 28 #[.agg #[va, vb, vc], .int .i64 i, .int .i64 v] w fun e w' => ∃ va' vb' vc', e = .returned (.tuple #[.agg #[va', vb', vc'], .int .i64 (putE m i)]) ∧ RdM w' va' vb' vc' (putM m i v) ∧ Below w.heap.size w w' := by
  obtain ⟨l1, l2, l3⟩ := hR.lens
  obtain ⟨a1, c1, a2, c2, a3, c3, rfl, rfl, rfl⟩ := hR.forms
  have HB : Hid (Below w.heap.size w ((w.alloc (.cells #[.slice a1 m.vol.length c1, .slice a2 m.per.length c2, .slice a3 m.pend.length c3] 25)).alloc (.cells #[.slice none 0 0, .slice none 0 0, .slice none 0 0] 25))) := ((Below.refl _ _).alloc (Nat.le_refl _) _).alloc (by simp) _
  have X0 : Hid (Bo ((w.alloc (.cells #[.slice a1 m.vol.length c1, .slice a2 m.per.length c2, .slice a3 m.pend.length c3] 25)).alloc (.cells #[.slice none 0 0, .slice none 0 0, .slice none 0 0] 25)) w.heap.size (.slice a1 m.vol.length c1) (.slice a2 m.per.length c2) (.slice a3 m.pend.length c3)) := (Bo.new w _ _ _).below ((Below.refl _ _).alloc (Nat.le_refl _) _)
  have Y0 : Hid (Bo ((w.alloc (.cells #[.slice a1 m.vol.length c1, .slice a2 m.per.length c2, .slice a3 m.pend.length c3] 25)).alloc (.cells #[.slice none 0 0, .slice none 0 0, .slice none 0 0] 25)) (w.heap.size + 1) (.slice none 0 0) (.slice none 0 0) (.slice none 0 0)) := by (have := Bo.new (w.alloc (.cells #[.slice a1 m.vol.length c1, .slice a2 m.per.length c2, .slice a3 m.pend.length c3] 25)) (.slice none 0 0) (.slice none 0 0) (.slice none 0 0); rwa [World.size_alloc] at this)
  have HR : Hid (RdM w (.slice a1 m.vol.length c1) (.slice a2 m.per.length c2) (.slice a3 m.pend.length c3) m) := hR
  clear hR
  cases e1 : ok m
  · have HN : Hid (putB m i = false) := putB_no (by rw [e1]; rintro ⟨h, _⟩; cases h)
    have HE : Hid (putE m i = 40) := putE_no HN.out
    have HM : Hid (putM m i v = m) := putM_no HN.out
    go_enter Try.func28, Try.ntmps28
    go_wp2_with (first | (go_at_call 26; refine (checkR_any _ _ _ m _ (HR.out.below HB.out)).mono ?_; rintro e w1 ⟨rfl, hb1⟩; have HB1 : Hid (Below w.heap.size w w1) := bstep HB.out hb1; have HX1 : Hid (Bo w1 w.heap.size (.slice a1 m.vol.length c1) (.slice a2 m.per.length c2) (.slice a3 m.pend.length c3)) := X0.out.below hb1; have HY1 : Hid (Bo w1 (w.heap.size + 1) (.slice none 0 0) (.slice none 0 0) (.slice none 0 0)) := Y0.out.below hb1; obtain ⟨⟨x0, x1, x2⟩, -⟩ := HX1.out.bx; obtain ⟨⟨y0, y1, y2⟩, yf0, yf1, yf2⟩ := HY1.out.bx; clear hb1))
    obtain ⟨f1, f2, f3⟩ := finishR (m := m) (HR.out.below HB1.out) HY1.out HB1.out (Nat.le_succ _)
    exact bodyPost_ret (ret_cell2 (p := 6) (u := 7) Try.results28 rfl f1) rfl ⟨_, _, _, by rw [HE.out]; rfl, by rw [HM.out]; exact f2, f3⟩
  by_cases h0 : i < 0
  · have HN : Hid (putB m i = false) := putB_no (by omega)
    have HE : Hid (putE m i = 40) := putE_no HN.out
    have HM : Hid (putM m i v = m) := putM_no HN.out
    go_enter Try.func28, Try.ntmps28
    go_wp2_with (first | (go_at_call 26; refine (checkR_any _ _ _ m _ (HR.out.below HB.out)).mono ?_; rintro e w1 ⟨rfl, hb1⟩; have HB1 : Hid (Below w.heap.size w w1) := bstep HB.out hb1; have HX1 : Hid (Bo w1 w.heap.size (.slice a1 m.vol.length c1) (.slice a2 m.per.length c2) (.slice a3 m.pend.length c3)) := X0.out.below hb1; have HY1 : Hid (Bo w1 (w.heap.size + 1) (.slice none 0 0) (.slice none 0 0) (.slice none 0 0)) := Y0.out.below hb1; obtain ⟨⟨x0, x1, x2⟩, -⟩ := HX1.out.bx; obtain ⟨⟨y0, y1, y2⟩, yf0, yf1, yf2⟩ := HY1.out.bx; clear hb1))
    obtain ⟨f1, f2, f3⟩ := finishR (m := m) (HR.out.below HB1.out) HY1.out HB1.out (Nat.le_succ _)
    exact bodyPost_ret (ret_cell2 (p := 6) (u := 7) Try.results28 rfl f1) rfl ⟨_, _, _, by rw [HE.out]; rfl, by rw [HM.out]; exact f2, f3⟩
  by_cases h1 : (m.vol.length : Int) ≤ i
  · have HN : Hid (putB m i = false) := putB_no (by omega)
    have HE : Hid (putE m i = 40) := putE_no HN.out
    have HM : Hid (putM m i v = m) := putM_no HN.out
    go_enter Try.func28, Try.ntmps28
    go_wp2_with (first | (go_at_call 26; refine (checkR_any _ _ _ m _ (HR.out.below HB.out)).mono ?_; rintro e w1 ⟨rfl, hb1⟩; have HB1 : Hid (Below w.heap.size w w1) := bstep HB.out hb1; have HX1 : Hid (Bo w1 w.heap.size (.slice a1 m.vol.length c1) (.slice a2 m.per.length c2) (.slice a3 m.pend.length c3)) := X0.out.below hb1; have HY1 : Hid (Bo w1 (w.heap.size + 1) (.slice none 0 0) (.slice none 0 0) (.slice none 0 0)) := Y0.out.below hb1; obtain ⟨⟨x0, x1, x2⟩, -⟩ := HX1.out.bx; obtain ⟨⟨y0, y1, y2⟩, yf0, yf1, yf2⟩ := HY1.out.bx; clear hb1))
    obtain ⟨f1, f2, f3⟩ := finishR (m := m) (HR.out.below HB1.out) HY1.out HB1.out (Nat.le_succ _)
    exact bodyPost_ret (ret_cell2 (p := 6) (u := 7) Try.results28 rfl f1) rfl ⟨_, _, _, by rw [HE.out]; rfl, by rw [HM.out]; exact f2, f3⟩
  have HN : Hid (putB m i = true) := putB_yes e1 (by omega) (by omega)
  obtain ⟨q, rfl⟩ := Int.eq_ofNat_of_zero_le (show 0 ≤ i by omega)
  have HE : Hid (putE m (q : Int) = 0) := putE_yes HN.out
  have HM : Hid (putM m (q : Int) v = ⟨(m.vol.set q v), m.per, m.pend ++ [⟨(q : Int), v, false⟩]⟩) := putM_yes HN.out
  have HQ : Hid (q < m.vol.length) := by (show q < m.vol.length; omega)
  go_enter Try.func28, Try.ntmps28
  go_wp2_with (first | (go_at_call 26; refine (checkR_any _ _ _ m _ (HR.out.below HB.out)).mono ?_; rintro e w1 ⟨rfl, hb1⟩; have HB1 : Hid (Below w.heap.size w w1) := bstep HB.out hb1; have HX1 : Hid (Bo w1 w.heap.size (.slice a1 m.vol.length c1) (.slice a2 m.per.length c2) (.slice a3 m.pend.length c3)) := X0.out.below hb1; have HY1 : Hid (Bo w1 (w.heap.size + 1) (.slice none 0 0) (.slice none 0 0) (.slice none 0 0)) := Y0.out.below hb1; obtain ⟨⟨x0, x1, x2⟩, -⟩ := HX1.out.bx; obtain ⟨⟨y0, y1, y2⟩, yf0, yf1, yf2⟩ := HY1.out.bx; clear hb1))
  have HR1 : Hid (RdM w1 (.slice a1 m.vol.length c1) (.slice a2 m.per.length c2) (.slice a3 m.pend.length c3) m) := HR.out.below HB1.out
  clear HR HB X0 Y0 y0 y1 y2 yf0 yf1 yf2
  go_region_held3 (fun W => W.cell? ⟨w.heap.size, 0, none⟩ = some (.slice a1 m.vol.length c1) ∧ W.cell? ⟨w.heap.size, 1, none⟩ = some (.slice a2 m.per.length c2) ∧ W.cell? ⟨w.heap.size, 2, none⟩ = some (.slice a3 m.pend.length c3))
    (first | (with_reducible exact keep3 (HX1.out.below HTc.out) _ _ _) | (with_reducible exact keep3 (HX1.out.below HTa.out) _ _ _) | exact (HX1.out.below (by ((repeat (first | exact HTc.out | exact HTa.out | exact HTb.out | exact Below.refl _ _ | with_reducible refine Below.dr ?_ | with_reducible refine Below.al _ ?_)); all_goals fail))).bx.1)
    (first
    | (go_at_call 39; refine (setR_any _ m.vol q v _ (HR1.out.below (by ((repeat (first | exact HTc.out | exact HTa.out | exact HTb.out | exact Below.refl _ _ | with_reducible refine Below.dr ?_ | with_reducible refine Below.al _ ?_)); all_goals fail))).vol HQ.out).mono ?_; rintro e wa ⟨u4, rfl, Oa, hba⟩; have HbA : Hid (Below _ _ wa) := hba; obtain ⟨aa, da, rfl⟩ := Oa.form; obtain ⟨ga, rfl, ga1, ga2⟩ := Oa.there (k := q) (by rw [List.length_set]; exact HQ.out); rw [List.length_set] at Oa; have HTa : Hid (Below w1.heap.size w1 wa) := bstep (by ((repeat (first | exact HTc.out | exact HTa.out | exact HTb.out | exact Below.refl _ _ | with_reducible refine Below.dr ?_ | with_reducible refine Below.al _ ?_)); all_goals fail)) hba; have HOA : Hid (OwnI wa _ (.slice (some ⟨ga, 0, none⟩) m.vol.length da) (m.vol.set q v)) := Oa; have sza := hba.size; (try simp at sza); (try simp at ga1); (try (have HOB : Hid (OwnP wa _ (.slice (some ⟨gb, 0, none⟩) m.pend.length db) m.pend) := (HOB.out.below (by ((repeat (first | exact Below.refl _ _ | with_reducible refine Below.dr ?_ | with_reducible refine Below.al _ ?_)); all_goals fail))).below hba)); (try (have HOC : Hid (OwnP wa _ (.slice (some ⟨gc, 0, none⟩) (m.pend.length + 1) dc) (m.pend ++ [⟨(q : Int), v, false⟩])) := (HOC.out.below (by ((repeat (first | exact Below.refl _ _ | with_reducible refine Below.dr ?_ | with_reducible refine Below.al _ ?_)); all_goals fail))).below hba)); obtain ⟨⟨xa0, xa1, xa2⟩, -⟩ := (HX1.out.below HTa.out).bx; have HYa : Hid (Bo wa (w.heap.size + 1) (.slice none 0 0) (.slice none 0 0) (.slice none 0 0)) := HY1.out.below HTa.out; obtain ⟨⟨ya0, ya1, ya2⟩, yfa0, yfa1, yfa2⟩ := HYa.out.bx; clear Oa hba)
    | (refine step_pend rfl (.tmp 32) (.tmp 34) rfl _ _ m.pend rfl rfl (by ((repeat (first | (with_reducible refine hp_drew ?_) | (with_reducible exact hp_new rfl) | (with_reducible refine hp_new ?_; simp; done) | (with_reducible refine hp_old ?_) | (with_reducible refine hp_below HbA.out ?_) | (with_reducible refine hp_grown' HgB.out (by omega) ?_))); all_goals fail)) (HR1.out.below (by ((repeat (first | exact HTc.out | exact HTa.out | exact HTb.out | exact Below.refl _ _ | with_reducible refine Below.dr ?_ | with_reducible refine Below.al _ ?_)); all_goals fail))).pend ?_; intro gb db wb ob gb' at5; have HgB : Hid (World.grownBy _ wb _) := gb'; have HTb : Hid (Below w1.heap.size w1 wb) := Below.gr (by ((repeat (first | exact HTc.out | exact HTa.out | exact HTb.out | exact Below.refl _ _ | with_reducible refine Below.dr ?_ | with_reducible refine Below.al _ ?_)); all_goals fail)) gb' (by omega); have HOB : Hid (OwnP wb _ (.slice (some ⟨gb, 0, none⟩) m.pend.length db) m.pend) := ob; have gb2 : gb < wb.heap.size := (World.ownsRow.lt ob gb rfl).2; have szb := gb'.size; (try simp at szb); (try simp at at5); (try (have HOA : Hid (OwnI wb _ (.slice (some ⟨ga, 0, none⟩) m.vol.length da) (m.vol.set q v)) := own_grown' (HOA.out.below (by ((repeat (first | exact Below.refl _ _ | with_reducible refine Below.dr ?_ | with_reducible refine Below.al _ ?_)); all_goals fail))) gb' (by omega))); obtain ⟨⟨xb0, xb1, xb2⟩, -⟩ := (HX1.out.below HTb.out).bx; clear ob gb')
    | (refine step_lit rfl (.tmp 35) (.tmp 39) rfl _ gb db _ m.pend ⟨(q : Int), v, false⟩ rfl rfl (HOB.out.below (by ((repeat (first | exact Below.refl _ _ | with_reducible refine Below.dr ?_ | with_reducible refine Below.al _ ?_)); all_goals fail))) (by omega) (by ((repeat (first | (with_reducible refine hp_drew ?_) | (with_reducible exact hp_new rfl) | (with_reducible refine hp_new ?_; simp; done) | (with_reducible refine hp_old ?_) | (with_reducible refine hp_below HbA.out ?_) | (with_reducible refine hp_grown' HgB.out (by omega) ?_))); all_goals fail)) ?_; intro gc dc wc oc gc'; have HTc : Hid (Below w1.heap.size w1 wc) := Below.gr (by ((repeat (first | exact HTc.out | exact HTa.out | exact HTb.out | exact Below.refl _ _ | with_reducible refine Below.dr ?_ | with_reducible refine Below.al _ ?_)); all_goals fail)) gc' (by omega); have HOC : Hid (OwnP wc _ (.slice (some ⟨gc, 0, none⟩) (m.pend.length + 1) dc) (m.pend ++ [⟨(q : Int), v, false⟩])) := oc; have szc := gc'.size; (try simp at szc); (try (have HOA : Hid (OwnI wc _ (.slice (some ⟨ga, 0, none⟩) m.vol.length da) (m.vol.set q v)) := own_grown' (HOA.out.below (by ((repeat (first | exact Below.refl _ _ | with_reducible refine Below.dr ?_ | with_reducible refine Below.al _ ?_)); all_goals fail))) gc' (by omega))); obtain ⟨⟨xc0, xc1, xc2⟩, -⟩ := (HX1.out.below HTc.out).bx; have HYc : Hid (Bo wc (w.heap.size + 1) (.slice none 0 0) (.slice none 0 0) (.slice none 0 0)) := HY1.out.below HTc.out; obtain ⟨⟨yc0, yc1, yc2⟩, yfc0, yfc1, yfc2⟩ := HYc.out.bx; clear oc gc'))
  all_goals
    go_wp2
    first
      | (obtain ⟨f1, f2, f3⟩ := finishR (w := w) (m := ⟨(m.vol.set q v), m.per, m.pend ++ [⟨(q : Int), v, false⟩]⟩) ⟨HOA.out.rd (by rw [List.length_set]; exact l1), (HR1.out.below HTc.out).per, HOC.out.rd (by rw [List.length_append]; show _ + 1 ≤ _; omega)⟩ HYc.out (bstep HB1.out HTc.out) (Nat.le_succ _)
         exact bodyPost_ret (ret_cell2 (p := 6) (u := 7) Try.results28 rfl f1) rfl ⟨_, _, _, by rw [HE.out]; rfl, by rw [HM.out]; exact f2, f3⟩)
      | (obtain ⟨f1, f2, f3⟩ := finishR (w := w) (m := ⟨(m.vol.set q v), m.per, m.pend ++ [⟨(q : Int), v, false⟩]⟩) ⟨HOA.out.rd (by rw [List.length_set]; exact l1), (HR1.out.below HTa.out).per, HOC.out.rd (by rw [List.length_append]; show _ + 1 ≤ _; omega)⟩ HYa.out (bstep HB1.out HTa.out) (Nat.le_succ _)
         exact bodyPost_ret (ret_cell2 (p := 6) (u := 7) Try.results28 rfl f1) rfl ⟨_, _, _, by rw [HE.out]; rfl, by rw [HM.out]; exact f2, f3⟩)
end Go.Proofs.Ythibgmndgkhfiaa
