/- Walks of layer 4: the document's own answers: Sync, New. -/
import Derived.Test.YtmaeobdeddllaaaWalks
import Derived.Test.YtmaeobdeddllaaaNume
namespace Go.Proofs.Ytmaeobdeddllaaa
open Go.RowKit Go.Shelf
set_option linter.unusedVariables false

theorem syn_all {m : Mm} (h : ok m = true) : synM m = ⟨m.vol, m.vol, []⟩ := by
  obtain ⟨h1, h2⟩ := all_true m.pend m.per
  unfold synM
  rw [h, if_pos rfl]
  unfold kM
  rw [h1, h2, (ok_out h).2.2.2.2.2]

set_option maxRecDepth 100000 in
set_option maxHeartbeats 2000000 in
theorem syncR_any (va vb vc : Value) (m : Mm) (w : World) (hR : RdM w va vb vc m) : Calls Try.prog 21 #[.agg #[va, vb, vc]] w fun e w' => ∃ va' vb' vc', e = .returned (.tuple #[.agg #[va', vb', vc'], .int .i64 (okE m)]) ∧ RdM w' va' vb' vc' (synM m) ∧ Below w.heap.size w w' := by
  obtain ⟨l1, l2, l3⟩ := hR.lens
  obtain ⟨a1, c1, a2, c2, a3, c3, rfl, rfl, rfl⟩ := hR.forms
  have HB : Hid (Below w.heap.size w ((w.alloc (.cells #[.slice a1 m.vol.length c1, .slice a2 m.per.length c2, .slice a3 m.pend.length c3] 25)).alloc (.cells #[.slice none 0 0, .slice none 0 0, .slice none 0 0] 25))) := ((Below.refl _ _).alloc (Nat.le_refl _) _).alloc (by simp) _
  have X0 : Hid (Bo ((w.alloc (.cells #[.slice a1 m.vol.length c1, .slice a2 m.per.length c2, .slice a3 m.pend.length c3] 25)).alloc (.cells #[.slice none 0 0, .slice none 0 0, .slice none 0 0] 25)) w.heap.size (.slice a1 m.vol.length c1) (.slice a2 m.per.length c2) (.slice a3 m.pend.length c3)) := (Bo.new w _ _ _).below ((Below.refl _ _).alloc (Nat.le_refl _) _)
  have Y0 : Hid (Bo ((w.alloc (.cells #[.slice a1 m.vol.length c1, .slice a2 m.per.length c2, .slice a3 m.pend.length c3] 25)).alloc (.cells #[.slice none 0 0, .slice none 0 0, .slice none 0 0] 25)) (w.heap.size + 1) (.slice none 0 0) (.slice none 0 0) (.slice none 0 0)) := by (have := Bo.new (w.alloc (.cells #[.slice a1 m.vol.length c1, .slice a2 m.per.length c2, .slice a3 m.pend.length c3] 25)) (.slice none 0 0) (.slice none 0 0) (.slice none 0 0); rwa [World.size_alloc] at this)
  have HR : Hid (RdM w (.slice a1 m.vol.length c1) (.slice a2 m.per.length c2) (.slice a3 m.pend.length c3) m) := hR
  clear hR
  cases e1 : ok m
  · have HE : Hid (okE m = 40) := by (show okE m = _; unfold okE; rw [e1]; rfl)
    have HM : Hid (synM m = m) := by (show synM m = _; unfold synM; rw [e1]; rfl)
    go_enter Try.func21, Try.ntmps21
    go_wp2_with (first | (go_at_call 28; refine (checkR_any _ _ _ m _ (HR.out.below HB.out)).mono ?_; rintro e w1 ⟨rfl, hb1⟩; have HB1 : Hid (Below w.heap.size w w1) := bstep HB.out hb1; have HX1 : Hid (Bo w1 w.heap.size (.slice a1 m.vol.length c1) (.slice a2 m.per.length c2) (.slice a3 m.pend.length c3)) := X0.out.below hb1; have HY1 : Hid (Bo w1 (w.heap.size + 1) (.slice none 0 0) (.slice none 0 0) (.slice none 0 0)) := Y0.out.below hb1; obtain ⟨⟨x0, x1, x2⟩, -⟩ := HX1.out.bx; obtain ⟨⟨y0, y1, y2⟩, yf0, yf1, yf2⟩ := HY1.out.bx; clear hb1))
    obtain ⟨f1, f2, f3⟩ := finishR (m := m) (HR.out.below HB1.out) HY1.out HB1.out (Nat.le_succ _)
    exact bodyPost_ret (ret_cell2 (p := 2) (u := 3) Try.results21 rfl f1) rfl ⟨_, _, _, by rw [HE.out]; rfl, by rw [HM.out]; exact f2, f3⟩
  · have HE : Hid (okE m = 0) := by (show okE m = _; unfold okE; rw [e1]; rfl)
    have HM : Hid (synM m = ⟨m.vol, m.vol, []⟩) := syn_all e1
    go_enter Try.func21, Try.ntmps21
    go_wp2_with (first | (go_at_call 28; refine (checkR_any _ _ _ m _ (HR.out.below HB.out)).mono ?_; rintro e w1 ⟨rfl, hb1⟩; have HB1 : Hid (Below w.heap.size w w1) := bstep HB.out hb1; have HX1 : Hid (Bo w1 w.heap.size (.slice a1 m.vol.length c1) (.slice a2 m.per.length c2) (.slice a3 m.pend.length c3)) := X0.out.below hb1; have HY1 : Hid (Bo w1 (w.heap.size + 1) (.slice none 0 0) (.slice none 0 0) (.slice none 0 0)) := Y0.out.below hb1; obtain ⟨⟨x0, x1, x2⟩, -⟩ := HX1.out.bx; obtain ⟨⟨y0, y1, y2⟩, yf0, yf1, yf2⟩ := HY1.out.bx; clear hb1))
    obtain ⟨f1, f2, f3⟩ := finishR (m := ⟨m.vol, m.vol, []⟩) (⟨(HR.out.below HB1.out).vol, (HR.out.below HB1.out).vol, RdP.bare _⟩) HY1.out HB1.out (Nat.le_succ _)
    exact bodyPost_ret (ret_cell2 (p := 2) (u := 3) Try.results21 rfl f1) rfl ⟨_, _, _, by rw [HE.out]; rfl, by rw [HM.out]; exact f2, f3⟩

set_option maxRecDepth 100000 in
set_option maxHeartbeats 2000000 in
theorem newR_any (va : Value) (l : List Int) (w : World) (hR : Rd w va l) : Calls Try.prog 25 #[va] w fun e w' => ∃ va' vb' vc', e = .returned (.tuple #[.agg #[va', vb', vc'], .int .i64 (newE l)]) ∧ RdM w' va' vb' vc' (newM l) ∧ Below w.heap.size w w' := by
  obtain ⟨l1, a1, c1, rfl⟩ := hR.form
  have HB1 : Hid (Below w.heap.size w (w.alloc (.cells #[.slice none 0 0, .slice none 0 0, .slice none 0 0] 25))) := (Below.refl _ _).alloc (Nat.le_refl _) _
  have HY1 : Hid (Bo (w.alloc (.cells #[.slice none 0 0, .slice none 0 0, .slice none 0 0] 25)) w.heap.size (.slice none 0 0) (.slice none 0 0) (.slice none 0 0)) := Bo.new w _ _ _
  have h4 : ¬ ((4096 : Int) < (l.length : Int)) := by omega
  by_cases h8 : l.length % 8 = 0
  · have h8' : ((l.length : Int) % 8 != 0) = false := by simp; omega
    have e1 : mayB l.length = true := decide_eq_true ⟨by omega, h8⟩
    have HE : Hid (newE l = 0) := by (show newE l = _; unfold newE; rw [e1]; rfl)
    have HM : Hid (newM l = ⟨l, l, []⟩) := by (show newM l = _; unfold newM; rw [e1]; rfl)
    clear e1 h8
    go_enter Try.func25, Try.ntmps25
    go_wp2
    have hb : Below w.heap.size w (w.alloc (.cells #[.slice a1 l.length c1, .slice a1 l.length c1, .slice none 0 0] 25)) := (Below.refl _ _).alloc (Nat.le_refl _) _
    exact bodyPost_ret (ret_cell2 (p := 2) (u := 3) Try.results25 rfl (Bo.new w _ _ _).bx) rfl ⟨_, _, _, by rw [HE.out]; rfl, by rw [HM.out]; exact ⟨hR.below hb, hR.below hb, RdP.bare _⟩, hb⟩
  · have h8' : ((l.length : Int) % 8 != 0) = true := by simp; omega
    have e1 : mayB l.length = false := decide_eq_false (by omega)
    have HE : Hid (newE l = 40) := by (show newE l = _; unfold newE; rw [e1]; rfl)
    have HM : Hid (newM l = ⟨[], [], []⟩) := by (show newM l = _; unfold newM; rw [e1]; rfl)
    clear e1 h8
    go_enter Try.func25, Try.ntmps25
    go_wp2
    exact bodyPost_ret (ret_cell2 (p := 2) (u := 3) Try.results25 rfl HY1.out.bx) rfl ⟨_, _, _, by rw [HE.out]; rfl, by rw [HM.out]; exact ⟨Rd.bare _, Rd.bare _, RdP.bare _⟩, HB1.out⟩
end Go.Proofs.Ytmaeobdeddllaaa

