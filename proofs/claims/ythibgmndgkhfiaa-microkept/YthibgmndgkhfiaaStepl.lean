/- Walks of layer 5: the document's own answers: Crash. -/
import Derived.Test.YthibgmndgkhfiaaStepk
import Derived.Deep.RegionHeld3
namespace Go.Proofs.Ythibgmndgkhfiaa
open Go.RowKit Go.Shelf
set_option linter.unusedVariables false

theorem add_none (a : Option Addr) : a.map (·.add 0) = a := by
  cases a with
  | none => rfl
  | some x => obtain ⟨b, o, s⟩ := x; simp [Addr.add]
theorem slice_to {a : Option Addr} {n cap : Nat} (q : Nat) (h : q ≤ cap) (W : World) : (Instr.slice 26 (.slice a n cap) none (some (.int .i64 (q : Int))) none).run Try.prog W = .ok (.slice a q cap) W := by
  have e := add_none a
  simp [e, Instr.slice, Instr.sliceBounds, Instr.sliceBound, run_underlying Try.underlying26, Result.andThen, h, asIntOf, Try.sizeOf28]
theorem RdS.take {W : World} {a : Option Addr} {cap : Nat} {l : List Mi} (h : RdS W (.slice a l.length cap) l) {k : Nat} (hk : k ≤ l.length) : RdS W (.slice a k cap) (l.take k) := by
  have hl : (l.take k).length = k := by rw [List.length_take]; omega
  obtain ⟨h1, h2, a', cap', e, h3⟩ := h
  cases e
  refine ⟨mcs_length _, by omega, a, cap, by rw [hl], ?_⟩
  rw [hl]
  rcases h3 with ⟨h0, hn⟩ | ⟨b, off, rfl, hlt, hc⟩
  · exact .inl ⟨by omega, hn⟩
  · refine .inr ⟨b, off, rfl, hlt, fun j u hj => hc j u ?_⟩
    have e2 : mcs l = mcs (l.take k) ++ mcs (l.drop k) := by rw [← mcs_append, List.take_append_drop]
    rw [e2, List.getElem?_append_left (List.getElem?_eq_some_iff.1 hj).1]
    exact hj
theorem keep9 {W : World} {b c : Nat} {u1 u2 u3 : Value} (hX : Bo W b u1 u2 u3) (hbc : b ≠ c) (p q r : Value) :
    (((W.setCell ⟨c, 0, none⟩ p).setCell ⟨c, 1, none⟩ q).setCell ⟨c, 2, none⟩ r).cell? ⟨b, 0, none⟩ = some u1 ∧ (((W.setCell ⟨c, 0, none⟩ p).setCell ⟨c, 1, none⟩ q).setCell ⟨c, 2, none⟩ r).cell? ⟨b, 1, none⟩ = some u2 ∧ (((W.setCell ⟨c, 0, none⟩ p).setCell ⟨c, 1, none⟩ q).setCell ⟨c, 2, none⟩ r).cell? ⟨b, 2, none⟩ = some u3 := (hX.other hbc p q r).bx.1

set_option maxRecDepth 100000 in
set_option maxHeartbeats 16000000 in
theorem crashSR_any (va vb vc vk : Value) (a : Option Addr) (cap : Nat) (m : Mm) (l : List Mi) (n : Int) (keep : List Int) (w : World) (hR : RdM w va vb vc m) (hS : RdS w (.slice a l.length cap) l) (hcap : l.length ≤ cap) (hK : Rd w vk keep) (hp : m.pend.length + l.length ≤ 900) : Calls Try.prog 15 #[.agg #[va, vb, vc], .slice a l.length cap, .int .i64 n, vk] w fun e w' => ∃ v', e = .returned (.tuple #[v', .int .i64 (ruE m l)]) ∧ Rd w' v' (csP m l n keep) ∧ Below w.heap.size w w' := by
  obtain ⟨l1, l2, l3⟩ := hR.lens
  obtain ⟨a1, c1, a2, c2, a3, c3, rfl, rfl, rfl⟩ := hR.forms
  have HR : Hid (RdM w (.slice a1 m.vol.length c1) (.slice a2 m.per.length c2) (.slice a3 m.pend.length c3) m) := hR
  have HS : Hid (RdS w (.slice a l.length cap) l) := hS
  have ll := hS.form.1
  have HB : Hid (Below w.heap.size w (w.alloc (.cells #[.slice a1 m.vol.length c1, .slice a2 m.per.length c2, .slice a3 m.pend.length c3] 25))) := (Below.refl _ _).alloc (Nat.le_refl _) _
  have HX : Hid (Bo (w.alloc (.cells #[.slice a1 m.vol.length c1, .slice a2 m.per.length c2, .slice a3 m.pend.length c3] 25)) w.heap.size (.slice a1 m.vol.length c1) (.slice a2 m.per.length c2) (.slice a3 m.pend.length c3)) := Bo.new w _ _ _
  obtain ⟨lk, ka, kc, rfl⟩ := hK.form
  have HKe : Hid (Rd w (.slice ka keep.length kc) keep) := hK
  clear hR hS hK
  have tk1 : Hid (0 = 0) := rfl
  cases e1 : mrB m l
  · have HE : Hid (ruE m l = 40) := ruE_no e1
    have HM : Hid (csP m l n keep = []) := csP_no e1 n keep
    go_enter Try.func15, Try.ntmps15
    go_wp2_with (first
      | (go_at_call 11; clear tk1; refine (runR_any _ _ _ _ m l _ (HR.out.below HB.out) (HS.out.below HB.out) hp).mono ?_; rintro e w1 ⟨v1, v2, v3, rfl, R1, hb1⟩; rw [HE.out]; obtain ⟨f1, fd1, f2, fd2, f3, fd3, rfl, rfl, rfl⟩ := R1.forms; have b2 : Below w1.heap.size w1 (w1.alloc (.cells #[.slice f1 (ruM m l).vol.length fd1, .slice f2 (ruM m l).per.length fd2, .slice f3 (ruM m l).pend.length fd3] 25)) := (Below.refl _ _).alloc (Nat.le_refl _) _; have HB1 : Hid (Below w.heap.size w (w1.alloc (.cells #[.slice f1 (ruM m l).vol.length fd1, .slice f2 (ruM m l).per.length fd2, .slice f3 (ruM m l).pend.length fd3] 25))) := bstep (bstep HB.out hb1) b2; have HX1 : Hid (Bo (w1.alloc (.cells #[.slice f1 (ruM m l).vol.length fd1, .slice f2 (ruM m l).per.length fd2, .slice f3 (ruM m l).pend.length fd3] 25)) w.heap.size (.slice a1 m.vol.length c1) (.slice a2 m.per.length c2) (.slice a3 m.pend.length c3)) := (HX.out.below hb1).below b2; clear R1 hb1 b2))
    go_ret2
    exact ⟨_, by rw [HE.out]; rfl, by rw [HM.out]; exact Rd.bare _, HB1.out⟩
  have HE : Hid (ruE m l = 0) := ruE_yes e1
  by_cases i1 : (l.length : Int) < n
  · by_cases i2 : (0 : Int) < (l.length : Int)
    · obtain ⟨q, hq⟩ : ∃ q : Nat, q = l.length := ⟨_, rfl⟩
      have hqc : q ≤ cap := by omega
      have HM : Hid (csP m l n keep = crP (ruM m (l.take q)) keep) := by (show _ = _; rw [csP_yes e1, show tkN n l.length = q from (by unfold tkN; omega), ruM_yes (mr_take e1 q)])
      have HE2 : Hid (okE (ruM m (l.take q)) = 0) := by (show _ = _; rw [ruM_yes (mr_take e1 q)]; exact okE_yes (ok_run (mrB_out e1).1 _))
      have sl : ∀ W, (Instr.slice 26 (.slice a l.length cap) none (some (.int .i64 (l.length : Int))) none).run Try.prog W = .ok (.slice a q cap) W := fun W => by subst hq; exact slice_to _ hqc W
      have HQ : Hid (RdS w (.slice a q cap) (l.take q)) := HS.out.take (by omega)
      have Hpq : Hid (m.pend.length + (l.take q).length ≤ 900) := by (show _ ≤ _; rw [List.length_take]; omega)
      try clear hq
      go_enter Try.func15, Try.ntmps15
      go_wp2_with (first
        | (go_at_call 11; clear tk1; refine (runR_any _ _ _ _ m l _ (HR.out.below HB.out) (HS.out.below HB.out) hp).mono ?_; rintro e w1 ⟨v1, v2, v3, rfl, R1, hb1⟩; rw [HE.out]; obtain ⟨f1, fd1, f2, fd2, f3, fd3, rfl, rfl, rfl⟩ := R1.forms; have b2 : Below w1.heap.size w1 (w1.alloc (.cells #[.slice f1 (ruM m l).vol.length fd1, .slice f2 (ruM m l).per.length fd2, .slice f3 (ruM m l).pend.length fd3] 25)) := (Below.refl _ _).alloc (Nat.le_refl _) _; have HB1 : Hid (Below w.heap.size w (w1.alloc (.cells #[.slice f1 (ruM m l).vol.length fd1, .slice f2 (ruM m l).per.length fd2, .slice f3 (ruM m l).pend.length fd3] 25))) := bstep (bstep HB.out hb1) b2; have HX1 : Hid (Bo (w1.alloc (.cells #[.slice f1 (ruM m l).vol.length fd1, .slice f2 (ruM m l).per.length fd2, .slice f3 (ruM m l).pend.length fd3] 25)) w.heap.size (.slice a1 m.vol.length c1) (.slice a2 m.per.length c2) (.slice a3 m.pend.length c3)) := (HX.out.below hb1).below b2; clear R1 hb1 b2))
      have hlt5 : w.heap.size < (w1.alloc (.cells #[.slice f1 (ruM m l).vol.length fd1, .slice f2 (ruM m l).per.length fd2, .slice f3 (ruM m l).pend.length fd3] 25)).heap.size := HX1.out.lt
      generalize (w1.alloc (.cells #[.slice f1 (ruM m l).vol.length fd1, .slice f2 (ruM m l).per.length fd2, .slice f3 (ruM m l).pend.length fd3] 25)) = W5 at HB1 HX1 hlt5 ⊢
      have hne : Hid (w.heap.size ≠ W5.heap.size) := by (show _ ≠ _; omega)
      obtain ⟨⟨z0, z1, z2⟩, -⟩ := HX1.out.bx
      have HS0 : Hid (W5.drew.cell? ⟨w.heap.size, 0, none⟩ = some (.slice a1 m.vol.length c1) ∧ W5.drew.cell? ⟨w.heap.size, 1, none⟩ = some (.slice a2 m.per.length c2) ∧ W5.drew.cell? ⟨w.heap.size, 2, none⟩ = some (.slice a3 m.pend.length c3)) := ⟨z0, z1, z2⟩
      go_region_held3 (fun W => W.cell? ⟨w.heap.size, 0, none⟩ = some (.slice a1 m.vol.length c1) ∧ W.cell? ⟨w.heap.size, 1, none⟩ = some (.slice a2 m.per.length c2) ∧ W.cell? ⟨w.heap.size, 2, none⟩ = some (.slice a3 m.pend.length c3))
        (first | exact HS0.out | (with_reducible exact keep9 (HX1.out.below H6.out) hne.out _ _ _) | exact (HX1.out.below (by ((repeat (first | exact Below.refl _ _ | exact H6.out | with_reducible refine Below.dr ?_ | with_reducible refine Below.al _ ?_)); all_goals fail))).bx.1)
        (first
        | (go_at_call 11; refine (runR_any _ _ _ _ m (l.take q) _ ((HR.out.below HB1.out).below (by ((repeat (first | exact Below.refl _ _ | with_reducible refine Below.dr ?_ | with_reducible refine Below.al _ ?_)); all_goals fail))) ((HQ.out.below HB1.out).below (by ((repeat (first | exact Below.refl _ _ | with_reducible refine Below.dr ?_ | with_reducible refine Below.al _ ?_)); all_goals fail))) Hpq.out).mono ?_; rintro e w6 ⟨v1, v2, v3, rfl, R6, hb6⟩; obtain ⟨g1, gd1, g2, gd2, g3, gd3, rfl, rfl, rfl⟩ := R6.forms; have H6 : Hid (Below W5.heap.size W5 w6) := bstep (by ((repeat (first | exact Below.refl _ _ | with_reducible refine Below.dr ?_ | with_reducible refine Below.al _ ?_)); all_goals fail)) hb6; (try (have HZ6 : Hid (Bo w6 W5.heap.size (.slice none 0 0) (.slice none 0 0) (.slice none 0 0)) := hp_below hb6 (hp_new rfl); obtain ⟨⟨t0, t1, t2⟩, tf0, tf1, tf2⟩ := HZ6.out.bx)); have HR6 : Hid (RdM w6 (.slice g1 (ruM m (l.take q)).vol.length gd1) (.slice g2 (ruM m (l.take q)).per.length gd2) (.slice g3 (ruM m (l.take q)).pend.length gd3) (ruM m (l.take q))) := R6; clear R6 hb6))
      · have b7 : Below w6.heap.size w6 (w6.alloc (.cells #[.slice g1 (ruM m (l.take q)).vol.length gd1, .slice g2 (ruM m (l.take q)).per.length gd2, .slice g3 (ruM m (l.take q)).pend.length gd3] 25)) := (Below.refl _ _).alloc (Nat.le_refl _) _
        have HFB : Hid (Below w.heap.size w (w6.alloc (.cells #[.slice g1 (ruM m (l.take q)).vol.length gd1, .slice g2 (ruM m (l.take q)).per.length gd2, .slice g3 (ruM m (l.take q)).pend.length gd3] 25))) := bstep (bstep HB1.out H6.out) b7
        have HFN : Hid (Bo (w6.alloc (.cells #[.slice g1 (ruM m (l.take q)).vol.length gd1, .slice g2 (ruM m (l.take q)).per.length gd2, .slice g3 (ruM m (l.take q)).pend.length gd3] 25)) w6.heap.size (.slice g1 (ruM m (l.take q)).vol.length gd1) (.slice g2 (ruM m (l.take q)).per.length gd2) (.slice g3 (ruM m (l.take q)).pend.length gd3)) := Bo.new w6 _ _ _
        have HFR : Hid (RdM (w6.alloc (.cells #[.slice g1 (ruM m (l.take q)).vol.length gd1, .slice g2 (ruM m (l.take q)).per.length gd2, .slice g3 (ruM m (l.take q)).pend.length gd3] 25)) (.slice g1 (ruM m (l.take q)).vol.length gd1) (.slice g2 (ruM m (l.take q)).per.length gd2) (.slice g3 (ruM m (l.take q)).pend.length gd3) (ruM m (l.take q))) := HR6.out.below b7
        clear b7 z0 z1 z2
        obtain ⟨⟨n0, n1, n2⟩, -⟩ := HFN.out.bx
        go_wp2_with (first
            | (go_at_call 32; refine (crashR_any _ _ _ _ (ruM m (l.take q)) keep _ HFR.out (HKe.out.below HFB.out)).mono ?_; rintro e w9 ⟨v9, rfl, R9, hb9⟩; have HR9 : Hid (Rd w9 v9 (crP (ruM m (l.take q)) keep)) := R9; have HB9 : Hid (Below w.heap.size w w9) := bstep HFB.out hb9; clear R9 hb9))
        go_ret2
        exact ⟨_, by rw [HE.out, HE2.out]; rfl, by rw [HM.out]; exact HR9.out, HB9.out⟩
      · have HFB : Hid (Below w.heap.size w (((w6.setCell ⟨W5.heap.size, 0, none⟩ (.slice g1 (ruM m (l.take q)).vol.length gd1)).setCell ⟨W5.heap.size, 1, none⟩ (.slice g2 (ruM m (l.take q)).per.length gd2)).setCell ⟨W5.heap.size, 2, none⟩ (.slice g3 (ruM m (l.take q)).pend.length gd3))) := S3.below (bstep HB1.out H6.out) (by have := HB1.out.size; omega) _ _ _
        have HFN : Hid (Bo (((w6.setCell ⟨W5.heap.size, 0, none⟩ (.slice g1 (ruM m (l.take q)).vol.length gd1)).setCell ⟨W5.heap.size, 1, none⟩ (.slice g2 (ruM m (l.take q)).per.length gd2)).setCell ⟨W5.heap.size, 2, none⟩ (.slice g3 (ruM m (l.take q)).pend.length gd3)) W5.heap.size (.slice g1 (ruM m (l.take q)).vol.length gd1) (.slice g2 (ruM m (l.take q)).per.length gd2) (.slice g3 (ruM m (l.take q)).pend.length gd3)) := HZ6.out.set _ _ _
        have HFR : Hid (RdM (((w6.setCell ⟨W5.heap.size, 0, none⟩ (.slice g1 (ruM m (l.take q)).vol.length gd1)).setCell ⟨W5.heap.size, 1, none⟩ (.slice g2 (ruM m (l.take q)).per.length gd2)).setCell ⟨W5.heap.size, 2, none⟩ (.slice g3 (ruM m (l.take q)).pend.length gd3)) (.slice g1 (ruM m (l.take q)).vol.length gd1) (.slice g2 (ruM m (l.take q)).per.length gd2) (.slice g3 (ruM m (l.take q)).pend.length gd3) (ruM m (l.take q))) := HR6.out.box HZ6.out _ _ _
        clear z0 z1 z2 t0 t1 t2 tf0 tf1 tf2
        obtain ⟨⟨n0, n1, n2⟩, -⟩ := HFN.out.bx
        go_wp2_with (first
            | (go_at_call 32; refine (crashR_any _ _ _ _ (ruM m (l.take q)) keep _ HFR.out (HKe.out.below HFB.out)).mono ?_; rintro e w9 ⟨v9, rfl, R9, hb9⟩; have HR9 : Hid (Rd w9 v9 (crP (ruM m (l.take q)) keep)) := R9; have HB9 : Hid (Below w.heap.size w w9) := bstep HFB.out hb9; clear R9 hb9))
        go_ret2
        exact ⟨_, by rw [HE.out, HE2.out]; rfl, by rw [HM.out]; exact HR9.out, HB9.out⟩
    · obtain ⟨q, hq⟩ : ∃ q : Nat, q = 0 := ⟨_, rfl⟩
      have hqc : q ≤ cap := by omega
      have HM : Hid (csP m l n keep = crP (ruM m (l.take q)) keep) := by (show _ = _; rw [csP_yes e1, show tkN n l.length = q from (by unfold tkN; omega), ruM_yes (mr_take e1 q)])
      have HE2 : Hid (okE (ruM m (l.take q)) = 0) := by (show _ = _; rw [ruM_yes (mr_take e1 q)]; exact okE_yes (ok_run (mrB_out e1).1 _))
      have sl : ∀ W, (Instr.slice 26 (.slice a l.length cap) none (some (.int .i64 0)) none).run Try.prog W = .ok (.slice a q cap) W := fun W => by subst hq; exact slice_to 0 hqc W
      have HQ : Hid (RdS w (.slice a q cap) (l.take q)) := HS.out.take (by omega)
      have Hpq : Hid (m.pend.length + (l.take q).length ≤ 900) := by (show _ ≤ _; rw [List.length_take]; omega)
      try clear hq
      go_enter Try.func15, Try.ntmps15
      go_wp2_with (first
        | (go_at_call 11; clear tk1; refine (runR_any _ _ _ _ m l _ (HR.out.below HB.out) (HS.out.below HB.out) hp).mono ?_; rintro e w1 ⟨v1, v2, v3, rfl, R1, hb1⟩; rw [HE.out]; obtain ⟨f1, fd1, f2, fd2, f3, fd3, rfl, rfl, rfl⟩ := R1.forms; have b2 : Below w1.heap.size w1 (w1.alloc (.cells #[.slice f1 (ruM m l).vol.length fd1, .slice f2 (ruM m l).per.length fd2, .slice f3 (ruM m l).pend.length fd3] 25)) := (Below.refl _ _).alloc (Nat.le_refl _) _; have HB1 : Hid (Below w.heap.size w (w1.alloc (.cells #[.slice f1 (ruM m l).vol.length fd1, .slice f2 (ruM m l).per.length fd2, .slice f3 (ruM m l).pend.length fd3] 25))) := bstep (bstep HB.out hb1) b2; have HX1 : Hid (Bo (w1.alloc (.cells #[.slice f1 (ruM m l).vol.length fd1, .slice f2 (ruM m l).per.length fd2, .slice f3 (ruM m l).pend.length fd3] 25)) w.heap.size (.slice a1 m.vol.length c1) (.slice a2 m.per.length c2) (.slice a3 m.pend.length c3)) := (HX.out.below hb1).below b2; clear R1 hb1 b2))
      have hlt5 : w.heap.size < (w1.alloc (.cells #[.slice f1 (ruM m l).vol.length fd1, .slice f2 (ruM m l).per.length fd2, .slice f3 (ruM m l).pend.length fd3] 25)).heap.size := HX1.out.lt
      generalize (w1.alloc (.cells #[.slice f1 (ruM m l).vol.length fd1, .slice f2 (ruM m l).per.length fd2, .slice f3 (ruM m l).pend.length fd3] 25)) = W5 at HB1 HX1 hlt5 ⊢
      have hne : Hid (w.heap.size ≠ W5.heap.size) := by (show _ ≠ _; omega)
      obtain ⟨⟨z0, z1, z2⟩, -⟩ := HX1.out.bx
      have HS0 : Hid (W5.drew.cell? ⟨w.heap.size, 0, none⟩ = some (.slice a1 m.vol.length c1) ∧ W5.drew.cell? ⟨w.heap.size, 1, none⟩ = some (.slice a2 m.per.length c2) ∧ W5.drew.cell? ⟨w.heap.size, 2, none⟩ = some (.slice a3 m.pend.length c3)) := ⟨z0, z1, z2⟩
      go_region_held3 (fun W => W.cell? ⟨w.heap.size, 0, none⟩ = some (.slice a1 m.vol.length c1) ∧ W.cell? ⟨w.heap.size, 1, none⟩ = some (.slice a2 m.per.length c2) ∧ W.cell? ⟨w.heap.size, 2, none⟩ = some (.slice a3 m.pend.length c3))
        (first | exact HS0.out | (with_reducible exact keep9 (HX1.out.below H6.out) hne.out _ _ _) | exact (HX1.out.below (by ((repeat (first | exact Below.refl _ _ | exact H6.out | with_reducible refine Below.dr ?_ | with_reducible refine Below.al _ ?_)); all_goals fail))).bx.1)
        (first
        | (go_at_call 11; refine (runR_any _ _ _ _ m (l.take q) _ ((HR.out.below HB1.out).below (by ((repeat (first | exact Below.refl _ _ | with_reducible refine Below.dr ?_ | with_reducible refine Below.al _ ?_)); all_goals fail))) ((HQ.out.below HB1.out).below (by ((repeat (first | exact Below.refl _ _ | with_reducible refine Below.dr ?_ | with_reducible refine Below.al _ ?_)); all_goals fail))) Hpq.out).mono ?_; rintro e w6 ⟨v1, v2, v3, rfl, R6, hb6⟩; obtain ⟨g1, gd1, g2, gd2, g3, gd3, rfl, rfl, rfl⟩ := R6.forms; have H6 : Hid (Below W5.heap.size W5 w6) := bstep (by ((repeat (first | exact Below.refl _ _ | with_reducible refine Below.dr ?_ | with_reducible refine Below.al _ ?_)); all_goals fail)) hb6; (try (have HZ6 : Hid (Bo w6 W5.heap.size (.slice none 0 0) (.slice none 0 0) (.slice none 0 0)) := hp_below hb6 (hp_new rfl); obtain ⟨⟨t0, t1, t2⟩, tf0, tf1, tf2⟩ := HZ6.out.bx)); have HR6 : Hid (RdM w6 (.slice g1 (ruM m (l.take q)).vol.length gd1) (.slice g2 (ruM m (l.take q)).per.length gd2) (.slice g3 (ruM m (l.take q)).pend.length gd3) (ruM m (l.take q))) := R6; clear R6 hb6))
      · have b7 : Below w6.heap.size w6 (w6.alloc (.cells #[.slice g1 (ruM m (l.take q)).vol.length gd1, .slice g2 (ruM m (l.take q)).per.length gd2, .slice g3 (ruM m (l.take q)).pend.length gd3] 25)) := (Below.refl _ _).alloc (Nat.le_refl _) _
        have HFB : Hid (Below w.heap.size w (w6.alloc (.cells #[.slice g1 (ruM m (l.take q)).vol.length gd1, .slice g2 (ruM m (l.take q)).per.length gd2, .slice g3 (ruM m (l.take q)).pend.length gd3] 25))) := bstep (bstep HB1.out H6.out) b7
        have HFN : Hid (Bo (w6.alloc (.cells #[.slice g1 (ruM m (l.take q)).vol.length gd1, .slice g2 (ruM m (l.take q)).per.length gd2, .slice g3 (ruM m (l.take q)).pend.length gd3] 25)) w6.heap.size (.slice g1 (ruM m (l.take q)).vol.length gd1) (.slice g2 (ruM m (l.take q)).per.length gd2) (.slice g3 (ruM m (l.take q)).pend.length gd3)) := Bo.new w6 _ _ _
        have HFR : Hid (RdM (w6.alloc (.cells #[.slice g1 (ruM m (l.take q)).vol.length gd1, .slice g2 (ruM m (l.take q)).per.length gd2, .slice g3 (ruM m (l.take q)).pend.length gd3] 25)) (.slice g1 (ruM m (l.take q)).vol.length gd1) (.slice g2 (ruM m (l.take q)).per.length gd2) (.slice g3 (ruM m (l.take q)).pend.length gd3) (ruM m (l.take q))) := HR6.out.below b7
        clear b7 z0 z1 z2
        obtain ⟨⟨n0, n1, n2⟩, -⟩ := HFN.out.bx
        go_wp2_with (first
            | (go_at_call 32; refine (crashR_any _ _ _ _ (ruM m (l.take q)) keep _ HFR.out (HKe.out.below HFB.out)).mono ?_; rintro e w9 ⟨v9, rfl, R9, hb9⟩; have HR9 : Hid (Rd w9 v9 (crP (ruM m (l.take q)) keep)) := R9; have HB9 : Hid (Below w.heap.size w w9) := bstep HFB.out hb9; clear R9 hb9))
        go_ret2
        exact ⟨_, by rw [HE.out, HE2.out]; rfl, by rw [HM.out]; exact HR9.out, HB9.out⟩
      · have HFB : Hid (Below w.heap.size w (((w6.setCell ⟨W5.heap.size, 0, none⟩ (.slice g1 (ruM m (l.take q)).vol.length gd1)).setCell ⟨W5.heap.size, 1, none⟩ (.slice g2 (ruM m (l.take q)).per.length gd2)).setCell ⟨W5.heap.size, 2, none⟩ (.slice g3 (ruM m (l.take q)).pend.length gd3))) := S3.below (bstep HB1.out H6.out) (by have := HB1.out.size; omega) _ _ _
        have HFN : Hid (Bo (((w6.setCell ⟨W5.heap.size, 0, none⟩ (.slice g1 (ruM m (l.take q)).vol.length gd1)).setCell ⟨W5.heap.size, 1, none⟩ (.slice g2 (ruM m (l.take q)).per.length gd2)).setCell ⟨W5.heap.size, 2, none⟩ (.slice g3 (ruM m (l.take q)).pend.length gd3)) W5.heap.size (.slice g1 (ruM m (l.take q)).vol.length gd1) (.slice g2 (ruM m (l.take q)).per.length gd2) (.slice g3 (ruM m (l.take q)).pend.length gd3)) := HZ6.out.set _ _ _
        have HFR : Hid (RdM (((w6.setCell ⟨W5.heap.size, 0, none⟩ (.slice g1 (ruM m (l.take q)).vol.length gd1)).setCell ⟨W5.heap.size, 1, none⟩ (.slice g2 (ruM m (l.take q)).per.length gd2)).setCell ⟨W5.heap.size, 2, none⟩ (.slice g3 (ruM m (l.take q)).pend.length gd3)) (.slice g1 (ruM m (l.take q)).vol.length gd1) (.slice g2 (ruM m (l.take q)).per.length gd2) (.slice g3 (ruM m (l.take q)).pend.length gd3) (ruM m (l.take q))) := HR6.out.box HZ6.out _ _ _
        clear z0 z1 z2 t0 t1 t2 tf0 tf1 tf2
        obtain ⟨⟨n0, n1, n2⟩, -⟩ := HFN.out.bx
        go_wp2_with (first
            | (go_at_call 32; refine (crashR_any _ _ _ _ (ruM m (l.take q)) keep _ HFR.out (HKe.out.below HFB.out)).mono ?_; rintro e w9 ⟨v9, rfl, R9, hb9⟩; have HR9 : Hid (Rd w9 v9 (crP (ruM m (l.take q)) keep)) := R9; have HB9 : Hid (Below w.heap.size w w9) := bstep HFB.out hb9; clear R9 hb9))
        go_ret2
        exact ⟨_, by rw [HE.out, HE2.out]; rfl, by rw [HM.out]; exact HR9.out, HB9.out⟩
  · by_cases i3 : (0 : Int) < n
    · obtain ⟨q, rfl⟩ := Int.eq_ofNat_of_zero_le (show 0 ≤ n by omega)
      have hqc : q ≤ cap := by omega
      have HM : Hid (csP m l (q : Int) keep = crP (ruM m (l.take q)) keep) := by (show _ = _; rw [csP_yes e1, show tkN (q : Int) l.length = q from (by unfold tkN; omega), ruM_yes (mr_take e1 q)])
      have HE2 : Hid (okE (ruM m (l.take q)) = 0) := by (show _ = _; rw [ruM_yes (mr_take e1 q)]; exact okE_yes (ok_run (mrB_out e1).1 _))
      have sl : ∀ W, (Instr.slice 26 (.slice a l.length cap) none (some (.int .i64 (q : Int))) none).run Try.prog W = .ok (.slice a q cap) W := fun W => slice_to q hqc W
      have HQ : Hid (RdS w (.slice a q cap) (l.take q)) := HS.out.take (by omega)
      have Hpq : Hid (m.pend.length + (l.take q).length ≤ 900) := by (show _ ≤ _; rw [List.length_take]; omega)
      try clear hq
      go_enter Try.func15, Try.ntmps15
      go_wp2_with (first
        | (go_at_call 11; clear tk1; refine (runR_any _ _ _ _ m l _ (HR.out.below HB.out) (HS.out.below HB.out) hp).mono ?_; rintro e w1 ⟨v1, v2, v3, rfl, R1, hb1⟩; rw [HE.out]; obtain ⟨f1, fd1, f2, fd2, f3, fd3, rfl, rfl, rfl⟩ := R1.forms; have b2 : Below w1.heap.size w1 (w1.alloc (.cells #[.slice f1 (ruM m l).vol.length fd1, .slice f2 (ruM m l).per.length fd2, .slice f3 (ruM m l).pend.length fd3] 25)) := (Below.refl _ _).alloc (Nat.le_refl _) _; have HB1 : Hid (Below w.heap.size w (w1.alloc (.cells #[.slice f1 (ruM m l).vol.length fd1, .slice f2 (ruM m l).per.length fd2, .slice f3 (ruM m l).pend.length fd3] 25))) := bstep (bstep HB.out hb1) b2; have HX1 : Hid (Bo (w1.alloc (.cells #[.slice f1 (ruM m l).vol.length fd1, .slice f2 (ruM m l).per.length fd2, .slice f3 (ruM m l).pend.length fd3] 25)) w.heap.size (.slice a1 m.vol.length c1) (.slice a2 m.per.length c2) (.slice a3 m.pend.length c3)) := (HX.out.below hb1).below b2; clear R1 hb1 b2))
      have hlt5 : w.heap.size < (w1.alloc (.cells #[.slice f1 (ruM m l).vol.length fd1, .slice f2 (ruM m l).per.length fd2, .slice f3 (ruM m l).pend.length fd3] 25)).heap.size := HX1.out.lt
      generalize (w1.alloc (.cells #[.slice f1 (ruM m l).vol.length fd1, .slice f2 (ruM m l).per.length fd2, .slice f3 (ruM m l).pend.length fd3] 25)) = W5 at HB1 HX1 hlt5 ⊢
      have hne : Hid (w.heap.size ≠ W5.heap.size) := by (show _ ≠ _; omega)
      obtain ⟨⟨z0, z1, z2⟩, -⟩ := HX1.out.bx
      have HS0 : Hid (W5.drew.cell? ⟨w.heap.size, 0, none⟩ = some (.slice a1 m.vol.length c1) ∧ W5.drew.cell? ⟨w.heap.size, 1, none⟩ = some (.slice a2 m.per.length c2) ∧ W5.drew.cell? ⟨w.heap.size, 2, none⟩ = some (.slice a3 m.pend.length c3)) := ⟨z0, z1, z2⟩
      go_region_held3 (fun W => W.cell? ⟨w.heap.size, 0, none⟩ = some (.slice a1 m.vol.length c1) ∧ W.cell? ⟨w.heap.size, 1, none⟩ = some (.slice a2 m.per.length c2) ∧ W.cell? ⟨w.heap.size, 2, none⟩ = some (.slice a3 m.pend.length c3))
        (first | exact HS0.out | (with_reducible exact keep9 (HX1.out.below H6.out) hne.out _ _ _) | exact (HX1.out.below (by ((repeat (first | exact Below.refl _ _ | exact H6.out | with_reducible refine Below.dr ?_ | with_reducible refine Below.al _ ?_)); all_goals fail))).bx.1)
        (first
        | (go_at_call 11; refine (runR_any _ _ _ _ m (l.take q) _ ((HR.out.below HB1.out).below (by ((repeat (first | exact Below.refl _ _ | with_reducible refine Below.dr ?_ | with_reducible refine Below.al _ ?_)); all_goals fail))) ((HQ.out.below HB1.out).below (by ((repeat (first | exact Below.refl _ _ | with_reducible refine Below.dr ?_ | with_reducible refine Below.al _ ?_)); all_goals fail))) Hpq.out).mono ?_; rintro e w6 ⟨v1, v2, v3, rfl, R6, hb6⟩; obtain ⟨g1, gd1, g2, gd2, g3, gd3, rfl, rfl, rfl⟩ := R6.forms; have H6 : Hid (Below W5.heap.size W5 w6) := bstep (by ((repeat (first | exact Below.refl _ _ | with_reducible refine Below.dr ?_ | with_reducible refine Below.al _ ?_)); all_goals fail)) hb6; (try (have HZ6 : Hid (Bo w6 W5.heap.size (.slice none 0 0) (.slice none 0 0) (.slice none 0 0)) := hp_below hb6 (hp_new rfl); obtain ⟨⟨t0, t1, t2⟩, tf0, tf1, tf2⟩ := HZ6.out.bx)); have HR6 : Hid (RdM w6 (.slice g1 (ruM m (l.take q)).vol.length gd1) (.slice g2 (ruM m (l.take q)).per.length gd2) (.slice g3 (ruM m (l.take q)).pend.length gd3) (ruM m (l.take q))) := R6; clear R6 hb6))
      · have b7 : Below w6.heap.size w6 (w6.alloc (.cells #[.slice g1 (ruM m (l.take q)).vol.length gd1, .slice g2 (ruM m (l.take q)).per.length gd2, .slice g3 (ruM m (l.take q)).pend.length gd3] 25)) := (Below.refl _ _).alloc (Nat.le_refl _) _
        have HFB : Hid (Below w.heap.size w (w6.alloc (.cells #[.slice g1 (ruM m (l.take q)).vol.length gd1, .slice g2 (ruM m (l.take q)).per.length gd2, .slice g3 (ruM m (l.take q)).pend.length gd3] 25))) := bstep (bstep HB1.out H6.out) b7
        have HFN : Hid (Bo (w6.alloc (.cells #[.slice g1 (ruM m (l.take q)).vol.length gd1, .slice g2 (ruM m (l.take q)).per.length gd2, .slice g3 (ruM m (l.take q)).pend.length gd3] 25)) w6.heap.size (.slice g1 (ruM m (l.take q)).vol.length gd1) (.slice g2 (ruM m (l.take q)).per.length gd2) (.slice g3 (ruM m (l.take q)).pend.length gd3)) := Bo.new w6 _ _ _
        have HFR : Hid (RdM (w6.alloc (.cells #[.slice g1 (ruM m (l.take q)).vol.length gd1, .slice g2 (ruM m (l.take q)).per.length gd2, .slice g3 (ruM m (l.take q)).pend.length gd3] 25)) (.slice g1 (ruM m (l.take q)).vol.length gd1) (.slice g2 (ruM m (l.take q)).per.length gd2) (.slice g3 (ruM m (l.take q)).pend.length gd3) (ruM m (l.take q))) := HR6.out.below b7
        clear b7 z0 z1 z2
        obtain ⟨⟨n0, n1, n2⟩, -⟩ := HFN.out.bx
        go_wp2_with (first
            | (go_at_call 32; refine (crashR_any _ _ _ _ (ruM m (l.take q)) keep _ HFR.out (HKe.out.below HFB.out)).mono ?_; rintro e w9 ⟨v9, rfl, R9, hb9⟩; have HR9 : Hid (Rd w9 v9 (crP (ruM m (l.take q)) keep)) := R9; have HB9 : Hid (Below w.heap.size w w9) := bstep HFB.out hb9; clear R9 hb9))
        go_ret2
        exact ⟨_, by rw [HE.out, HE2.out]; rfl, by rw [HM.out]; exact HR9.out, HB9.out⟩
      · have HFB : Hid (Below w.heap.size w (((w6.setCell ⟨W5.heap.size, 0, none⟩ (.slice g1 (ruM m (l.take q)).vol.length gd1)).setCell ⟨W5.heap.size, 1, none⟩ (.slice g2 (ruM m (l.take q)).per.length gd2)).setCell ⟨W5.heap.size, 2, none⟩ (.slice g3 (ruM m (l.take q)).pend.length gd3))) := S3.below (bstep HB1.out H6.out) (by have := HB1.out.size; omega) _ _ _
        have HFN : Hid (Bo (((w6.setCell ⟨W5.heap.size, 0, none⟩ (.slice g1 (ruM m (l.take q)).vol.length gd1)).setCell ⟨W5.heap.size, 1, none⟩ (.slice g2 (ruM m (l.take q)).per.length gd2)).setCell ⟨W5.heap.size, 2, none⟩ (.slice g3 (ruM m (l.take q)).pend.length gd3)) W5.heap.size (.slice g1 (ruM m (l.take q)).vol.length gd1) (.slice g2 (ruM m (l.take q)).per.length gd2) (.slice g3 (ruM m (l.take q)).pend.length gd3)) := HZ6.out.set _ _ _
        have HFR : Hid (RdM (((w6.setCell ⟨W5.heap.size, 0, none⟩ (.slice g1 (ruM m (l.take q)).vol.length gd1)).setCell ⟨W5.heap.size, 1, none⟩ (.slice g2 (ruM m (l.take q)).per.length gd2)).setCell ⟨W5.heap.size, 2, none⟩ (.slice g3 (ruM m (l.take q)).pend.length gd3)) (.slice g1 (ruM m (l.take q)).vol.length gd1) (.slice g2 (ruM m (l.take q)).per.length gd2) (.slice g3 (ruM m (l.take q)).pend.length gd3) (ruM m (l.take q))) := HR6.out.box HZ6.out _ _ _
        clear z0 z1 z2 t0 t1 t2 tf0 tf1 tf2
        obtain ⟨⟨n0, n1, n2⟩, -⟩ := HFN.out.bx
        go_wp2_with (first
            | (go_at_call 32; refine (crashR_any _ _ _ _ (ruM m (l.take q)) keep _ HFR.out (HKe.out.below HFB.out)).mono ?_; rintro e w9 ⟨v9, rfl, R9, hb9⟩; have HR9 : Hid (Rd w9 v9 (crP (ruM m (l.take q)) keep)) := R9; have HB9 : Hid (Below w.heap.size w w9) := bstep HFB.out hb9; clear R9 hb9))
        go_ret2
        exact ⟨_, by rw [HE.out, HE2.out]; rfl, by rw [HM.out]; exact HR9.out, HB9.out⟩
    · obtain ⟨q, hq⟩ : ∃ q : Nat, q = 0 := ⟨_, rfl⟩
      have hqc : q ≤ cap := by omega
      have HM : Hid (csP m l n keep = crP (ruM m (l.take q)) keep) := by (show _ = _; rw [csP_yes e1, show tkN n l.length = q from (by unfold tkN; omega), ruM_yes (mr_take e1 q)])
      have HE2 : Hid (okE (ruM m (l.take q)) = 0) := by (show _ = _; rw [ruM_yes (mr_take e1 q)]; exact okE_yes (ok_run (mrB_out e1).1 _))
      have sl : ∀ W, (Instr.slice 26 (.slice a l.length cap) none (some (.int .i64 0)) none).run Try.prog W = .ok (.slice a q cap) W := fun W => by subst hq; exact slice_to 0 hqc W
      have HQ : Hid (RdS w (.slice a q cap) (l.take q)) := HS.out.take (by omega)
      have Hpq : Hid (m.pend.length + (l.take q).length ≤ 900) := by (show _ ≤ _; rw [List.length_take]; omega)
      try clear hq
      go_enter Try.func15, Try.ntmps15
      go_wp2_with (first
        | (go_at_call 11; clear tk1; refine (runR_any _ _ _ _ m l _ (HR.out.below HB.out) (HS.out.below HB.out) hp).mono ?_; rintro e w1 ⟨v1, v2, v3, rfl, R1, hb1⟩; rw [HE.out]; obtain ⟨f1, fd1, f2, fd2, f3, fd3, rfl, rfl, rfl⟩ := R1.forms; have b2 : Below w1.heap.size w1 (w1.alloc (.cells #[.slice f1 (ruM m l).vol.length fd1, .slice f2 (ruM m l).per.length fd2, .slice f3 (ruM m l).pend.length fd3] 25)) := (Below.refl _ _).alloc (Nat.le_refl _) _; have HB1 : Hid (Below w.heap.size w (w1.alloc (.cells #[.slice f1 (ruM m l).vol.length fd1, .slice f2 (ruM m l).per.length fd2, .slice f3 (ruM m l).pend.length fd3] 25))) := bstep (bstep HB.out hb1) b2; have HX1 : Hid (Bo (w1.alloc (.cells #[.slice f1 (ruM m l).vol.length fd1, .slice f2 (ruM m l).per.length fd2, .slice f3 (ruM m l).pend.length fd3] 25)) w.heap.size (.slice a1 m.vol.length c1) (.slice a2 m.per.length c2) (.slice a3 m.pend.length c3)) := (HX.out.below hb1).below b2; clear R1 hb1 b2))
      have hlt5 : w.heap.size < (w1.alloc (.cells #[.slice f1 (ruM m l).vol.length fd1, .slice f2 (ruM m l).per.length fd2, .slice f3 (ruM m l).pend.length fd3] 25)).heap.size := HX1.out.lt
      generalize (w1.alloc (.cells #[.slice f1 (ruM m l).vol.length fd1, .slice f2 (ruM m l).per.length fd2, .slice f3 (ruM m l).pend.length fd3] 25)) = W5 at HB1 HX1 hlt5 ⊢
      have hne : Hid (w.heap.size ≠ W5.heap.size) := by (show _ ≠ _; omega)
      obtain ⟨⟨z0, z1, z2⟩, -⟩ := HX1.out.bx
      have HS0 : Hid (W5.drew.cell? ⟨w.heap.size, 0, none⟩ = some (.slice a1 m.vol.length c1) ∧ W5.drew.cell? ⟨w.heap.size, 1, none⟩ = some (.slice a2 m.per.length c2) ∧ W5.drew.cell? ⟨w.heap.size, 2, none⟩ = some (.slice a3 m.pend.length c3)) := ⟨z0, z1, z2⟩
      go_region_held3 (fun W => W.cell? ⟨w.heap.size, 0, none⟩ = some (.slice a1 m.vol.length c1) ∧ W.cell? ⟨w.heap.size, 1, none⟩ = some (.slice a2 m.per.length c2) ∧ W.cell? ⟨w.heap.size, 2, none⟩ = some (.slice a3 m.pend.length c3))
        (first | exact HS0.out | (with_reducible exact keep9 (HX1.out.below H6.out) hne.out _ _ _) | exact (HX1.out.below (by ((repeat (first | exact Below.refl _ _ | exact H6.out | with_reducible refine Below.dr ?_ | with_reducible refine Below.al _ ?_)); all_goals fail))).bx.1)
        (first
        | (go_at_call 11; refine (runR_any _ _ _ _ m (l.take q) _ ((HR.out.below HB1.out).below (by ((repeat (first | exact Below.refl _ _ | with_reducible refine Below.dr ?_ | with_reducible refine Below.al _ ?_)); all_goals fail))) ((HQ.out.below HB1.out).below (by ((repeat (first | exact Below.refl _ _ | with_reducible refine Below.dr ?_ | with_reducible refine Below.al _ ?_)); all_goals fail))) Hpq.out).mono ?_; rintro e w6 ⟨v1, v2, v3, rfl, R6, hb6⟩; obtain ⟨g1, gd1, g2, gd2, g3, gd3, rfl, rfl, rfl⟩ := R6.forms; have H6 : Hid (Below W5.heap.size W5 w6) := bstep (by ((repeat (first | exact Below.refl _ _ | with_reducible refine Below.dr ?_ | with_reducible refine Below.al _ ?_)); all_goals fail)) hb6; (try (have HZ6 : Hid (Bo w6 W5.heap.size (.slice none 0 0) (.slice none 0 0) (.slice none 0 0)) := hp_below hb6 (hp_new rfl); obtain ⟨⟨t0, t1, t2⟩, tf0, tf1, tf2⟩ := HZ6.out.bx)); have HR6 : Hid (RdM w6 (.slice g1 (ruM m (l.take q)).vol.length gd1) (.slice g2 (ruM m (l.take q)).per.length gd2) (.slice g3 (ruM m (l.take q)).pend.length gd3) (ruM m (l.take q))) := R6; clear R6 hb6))
      · have b7 : Below w6.heap.size w6 (w6.alloc (.cells #[.slice g1 (ruM m (l.take q)).vol.length gd1, .slice g2 (ruM m (l.take q)).per.length gd2, .slice g3 (ruM m (l.take q)).pend.length gd3] 25)) := (Below.refl _ _).alloc (Nat.le_refl _) _
        have HFB : Hid (Below w.heap.size w (w6.alloc (.cells #[.slice g1 (ruM m (l.take q)).vol.length gd1, .slice g2 (ruM m (l.take q)).per.length gd2, .slice g3 (ruM m (l.take q)).pend.length gd3] 25))) := bstep (bstep HB1.out H6.out) b7
        have HFN : Hid (Bo (w6.alloc (.cells #[.slice g1 (ruM m (l.take q)).vol.length gd1, .slice g2 (ruM m (l.take q)).per.length gd2, .slice g3 (ruM m (l.take q)).pend.length gd3] 25)) w6.heap.size (.slice g1 (ruM m (l.take q)).vol.length gd1) (.slice g2 (ruM m (l.take q)).per.length gd2) (.slice g3 (ruM m (l.take q)).pend.length gd3)) := Bo.new w6 _ _ _
        have HFR : Hid (RdM (w6.alloc (.cells #[.slice g1 (ruM m (l.take q)).vol.length gd1, .slice g2 (ruM m (l.take q)).per.length gd2, .slice g3 (ruM m (l.take q)).pend.length gd3] 25)) (.slice g1 (ruM m (l.take q)).vol.length gd1) (.slice g2 (ruM m (l.take q)).per.length gd2) (.slice g3 (ruM m (l.take q)).pend.length gd3) (ruM m (l.take q))) := HR6.out.below b7
        clear b7 z0 z1 z2
        obtain ⟨⟨n0, n1, n2⟩, -⟩ := HFN.out.bx
        go_wp2_with (first
            | (go_at_call 32; refine (crashR_any _ _ _ _ (ruM m (l.take q)) keep _ HFR.out (HKe.out.below HFB.out)).mono ?_; rintro e w9 ⟨v9, rfl, R9, hb9⟩; have HR9 : Hid (Rd w9 v9 (crP (ruM m (l.take q)) keep)) := R9; have HB9 : Hid (Below w.heap.size w w9) := bstep HFB.out hb9; clear R9 hb9))
        go_ret2
        exact ⟨_, by rw [HE.out, HE2.out]; rfl, by rw [HM.out]; exact HR9.out, HB9.out⟩
      · have HFB : Hid (Below w.heap.size w (((w6.setCell ⟨W5.heap.size, 0, none⟩ (.slice g1 (ruM m (l.take q)).vol.length gd1)).setCell ⟨W5.heap.size, 1, none⟩ (.slice g2 (ruM m (l.take q)).per.length gd2)).setCell ⟨W5.heap.size, 2, none⟩ (.slice g3 (ruM m (l.take q)).pend.length gd3))) := S3.below (bstep HB1.out H6.out) (by have := HB1.out.size; omega) _ _ _
        have HFN : Hid (Bo (((w6.setCell ⟨W5.heap.size, 0, none⟩ (.slice g1 (ruM m (l.take q)).vol.length gd1)).setCell ⟨W5.heap.size, 1, none⟩ (.slice g2 (ruM m (l.take q)).per.length gd2)).setCell ⟨W5.heap.size, 2, none⟩ (.slice g3 (ruM m (l.take q)).pend.length gd3)) W5.heap.size (.slice g1 (ruM m (l.take q)).vol.length gd1) (.slice g2 (ruM m (l.take q)).per.length gd2) (.slice g3 (ruM m (l.take q)).pend.length gd3)) := HZ6.out.set _ _ _
        have HFR : Hid (RdM (((w6.setCell ⟨W5.heap.size, 0, none⟩ (.slice g1 (ruM m (l.take q)).vol.length gd1)).setCell ⟨W5.heap.size, 1, none⟩ (.slice g2 (ruM m (l.take q)).per.length gd2)).setCell ⟨W5.heap.size, 2, none⟩ (.slice g3 (ruM m (l.take q)).pend.length gd3)) (.slice g1 (ruM m (l.take q)).vol.length gd1) (.slice g2 (ruM m (l.take q)).per.length gd2) (.slice g3 (ruM m (l.take q)).pend.length gd3) (ruM m (l.take q))) := HR6.out.box HZ6.out _ _ _
        clear z0 z1 z2 t0 t1 t2 tf0 tf1 tf2
        obtain ⟨⟨n0, n1, n2⟩, -⟩ := HFN.out.bx
        go_wp2_with (first
            | (go_at_call 32; refine (crashR_any _ _ _ _ (ruM m (l.take q)) keep _ HFR.out (HKe.out.below HFB.out)).mono ?_; rintro e w9 ⟨v9, rfl, R9, hb9⟩; have HR9 : Hid (Rd w9 v9 (crP (ruM m (l.take q)) keep)) := R9; have HB9 : Hid (Below w.heap.size w w9) := bstep HFB.out hb9; clear R9 hb9))
        go_ret2
        exact ⟨_, by rw [HE.out, HE2.out]; rfl, by rw [HM.out]; exact HR9.out, HB9.out⟩
end Go.Proofs.Ythibgmndgkhfiaa
