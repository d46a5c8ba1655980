/- Walks of layer 4's statements: what is kept. -/
import Derived.Test.YtmaeobdeddllaaaLawc
namespace Go.Proofs.Ytmaeobdeddllaaa
open Go.RowKit Go.Shelf
set_option linter.unusedVariables false

set_option maxRecDepth 100000 in
set_option maxHeartbeats 8000000 in
theorem keeps_b (a1 a2 a3 ak : Option Addr) (c1 c2 c3 ck t : Nat) (keep : List Int) (w : World) (m : Mm) (HB : Hid (Below w.heap.size w (w.alloc (.cells #[.slice a1 m.vol.length c1, .slice a2 m.per.length c2, .slice a3 m.pend.length c3] 25)))) (HX : Hid (Bo (w.alloc (.cells #[.slice a1 m.vol.length c1, .slice a2 m.per.length c2, .slice a3 m.pend.length c3] 25)) w.heap.size (.slice a1 m.vol.length c1) (.slice a2 m.per.length c2) (.slice a3 m.pend.length c3))) (HR : Hid (RdM (w.alloc (.cells #[.slice a1 m.vol.length c1, .slice a2 m.per.length c2, .slice a3 m.pend.length c3] 25)) (.slice a1 m.vol.length c1) (.slice a2 m.per.length c2) (.slice a3 m.pend.length c3) m)) (HK : Hid (Rd (w.alloc (.cells #[.slice a1 m.vol.length c1, .slice a2 m.per.length c2, .slice a3 m.pend.length c3] 25)) (.slice ak keep.length ck) keep)) (hBd : Bd keep) (hfew : fewB m.vol.length m.per.length m.pend.length = true) (h1 : m.vol.length ≤ 300) (h3 : m.pend.length ≤ 100) (hk3 : (keep.length : Int) ≤ 300) (hOk : Hid (Ok m)) (ht : (t : Int) < (m.vol.length : Int) / 8) : Calls Try.prog 5 #[.agg #[.slice a1 m.vol.length c1, .slice a2 m.per.length c2, .slice a3 m.pend.length c3], .int .i64 (t : Int), .slice ak keep.length ck] w fun e w' => e = .returned (.bool true) ∧ Below w.heap.size w w' := by
  have oM : ok m = true := ok_true hOk.out
  have hN : Hid (lnB m (t : Int) = true) := lnB_yes oM (decide_eq_true ⟨by omega, ht⟩)
  have HOF : Hid (Ok (fluM m (t : Int))) := ok_flu hOk.out _
  have HOB : Hid (Ok (fenM (fluM m (t : Int)))) := ok_fen HOF.out
  have HOC : Hid (Ok (eviM m (t : Int))) := ok_evi hOk.out _
  have HBn : Hid (∀ p ∈ (fenM (fluM m (t : Int))).pend, lnN p ≠ t) := ff_none hN.out hOk.out rfl
  have HCn : Hid (∀ p ∈ (eviM m (t : Int)).pend, lnN p ≠ t) := evi_none hN.out hOk.out rfl
  have he1 : okE (fluM m (t : Int)) = 0 := by unfold okE; rw [ok_true HOF.out]; rfl
  have he2 : lnE m (t : Int) = 0 := by unfold lnE; rw [hN.out]; rfl
  have he3 : okE (fenM (fluM m (t : Int))) = 0 := by unfold okE; rw [ok_true HOB.out]; rfl
  have he4 : okE (eviM m (t : Int)) = 0 := by unfold okE; rw [ok_true HOC.out]; rfl
  have nx : (((crP (fenM (fluM m (t : Int))) keep).length : Int) != (m.vol.length : Int)) = false := by rw [crP_length HOB.out, vol_fen, vol_flu]; simp
  have ny : (((crP (eviM m (t : Int)) keep).length : Int) != (m.vol.length : Int)) = false := by rw [crP_length HOC.out, vol_evi]; simp
  have ht2 : ¬ ((m.vol.length : Int) / 8 ≤ (t : Int)) := by omega
  have htb : (t : Int) < 1000 := by omega
  have t0 : Hid (0 = 0) := rfl
  have t1 : Hid (0 = 0) := rfl
  have t2 : Hid (0 = 0) := rfl
  have t3 : Hid (0 = 0) := rfl
  have t4 : Hid (0 = 0) := rfl
  have t5 : Hid (0 = 0) := rfl
  have t6 : Hid (0 = 0) := rfl
  have t7 : Hid (0 = 0) := rfl
  go_enter Try.func5, Try.ntmps5
  go_wp2_with (first
    | (go_at_call 9; clear t0; refine (awake_any _).mono ?_; rintro e w0 ⟨rfl, hb0⟩; have F1 : Hid (RdM w0 (.slice a1 m.vol.length c1) (.slice a2 m.per.length c2) (.slice a3 m.pend.length c3) m) := HR.out.below hb0; have F2 : Hid (Bo w0 w.heap.size (.slice a1 m.vol.length c1) (.slice a2 m.per.length c2) (.slice a3 m.pend.length c3)) := HX.out.below hb0; have F3 : Hid (Below w.heap.size w w0) := bstep HB.out hb0; have F4 : Hid (Rd w0 (.slice ak keep.length ck) keep) := HK.out.below hb0; clear hb0; obtain ⟨⟨c5, c6, c7⟩, -⟩ := F2.out.bx; clear HR HX HB HK)
    | (go_at_call 10; clear t1; refine (few_any _ _ _ _ _ _ _ _ _ _).mono ?_; rintro e wf ⟨rfl, hbf⟩; have F8 : Hid (RdM wf (.slice a1 m.vol.length c1) (.slice a2 m.per.length c2) (.slice a3 m.pend.length c3) m) := F1.out.below hbf; have F9 : Hid (Bo wf w.heap.size (.slice a1 m.vol.length c1) (.slice a2 m.per.length c2) (.slice a3 m.pend.length c3)) := F2.out.below hbf; have F10 : Hid (Below w.heap.size w wf) := bstep F3.out hbf; have F11 : Hid (Rd wf (.slice ak keep.length ck) keep) := F4.out.below hbf; clear hbf; obtain ⟨⟨c12, c13, c14⟩, -⟩ := F9.out.bx; clear c5 c6 c7; clear F1 F2 F3 F4)
    | (go_at_call 27; clear t2; refine (check_any _ _ _ m _ F8.out).mono ?_; rintro e wc ⟨rfl, hbwc⟩; have F15 : Hid (RdM wc (.slice a1 m.vol.length c1) (.slice a2 m.per.length c2) (.slice a3 m.pend.length c3) m) := F8.out.below hbwc; have F16 : Hid (Bo wc w.heap.size (.slice a1 m.vol.length c1) (.slice a2 m.per.length c2) (.slice a3 m.pend.length c3)) := F9.out.below hbwc; have F17 : Hid (Below w.heap.size w wc) := bstep F10.out hbwc; have F18 : Hid (Rd wc (.slice ak keep.length ck) keep) := F11.out.below hbwc; clear hbwc; obtain ⟨⟨c19, c20, c21⟩, -⟩ := F16.out.bx; clear c12 c13 c14; clear F8 F9 F10 F11)
    | (go_at_call 14; clear t3; refine (flush_any _ _ _ m (t : Int) _ F15.out).mono ?_; rintro e w_1 ⟨v_1a, v_1b, v_1c, rfl, R_1, hb_1⟩; have R_1 : RdM w_1 v_1a v_1b v_1c (fluM m (t : Int)) := R_1; obtain ⟨a_1, c_1, b_1, d_1, p_1, q_1, rfl, rfl, rfl⟩ := R_1.forms; have F22 : Hid (RdM w_1 (.slice a1 m.vol.length c1) (.slice a2 m.per.length c2) (.slice a3 m.pend.length c3) m) := F15.out.below hb_1; have F23 : Hid (Bo w_1 w.heap.size (.slice a1 m.vol.length c1) (.slice a2 m.per.length c2) (.slice a3 m.pend.length c3)) := F16.out.below hb_1; have F24 : Hid (Below w.heap.size w w_1) := bstep F17.out hb_1; have F25 : Hid (Rd w_1 (.slice ak keep.length ck) keep) := F18.out.below hb_1; have F26 : Hid (RdM w_1 (.slice a_1 (fluM m (t : Int)).vol.length c_1) (.slice b_1 (fluM m (t : Int)).per.length d_1) (.slice p_1 (fluM m (t : Int)).pend.length q_1) (fluM m (t : Int))) := R_1; clear R_1 hb_1; have lt27 : w.heap.size < w_1.heap.size := F23.out.lt; have lt28 : w.heap.size ≤ w_1.heap.size := F24.out.size; have hb29 : Below w_1.heap.size w_1 (w_1.alloc (.cells #[.slice a_1 (fluM m (t : Int)).vol.length c_1, .slice b_1 (fluM m (t : Int)).per.length d_1, .slice p_1 (fluM m (t : Int)).pend.length q_1] 25)) := (Below.refl _ _).alloc (Nat.le_refl _) _; have F30 : Hid (RdM (w_1.alloc (.cells #[.slice a_1 (fluM m (t : Int)).vol.length c_1, .slice b_1 (fluM m (t : Int)).per.length d_1, .slice p_1 (fluM m (t : Int)).pend.length q_1] 25)) (.slice a1 m.vol.length c1) (.slice a2 m.per.length c2) (.slice a3 m.pend.length c3) m) := F22.out.below hb29; have F31 : Hid (Bo (w_1.alloc (.cells #[.slice a_1 (fluM m (t : Int)).vol.length c_1, .slice b_1 (fluM m (t : Int)).per.length d_1, .slice p_1 (fluM m (t : Int)).pend.length q_1] 25)) w.heap.size (.slice a1 m.vol.length c1) (.slice a2 m.per.length c2) (.slice a3 m.pend.length c3)) := F23.out.below hb29; have F32 : Hid (Below w.heap.size w (w_1.alloc (.cells #[.slice a_1 (fluM m (t : Int)).vol.length c_1, .slice b_1 (fluM m (t : Int)).per.length d_1, .slice p_1 (fluM m (t : Int)).pend.length q_1] 25))) := bstep F24.out hb29; have F33 : Hid (Rd (w_1.alloc (.cells #[.slice a_1 (fluM m (t : Int)).vol.length c_1, .slice b_1 (fluM m (t : Int)).per.length d_1, .slice p_1 (fluM m (t : Int)).pend.length q_1] 25)) (.slice ak keep.length ck) keep) := F25.out.below hb29; have F34 : Hid (RdM (w_1.alloc (.cells #[.slice a_1 (fluM m (t : Int)).vol.length c_1, .slice b_1 (fluM m (t : Int)).per.length d_1, .slice p_1 (fluM m (t : Int)).pend.length q_1] 25)) (.slice a_1 (fluM m (t : Int)).vol.length c_1) (.slice b_1 (fluM m (t : Int)).per.length d_1) (.slice p_1 (fluM m (t : Int)).pend.length q_1) (fluM m (t : Int))) := F26.out.below hb29; have F35 : Hid (Bo (w_1.alloc (.cells #[.slice a_1 (fluM m (t : Int)).vol.length c_1, .slice b_1 (fluM m (t : Int)).per.length d_1, .slice p_1 (fluM m (t : Int)).pend.length q_1] 25)) w_1.heap.size (.slice a_1 (fluM m (t : Int)).vol.length c_1) (.slice b_1 (fluM m (t : Int)).per.length d_1) (.slice p_1 (fluM m (t : Int)).pend.length q_1)) := Bo.new w_1 _ _ _; obtain ⟨⟨c36, c37, c38⟩, -⟩ := F31.out.bx; obtain ⟨⟨c39, c40, c41⟩, -⟩ := F35.out.bx; clear c19 c20 c21; clear F15 F16 F17 F18 F22 F23 F24 F25 F26)
    | (go_at_call 16; clear t4; refine (fence_any _ _ _ (fluM m (t : Int)) _ F34.out).mono ?_; rintro e w_2 ⟨v_2a, v_2b, v_2c, rfl, R_2, hb_2⟩; have R_2 : RdM w_2 v_2a v_2b v_2c (fenM (fluM m (t : Int))) := R_2; obtain ⟨a_2, c_2, b_2, d_2, p_2, q_2, rfl, rfl, rfl⟩ := R_2.forms; have F42 : Hid (RdM w_2 (.slice a1 m.vol.length c1) (.slice a2 m.per.length c2) (.slice a3 m.pend.length c3) m) := F30.out.below hb_2; have F43 : Hid (Bo w_2 w.heap.size (.slice a1 m.vol.length c1) (.slice a2 m.per.length c2) (.slice a3 m.pend.length c3)) := F31.out.below hb_2; have F44 : Hid (Below w.heap.size w w_2) := bstep F32.out hb_2; have F45 : Hid (Rd w_2 (.slice ak keep.length ck) keep) := F33.out.below hb_2; have F46 : Hid (RdM w_2 (.slice a_1 (fluM m (t : Int)).vol.length c_1) (.slice b_1 (fluM m (t : Int)).per.length d_1) (.slice p_1 (fluM m (t : Int)).pend.length q_1) (fluM m (t : Int))) := F34.out.below hb_2; have F47 : Hid (Bo w_2 w_1.heap.size (.slice a_1 (fluM m (t : Int)).vol.length c_1) (.slice b_1 (fluM m (t : Int)).per.length d_1) (.slice p_1 (fluM m (t : Int)).pend.length q_1)) := F35.out.below hb_2; have F48 : Hid (RdM w_2 (.slice a_2 (fenM (fluM m (t : Int))).vol.length c_2) (.slice b_2 (fenM (fluM m (t : Int))).per.length d_2) (.slice p_2 (fenM (fluM m (t : Int))).pend.length q_2) (fenM (fluM m (t : Int)))) := R_2; clear R_2 hb_2; have lt49 : w.heap.size < w_2.heap.size := F43.out.lt; have lt50 : w.heap.size ≤ w_2.heap.size := F44.out.size; have lt51 : w_1.heap.size < w_2.heap.size := F47.out.lt; have hb52 : Below w_2.heap.size w_2 (w_2.alloc (.cells #[.slice a_2 (fenM (fluM m (t : Int))).vol.length c_2, .slice b_2 (fenM (fluM m (t : Int))).per.length d_2, .slice p_2 (fenM (fluM m (t : Int))).pend.length q_2] 25)) := (Below.refl _ _).alloc (Nat.le_refl _) _; have F53 : Hid (RdM (w_2.alloc (.cells #[.slice a_2 (fenM (fluM m (t : Int))).vol.length c_2, .slice b_2 (fenM (fluM m (t : Int))).per.length d_2, .slice p_2 (fenM (fluM m (t : Int))).pend.length q_2] 25)) (.slice a1 m.vol.length c1) (.slice a2 m.per.length c2) (.slice a3 m.pend.length c3) m) := F42.out.below hb52; have F54 : Hid (Bo (w_2.alloc (.cells #[.slice a_2 (fenM (fluM m (t : Int))).vol.length c_2, .slice b_2 (fenM (fluM m (t : Int))).per.length d_2, .slice p_2 (fenM (fluM m (t : Int))).pend.length q_2] 25)) w.heap.size (.slice a1 m.vol.length c1) (.slice a2 m.per.length c2) (.slice a3 m.pend.length c3)) := F43.out.below hb52; have F55 : Hid (Below w.heap.size w (w_2.alloc (.cells #[.slice a_2 (fenM (fluM m (t : Int))).vol.length c_2, .slice b_2 (fenM (fluM m (t : Int))).per.length d_2, .slice p_2 (fenM (fluM m (t : Int))).pend.length q_2] 25))) := bstep F44.out hb52; have F56 : Hid (Rd (w_2.alloc (.cells #[.slice a_2 (fenM (fluM m (t : Int))).vol.length c_2, .slice b_2 (fenM (fluM m (t : Int))).per.length d_2, .slice p_2 (fenM (fluM m (t : Int))).pend.length q_2] 25)) (.slice ak keep.length ck) keep) := F45.out.below hb52; have F57 : Hid (RdM (w_2.alloc (.cells #[.slice a_2 (fenM (fluM m (t : Int))).vol.length c_2, .slice b_2 (fenM (fluM m (t : Int))).per.length d_2, .slice p_2 (fenM (fluM m (t : Int))).pend.length q_2] 25)) (.slice a_1 (fluM m (t : Int)).vol.length c_1) (.slice b_1 (fluM m (t : Int)).per.length d_1) (.slice p_1 (fluM m (t : Int)).pend.length q_1) (fluM m (t : Int))) := F46.out.below hb52; have F58 : Hid (Bo (w_2.alloc (.cells #[.slice a_2 (fenM (fluM m (t : Int))).vol.length c_2, .slice b_2 (fenM (fluM m (t : Int))).per.length d_2, .slice p_2 (fenM (fluM m (t : Int))).pend.length q_2] 25)) w_1.heap.size (.slice a_1 (fluM m (t : Int)).vol.length c_1) (.slice b_1 (fluM m (t : Int)).per.length d_1) (.slice p_1 (fluM m (t : Int)).pend.length q_1)) := F47.out.below hb52; have F59 : Hid (RdM (w_2.alloc (.cells #[.slice a_2 (fenM (fluM m (t : Int))).vol.length c_2, .slice b_2 (fenM (fluM m (t : Int))).per.length d_2, .slice p_2 (fenM (fluM m (t : Int))).pend.length q_2] 25)) (.slice a_2 (fenM (fluM m (t : Int))).vol.length c_2) (.slice b_2 (fenM (fluM m (t : Int))).per.length d_2) (.slice p_2 (fenM (fluM m (t : Int))).pend.length q_2) (fenM (fluM m (t : Int)))) := F48.out.below hb52; have F60 : Hid (Bo (w_2.alloc (.cells #[.slice a_2 (fenM (fluM m (t : Int))).vol.length c_2, .slice b_2 (fenM (fluM m (t : Int))).per.length d_2, .slice p_2 (fenM (fluM m (t : Int))).pend.length q_2] 25)) w_2.heap.size (.slice a_2 (fenM (fluM m (t : Int))).vol.length c_2) (.slice b_2 (fenM (fluM m (t : Int))).per.length d_2) (.slice p_2 (fenM (fluM m (t : Int))).pend.length q_2)) := Bo.new w_2 _ _ _; obtain ⟨⟨c61, c62, c63⟩, -⟩ := F54.out.bx; obtain ⟨⟨c64, c65, c66⟩, -⟩ := F58.out.bx; obtain ⟨⟨c67, c68, c69⟩, -⟩ := F60.out.bx; clear c36 c37 c38 c39 c40 c41; clear F30 F31 F32 F33 F34 F35 F42 F43 F44 F45 F46 F47 F48)
    | (go_at_call 18; clear t5; refine (evict_any _ _ _ m (t : Int) _ F53.out).mono ?_; rintro e w_3 ⟨v_3a, v_3b, v_3c, rfl, R_3, hb_3⟩; have R_3 : RdM w_3 v_3a v_3b v_3c (eviM m (t : Int)) := R_3; obtain ⟨a_3, c_3, b_3, d_3, p_3, q_3, rfl, rfl, rfl⟩ := R_3.forms; have F70 : Hid (RdM w_3 (.slice a1 m.vol.length c1) (.slice a2 m.per.length c2) (.slice a3 m.pend.length c3) m) := F53.out.below hb_3; have F71 : Hid (Bo w_3 w.heap.size (.slice a1 m.vol.length c1) (.slice a2 m.per.length c2) (.slice a3 m.pend.length c3)) := F54.out.below hb_3; have F72 : Hid (Below w.heap.size w w_3) := bstep F55.out hb_3; have F73 : Hid (Rd w_3 (.slice ak keep.length ck) keep) := F56.out.below hb_3; have F74 : Hid (RdM w_3 (.slice a_1 (fluM m (t : Int)).vol.length c_1) (.slice b_1 (fluM m (t : Int)).per.length d_1) (.slice p_1 (fluM m (t : Int)).pend.length q_1) (fluM m (t : Int))) := F57.out.below hb_3; have F75 : Hid (Bo w_3 w_1.heap.size (.slice a_1 (fluM m (t : Int)).vol.length c_1) (.slice b_1 (fluM m (t : Int)).per.length d_1) (.slice p_1 (fluM m (t : Int)).pend.length q_1)) := F58.out.below hb_3; have F76 : Hid (RdM w_3 (.slice a_2 (fenM (fluM m (t : Int))).vol.length c_2) (.slice b_2 (fenM (fluM m (t : Int))).per.length d_2) (.slice p_2 (fenM (fluM m (t : Int))).pend.length q_2) (fenM (fluM m (t : Int)))) := F59.out.below hb_3; have F77 : Hid (Bo w_3 w_2.heap.size (.slice a_2 (fenM (fluM m (t : Int))).vol.length c_2) (.slice b_2 (fenM (fluM m (t : Int))).per.length d_2) (.slice p_2 (fenM (fluM m (t : Int))).pend.length q_2)) := F60.out.below hb_3; have F78 : Hid (RdM w_3 (.slice a_3 (eviM m (t : Int)).vol.length c_3) (.slice b_3 (eviM m (t : Int)).per.length d_3) (.slice p_3 (eviM m (t : Int)).pend.length q_3) (eviM m (t : Int))) := R_3; clear R_3 hb_3; have lt79 : w.heap.size < w_3.heap.size := F71.out.lt; have lt80 : w.heap.size ≤ w_3.heap.size := F72.out.size; have lt81 : w_1.heap.size < w_3.heap.size := F75.out.lt; have lt82 : w_2.heap.size < w_3.heap.size := F77.out.lt; have hb83 : Below w_3.heap.size w_3 (w_3.alloc (.cells #[.slice a_3 (eviM m (t : Int)).vol.length c_3, .slice b_3 (eviM m (t : Int)).per.length d_3, .slice p_3 (eviM m (t : Int)).pend.length q_3] 25)) := (Below.refl _ _).alloc (Nat.le_refl _) _; have F84 : Hid (RdM (w_3.alloc (.cells #[.slice a_3 (eviM m (t : Int)).vol.length c_3, .slice b_3 (eviM m (t : Int)).per.length d_3, .slice p_3 (eviM m (t : Int)).pend.length q_3] 25)) (.slice a1 m.vol.length c1) (.slice a2 m.per.length c2) (.slice a3 m.pend.length c3) m) := F70.out.below hb83; have F85 : Hid (Bo (w_3.alloc (.cells #[.slice a_3 (eviM m (t : Int)).vol.length c_3, .slice b_3 (eviM m (t : Int)).per.length d_3, .slice p_3 (eviM m (t : Int)).pend.length q_3] 25)) w.heap.size (.slice a1 m.vol.length c1) (.slice a2 m.per.length c2) (.slice a3 m.pend.length c3)) := F71.out.below hb83; have F86 : Hid (Below w.heap.size w (w_3.alloc (.cells #[.slice a_3 (eviM m (t : Int)).vol.length c_3, .slice b_3 (eviM m (t : Int)).per.length d_3, .slice p_3 (eviM m (t : Int)).pend.length q_3] 25))) := bstep F72.out hb83; have F87 : Hid (Rd (w_3.alloc (.cells #[.slice a_3 (eviM m (t : Int)).vol.length c_3, .slice b_3 (eviM m (t : Int)).per.length d_3, .slice p_3 (eviM m (t : Int)).pend.length q_3] 25)) (.slice ak keep.length ck) keep) := F73.out.below hb83; have F88 : Hid (RdM (w_3.alloc (.cells #[.slice a_3 (eviM m (t : Int)).vol.length c_3, .slice b_3 (eviM m (t : Int)).per.length d_3, .slice p_3 (eviM m (t : Int)).pend.length q_3] 25)) (.slice a_1 (fluM m (t : Int)).vol.length c_1) (.slice b_1 (fluM m (t : Int)).per.length d_1) (.slice p_1 (fluM m (t : Int)).pend.length q_1) (fluM m (t : Int))) := F74.out.below hb83; have F89 : Hid (Bo (w_3.alloc (.cells #[.slice a_3 (eviM m (t : Int)).vol.length c_3, .slice b_3 (eviM m (t : Int)).per.length d_3, .slice p_3 (eviM m (t : Int)).pend.length q_3] 25)) w_1.heap.size (.slice a_1 (fluM m (t : Int)).vol.length c_1) (.slice b_1 (fluM m (t : Int)).per.length d_1) (.slice p_1 (fluM m (t : Int)).pend.length q_1)) := F75.out.below hb83; have F90 : Hid (RdM (w_3.alloc (.cells #[.slice a_3 (eviM m (t : Int)).vol.length c_3, .slice b_3 (eviM m (t : Int)).per.length d_3, .slice p_3 (eviM m (t : Int)).pend.length q_3] 25)) (.slice a_2 (fenM (fluM m (t : Int))).vol.length c_2) (.slice b_2 (fenM (fluM m (t : Int))).per.length d_2) (.slice p_2 (fenM (fluM m (t : Int))).pend.length q_2) (fenM (fluM m (t : Int)))) := F76.out.below hb83; have F91 : Hid (Bo (w_3.alloc (.cells #[.slice a_3 (eviM m (t : Int)).vol.length c_3, .slice b_3 (eviM m (t : Int)).per.length d_3, .slice p_3 (eviM m (t : Int)).pend.length q_3] 25)) w_2.heap.size (.slice a_2 (fenM (fluM m (t : Int))).vol.length c_2) (.slice b_2 (fenM (fluM m (t : Int))).per.length d_2) (.slice p_2 (fenM (fluM m (t : Int))).pend.length q_2)) := F77.out.below hb83; have F92 : Hid (RdM (w_3.alloc (.cells #[.slice a_3 (eviM m (t : Int)).vol.length c_3, .slice b_3 (eviM m (t : Int)).per.length d_3, .slice p_3 (eviM m (t : Int)).pend.length q_3] 25)) (.slice a_3 (eviM m (t : Int)).vol.length c_3) (.slice b_3 (eviM m (t : Int)).per.length d_3) (.slice p_3 (eviM m (t : Int)).pend.length q_3) (eviM m (t : Int))) := F78.out.below hb83; have F93 : Hid (Bo (w_3.alloc (.cells #[.slice a_3 (eviM m (t : Int)).vol.length c_3, .slice b_3 (eviM m (t : Int)).per.length d_3, .slice p_3 (eviM m (t : Int)).pend.length q_3] 25)) w_3.heap.size (.slice a_3 (eviM m (t : Int)).vol.length c_3) (.slice b_3 (eviM m (t : Int)).per.length d_3) (.slice p_3 (eviM m (t : Int)).pend.length q_3)) := Bo.new w_3 _ _ _; obtain ⟨⟨c94, c95, c96⟩, -⟩ := F85.out.bx; obtain ⟨⟨c97, c98, c99⟩, -⟩ := F89.out.bx; obtain ⟨⟨c100, c101, c102⟩, -⟩ := F91.out.bx; obtain ⟨⟨c103, c104, c105⟩, -⟩ := F93.out.bx; clear c61 c62 c63 c64 c65 c66 c67 c68 c69; clear F53 F54 F55 F56 F57 F58 F59 F60 F70 F71 F72 F73 F74 F75 F76 F77 F78)
    | (go_at_call 22; clear t6; refine (crash_any _ _ _ _ (fenM (fluM m (t : Int))) keep _ F90.out F87.out hBd).mono ?_; rintro e w_4 ⟨v_4, rfl, R_4, hb_4⟩; have R_4 : Rd w_4 v_4 (crP (fenM (fluM m (t : Int))) keep) := R_4; obtain ⟨l_4, a_4, c_4, rfl⟩ := R_4.form; have F106 : Hid (RdM w_4 (.slice a1 m.vol.length c1) (.slice a2 m.per.length c2) (.slice a3 m.pend.length c3) m) := F84.out.below hb_4; have F107 : Hid (Bo w_4 w.heap.size (.slice a1 m.vol.length c1) (.slice a2 m.per.length c2) (.slice a3 m.pend.length c3)) := F85.out.below hb_4; have F108 : Hid (Below w.heap.size w w_4) := bstep F86.out hb_4; have F109 : Hid (Rd w_4 (.slice ak keep.length ck) keep) := F87.out.below hb_4; have F110 : Hid (RdM w_4 (.slice a_1 (fluM m (t : Int)).vol.length c_1) (.slice b_1 (fluM m (t : Int)).per.length d_1) (.slice p_1 (fluM m (t : Int)).pend.length q_1) (fluM m (t : Int))) := F88.out.below hb_4; have F111 : Hid (Bo w_4 w_1.heap.size (.slice a_1 (fluM m (t : Int)).vol.length c_1) (.slice b_1 (fluM m (t : Int)).per.length d_1) (.slice p_1 (fluM m (t : Int)).pend.length q_1)) := F89.out.below hb_4; have F112 : Hid (RdM w_4 (.slice a_2 (fenM (fluM m (t : Int))).vol.length c_2) (.slice b_2 (fenM (fluM m (t : Int))).per.length d_2) (.slice p_2 (fenM (fluM m (t : Int))).pend.length q_2) (fenM (fluM m (t : Int)))) := F90.out.below hb_4; have F113 : Hid (Bo w_4 w_2.heap.size (.slice a_2 (fenM (fluM m (t : Int))).vol.length c_2) (.slice b_2 (fenM (fluM m (t : Int))).per.length d_2) (.slice p_2 (fenM (fluM m (t : Int))).pend.length q_2)) := F91.out.below hb_4; have F114 : Hid (RdM w_4 (.slice a_3 (eviM m (t : Int)).vol.length c_3) (.slice b_3 (eviM m (t : Int)).per.length d_3) (.slice p_3 (eviM m (t : Int)).pend.length q_3) (eviM m (t : Int))) := F92.out.below hb_4; have F115 : Hid (Bo w_4 w_3.heap.size (.slice a_3 (eviM m (t : Int)).vol.length c_3) (.slice b_3 (eviM m (t : Int)).per.length d_3) (.slice p_3 (eviM m (t : Int)).pend.length q_3)) := F93.out.below hb_4; have F116 : Hid (Rd w_4 (.slice a_4 (crP (fenM (fluM m (t : Int))) keep).length c_4) (crP (fenM (fluM m (t : Int))) keep)) := R_4; clear R_4 hb_4 l_4; obtain ⟨⟨c117, c118, c119⟩, -⟩ := F107.out.bx; obtain ⟨⟨c120, c121, c122⟩, -⟩ := F111.out.bx; obtain ⟨⟨c123, c124, c125⟩, -⟩ := F113.out.bx; obtain ⟨⟨c126, c127, c128⟩, -⟩ := F115.out.bx; clear c94 c95 c96 c97 c98 c99 c100 c101 c102 c103 c104 c105; clear F84 F85 F86 F87 F88 F89 F90 F91 F92 F93)
    | (go_at_call 22; clear t7; refine (crash_any _ _ _ _ (eviM m (t : Int)) keep _ F114.out F109.out hBd).mono ?_; rintro e w_5 ⟨v_5, rfl, R_5, hb_5⟩; have R_5 : Rd w_5 v_5 (crP (eviM m (t : Int)) keep) := R_5; obtain ⟨l_5, a_5, c_5, rfl⟩ := R_5.form; have F129 : Hid (RdM w_5 (.slice a1 m.vol.length c1) (.slice a2 m.per.length c2) (.slice a3 m.pend.length c3) m) := F106.out.below hb_5; have F130 : Hid (Bo w_5 w.heap.size (.slice a1 m.vol.length c1) (.slice a2 m.per.length c2) (.slice a3 m.pend.length c3)) := F107.out.below hb_5; have F131 : Hid (Below w.heap.size w w_5) := bstep F108.out hb_5; have F132 : Hid (Rd w_5 (.slice ak keep.length ck) keep) := F109.out.below hb_5; have F133 : Hid (RdM w_5 (.slice a_1 (fluM m (t : Int)).vol.length c_1) (.slice b_1 (fluM m (t : Int)).per.length d_1) (.slice p_1 (fluM m (t : Int)).pend.length q_1) (fluM m (t : Int))) := F110.out.below hb_5; have F134 : Hid (Bo w_5 w_1.heap.size (.slice a_1 (fluM m (t : Int)).vol.length c_1) (.slice b_1 (fluM m (t : Int)).per.length d_1) (.slice p_1 (fluM m (t : Int)).pend.length q_1)) := F111.out.below hb_5; have F135 : Hid (RdM w_5 (.slice a_2 (fenM (fluM m (t : Int))).vol.length c_2) (.slice b_2 (fenM (fluM m (t : Int))).per.length d_2) (.slice p_2 (fenM (fluM m (t : Int))).pend.length q_2) (fenM (fluM m (t : Int)))) := F112.out.below hb_5; have F136 : Hid (Bo w_5 w_2.heap.size (.slice a_2 (fenM (fluM m (t : Int))).vol.length c_2) (.slice b_2 (fenM (fluM m (t : Int))).per.length d_2) (.slice p_2 (fenM (fluM m (t : Int))).pend.length q_2)) := F113.out.below hb_5; have F137 : Hid (RdM w_5 (.slice a_3 (eviM m (t : Int)).vol.length c_3) (.slice b_3 (eviM m (t : Int)).per.length d_3) (.slice p_3 (eviM m (t : Int)).pend.length q_3) (eviM m (t : Int))) := F114.out.below hb_5; have F138 : Hid (Bo w_5 w_3.heap.size (.slice a_3 (eviM m (t : Int)).vol.length c_3) (.slice b_3 (eviM m (t : Int)).per.length d_3) (.slice p_3 (eviM m (t : Int)).pend.length q_3)) := F115.out.below hb_5; have F139 : Hid (Rd w_5 (.slice a_4 (crP (fenM (fluM m (t : Int))) keep).length c_4) (crP (fenM (fluM m (t : Int))) keep)) := F116.out.below hb_5; have F140 : Hid (Rd w_5 (.slice a_5 (crP (eviM m (t : Int)) keep).length c_5) (crP (eviM m (t : Int)) keep)) := R_5; clear R_5 hb_5 l_5; obtain ⟨⟨c141, c142, c143⟩, -⟩ := F130.out.bx; obtain ⟨⟨c144, c145, c146⟩, -⟩ := F134.out.bx; obtain ⟨⟨c147, c148, c149⟩, -⟩ := F136.out.bx; obtain ⟨⟨c150, c151, c152⟩, -⟩ := F138.out.bx; clear c117 c118 c119 c120 c121 c122 c123 c124 c125 c126 c127 c128; clear F106 F107 F108 F109 F110 F111 F112 F113 F114 F115 F116))
  clear c141 c142 c143 c144 c145 c146 c147 c148 c149 c150 c151 c152
  go_loopw [18] (fun s w1 => ∃ k : Nat, 8 * t ≤ k ∧ k ≤ 8 * t + 8 ∧ s = .int .i64 k ∧ Below w_5.heap.size w_5 w1) (fun s _ => 8 * t + 8 - (intOf s).toNat)
  case atStart => exact ⟨8 * t, Nat.le_refl _, by omega, by simp, Below.refl _ _⟩
  case round =>
    obtain ⟨k, hk0, hk, rfl, hbr⟩ := hrel
    obtain ⟨⟨x0, x1, x2⟩, -⟩ := (F136.out.below hbr).bx
    obtain ⟨⟨y0, y1, y2⟩, -⟩ := (F130.out.below hbr).bx
    by_cases hlt : k < 8 * t + 8
    · have hltI : (k : Int) < 8 * (t : Int) + 8 := by omega
      have hkv : k < m.vol.length := by omega
      have hkt : k / 8 = t := by omega
      have hk1 : k < (fenM (fluM m (t : Int))).per.length := by rw [HOB.out.1, vol_fen, vol_flu]; exact hkv
      have hk3 : k < (crP (fenM (fluM m (t : Int))) keep).length := by rw [crP_length HOB.out, vol_fen, vol_flu]; exact hkv
      have hk4 : k < (crP (eviM m (t : Int)) keep).length := by rw [crP_length HOC.out, vol_evi]; exact hkv
      have hi1 : (k : Int) < ((fenM (fluM m (t : Int))).per.length : Int) := by omega
      have hi2 : (k : Int) < (m.vol.length : Int) := by omega
      have hi3 : (k : Int) < ((crP (fenM (fluM m (t : Int))) keep).length : Int) := by omega
      have hi4 : (k : Int) < ((crP (eviM m (t : Int)) keep).length : Int) := by omega
      have mB := F135.out.per.below hbr
      have mM := F129.out.vol.below hbr
      have mX := F139.out.below hbr
      have mY := F140.out.below hbr
      obtain ⟨bB, oB, rfl, -⟩ := mB.base (by omega)
      obtain ⟨bM, oM, rfl, -⟩ := mM.base (by omega)
      obtain ⟨bX, oX, rfl, -⟩ := mX.base (by omega)
      obtain ⟨bY, oY, rfl, -⟩ := mY.base (by omega)
      obtain ⟨z, hz⟩ : ∃ z, m.vol[k]? = some z := ⟨_, List.getElem?_eq_getElem hkv⟩
      have cM := mM.cell hz
      have cB := mB.cell (show (fenM (fluM m (t : Int))).per[k]? = some z from by rw [kept_seen HOB.out (by rw [hkt]; exact HBn.out), vol_fen, vol_flu]; exact hz)
      have cX := mX.cell (show (crP (fenM (fluM m (t : Int))) keep)[k]? = some z from by rw [crash_seen HOB.out keep (by rw [vol_fen, vol_flu]; exact hkv) (by rw [hkt]; exact HBn.out), vol_fen, vol_flu]; exact hz)
      have cY := mY.cell (show (crP (eviM m (t : Int)) keep)[k]? = some z from by rw [crash_seen HOC.out keep (by rw [vol_evi]; exact hkv) (by rw [hkt]; exact HCn.out), vol_evi]; exact hz)
      have zz : (z != z) = false := by simp
      clear mB mM mX mY hk1 hk3 hk4 hz
      go_wp2
      go_quiet (fail)
      go_wp2
      go_roundw
      case rel => exact ⟨k + 1, by omega, by omega, by go_num, below_drewN hbr _⟩
      case measure => simp [intOf]; omega
    · obtain rfl : k = 8 * t + 8 := by omega
      have hi5 : ¬ (((8 * t + 8 : Nat) : Int) < 8 * (t : Int) + 8) := by omega
      go_wp2
      clear x0 x1 x2 y0 y1 y2
      go_loopw [19] (fun s w1 => ∃ k : Nat, k ≤ (fenM (fluM m (t : Int))).pend.length ∧ s = .int .i64 k ∧ Below w_5.heap.size w_5 w1) (fun s _ => (fenM (fluM m (t : Int))).pend.length - (intOf s).toNat)
      case atStart => exact ⟨0, Nat.zero_le _, rfl, hbr⟩
      case round =>
        obtain ⟨j, hj, rfl, hbs⟩ := hrel
        have RB := F135.out.below hbs
        have hlB := RB.lens.2.2
        obtain ⟨⟨x0, x1, x2⟩, -⟩ := (F136.out.below hbs).bx
        by_cases hlt2 : j < (fenM (fluM m (t : Int))).pend.length
        · have hltJ : (j : Int) < ((fenM (fluM m (t : Int))).pend.length : Int) := by omega
          obtain ⟨p, hp⟩ : ∃ p, (fenM (fluM m (t : Int))).pend[j]? = some p := ⟨_, List.getElem?_eq_getElem hlt2⟩
          have hpm := List.mem_of_getElem? hp
          have hpn := HBn.out p hpm
          have hpi := HOB.out.2.2.2.1 p hpm
          rw [vol_fen, vol_flu] at hpi
          obtain ⟨g1, o1, rfl, s0, s1, s2⟩ := RB.pend.get hp
          obtain ⟨pa, pv, pf⟩ := p
          dsimp only at s0 s1 s2 hpi
          obtain ⟨q, rfl⟩ := Int.eq_ofNat_of_zero_le hpi.1
          have hq5 : (q : Int) < 100000 := by omega
          obtain ⟨l, hl⟩ : ∃ l, q / 8 = l := ⟨_, rfl⟩
          have hl8 : (q : Int) / 8 = (l : Int) := by omega
          have hne : ((l : Int) == (t : Int)) = false := by
            have : lnN ⟨(q : Int), pv, pf⟩ = l := by show ((q : Int) / 8).toNat = l; omega
            rw [this] at hpn
            simp; omega
          clear RB hp hpm hpn hpi
          go_wp2
          go_roundw
          case rel => exact ⟨j + 1, by omega, by go_num, hbs⟩
          case measure => simp [intOf]; omega
        · obtain rfl : j = (fenM (fluM m (t : Int))).pend.length := by omega
          clear RB
          go_wp2
          go_ret
          exact ⟨rfl, bstep F131.out hbs⟩

set_option maxRecDepth 100000 in
set_option maxHeartbeats 1000000 in
theorem walk_PmemKeeps (a1 a2 a3 : Option Addr) (n1 n2 n3 c1 c2 c3 : Nat) (ln : Int) (ak : Option Addr) (nk ck : Nat) (w : World) (hm : MemIn w a1 a2 a3 n1 n2 n3 c1 c2 c3) (hk : KeepIn w ak nk ck) :
    Calls Try.prog 5 #[.agg #[.slice a1 n1 c1, .slice a2 n2 c2, .slice a3 n3 c3], .int .i64 ln, .slice ak nk ck] w fun e w' => e = .returned (.bool true) ∧ Below w.heap.size w w' := by
  by_cases h : n1 ≤ 300 ∧ n2 ≤ 300 ∧ n3 ≤ 100
  · obtain ⟨h1, h2, h3⟩ := h
    obtain ⟨m, rfl, rfl, rfl, hR⟩ := hm h1 h2 h3
    have HB : Hid (Below w.heap.size w (w.alloc (.cells #[.slice a1 m.vol.length c1, .slice a2 m.per.length c2, .slice a3 m.pend.length c3] 25))) := (Below.refl _ _).alloc (Nat.le_refl _) _
    have HX : Hid (Bo (w.alloc (.cells #[.slice a1 m.vol.length c1, .slice a2 m.per.length c2, .slice a3 m.pend.length c3] 25)) w.heap.size (.slice a1 m.vol.length c1) (.slice a2 m.per.length c2) (.slice a3 m.pend.length c3)) := Bo.new w _ _ _
    have HR : Hid (RdM (w.alloc (.cells #[.slice a1 m.vol.length c1, .slice a2 m.per.length c2, .slice a3 m.pend.length c3] 25)) (.slice a1 m.vol.length c1) (.slice a2 m.per.length c2) (.slice a3 m.pend.length c3) m) := hR.below HB.out
    have hfew : fewB m.vol.length m.per.length m.pend.length = true := decide_eq_true ⟨h1, h2, h3⟩
    clear hR hm
    cases hok : ok m
    · go_enter Try.func5, Try.ntmps5
      go_wp2_with (first
        | (go_at_call 9; refine (awake_any _).mono ?_; rintro e w0 ⟨rfl, hb0⟩; have HX0 : Hid (Bo w0 _ _ _ _) := HX.out.below hb0; obtain ⟨⟨x0, x1, x2⟩, _⟩ := HX0.out.bx; have HB0 : Hid (Below w.heap.size w w0) := bstep HB.out hb0; have HR0 : Hid (RdM w0 _ _ _ m) := HR.out.below hb0)
        | (go_at_call 10; refine (few_any _ _ _ _ _ _ _ _ _ _).mono ?_; rintro e wf ⟨rfl, hbf⟩; have HXf : Hid (Bo wf _ _ _ _) := HX0.out.below hbf; obtain ⟨⟨y0, y1, y2⟩, _⟩ := HXf.out.bx)
        | (go_at_call 27; refine (check_any _ _ _ m _ (HR0.out.below hbf)).mono ?_; rintro e wc ⟨rfl, hbc⟩; obtain ⟨⟨z0, z1, z2⟩, _⟩ := (HXf.out.below hbc).bx))
      go_ret
      exact ⟨rfl, bstep (bstep HB0.out hbf) hbc⟩
    · by_cases hn : (nk : Int) ≤ 300
      · by_cases hl0 : ln < 0
        · go_enter Try.func5, Try.ntmps5
          go_wp2_with (first
            | (go_at_call 9; refine (awake_any _).mono ?_; rintro e w0 ⟨rfl, hb0⟩; have HX0 : Hid (Bo w0 _ _ _ _) := HX.out.below hb0; obtain ⟨⟨x0, x1, x2⟩, _⟩ := HX0.out.bx; have HB0 : Hid (Below w.heap.size w w0) := bstep HB.out hb0; have HR0 : Hid (RdM w0 _ _ _ m) := HR.out.below hb0)
            | (go_at_call 10; refine (few_any _ _ _ _ _ _ _ _ _ _).mono ?_; rintro e wf ⟨rfl, hbf⟩; have HXf : Hid (Bo wf _ _ _ _) := HX0.out.below hbf; obtain ⟨⟨y0, y1, y2⟩, _⟩ := HXf.out.bx)
            | (go_at_call 27; refine (check_any _ _ _ m _ (HR0.out.below hbf)).mono ?_; rintro e wc ⟨rfl, hbc⟩; obtain ⟨⟨z0, z1, z2⟩, _⟩ := (HXf.out.below hbc).bx))
          go_ret
          exact ⟨rfl, bstep (bstep HB0.out hbf) hbc⟩
        · by_cases hl1 : (m.vol.length : Int) / 8 ≤ ln
          · go_enter Try.func5, Try.ntmps5
            go_wp2_with (first
              | (go_at_call 9; refine (awake_any _).mono ?_; rintro e w0 ⟨rfl, hb0⟩; have HX0 : Hid (Bo w0 _ _ _ _) := HX.out.below hb0; obtain ⟨⟨x0, x1, x2⟩, _⟩ := HX0.out.bx; have HB0 : Hid (Below w.heap.size w w0) := bstep HB.out hb0; have HR0 : Hid (RdM w0 _ _ _ m) := HR.out.below hb0)
              | (go_at_call 10; refine (few_any _ _ _ _ _ _ _ _ _ _).mono ?_; rintro e wf ⟨rfl, hbf⟩; have HXf : Hid (Bo wf _ _ _ _) := HX0.out.below hbf; obtain ⟨⟨y0, y1, y2⟩, _⟩ := HXf.out.bx)
              | (go_at_call 27; refine (check_any _ _ _ m _ (HR0.out.below hbf)).mono ?_; rintro e wc ⟨rfl, hbc⟩; obtain ⟨⟨z0, z1, z2⟩, _⟩ := (HXf.out.below hbc).bx))
            go_ret
            exact ⟨rfl, bstep (bstep HB0.out hbf) hbc⟩
          · obtain ⟨keep, rfl, hK, hBd⟩ := hk (by omega)
            have HK : Hid (Rd (w.alloc (.cells #[.slice a1 m.vol.length c1, .slice a2 m.per.length c2, .slice a3 m.pend.length c3] 25)) (.slice ak keep.length ck) keep) := hK.below HB.out
            obtain ⟨t, rfl⟩ := Int.eq_ofNat_of_zero_le (show 0 ≤ ln by omega)
            exact keeps_b a1 a2 a3 ak c1 c2 c3 ck t keep w m HB HX HR HK hBd hfew h1 h3 hn (ok_out hok) (by omega)
      · go_enter Try.func5, Try.ntmps5
        go_wp2_with (first
          | (go_at_call 9; refine (awake_any _).mono ?_; rintro e w0 ⟨rfl, hb0⟩; have HX0 : Hid (Bo w0 _ _ _ _) := HX.out.below hb0; obtain ⟨⟨x0, x1, x2⟩, _⟩ := HX0.out.bx; have HB0 : Hid (Below w.heap.size w w0) := bstep HB.out hb0; have HR0 : Hid (RdM w0 _ _ _ m) := HR.out.below hb0)
          | (go_at_call 10; refine (few_any _ _ _ _ _ _ _ _ _ _).mono ?_; rintro e wf ⟨rfl, hbf⟩; have HXf : Hid (Bo wf _ _ _ _) := HX0.out.below hbf; obtain ⟨⟨y0, y1, y2⟩, _⟩ := HXf.out.bx)
          | (go_at_call 27; refine (check_any _ _ _ m _ (HR0.out.below hbf)).mono ?_; rintro e wc ⟨rfl, hbc⟩; obtain ⟨⟨z0, z1, z2⟩, _⟩ := (HXf.out.below hbc).bx))
        go_ret
        exact ⟨rfl, bstep (bstep HB0.out hbf) hbc⟩
  · clear hm
    have HB : Hid (Below w.heap.size w (w.alloc (.cells #[.slice a1 n1 c1, .slice a2 n2 c2, .slice a3 n3 c3] 25))) := (Below.refl _ _).alloc (Nat.le_refl _) _
    have HX : Hid (Bo (w.alloc (.cells #[.slice a1 n1 c1, .slice a2 n2 c2, .slice a3 n3 c3] 25)) w.heap.size (.slice a1 n1 c1) (.slice a2 n2 c2) (.slice a3 n3 c3)) := Bo.new w _ _ _
    have hfew : fewB n1 n2 n3 = false := decide_eq_false h
    go_enter Try.func5, Try.ntmps5
    go_wp2_with (first
      | (go_at_call 9; refine (awake_any _).mono ?_; rintro e w0 ⟨rfl, hb0⟩; have HX0 := HX.out.below hb0; obtain ⟨⟨x0, x1, x2⟩, _⟩ := HX0.bx; have HB0 : Hid (Below w.heap.size w w0) := bstep HB.out hb0; clear HX0)
      | (go_at_call 10; refine (few_any _ _ _ _ _ _ _ _ _ _).mono ?_; rintro e wf ⟨rfl, hbf⟩))
    go_ret
    exact ⟨rfl, bstep HB0.out hbf⟩
end Go.Proofs.Ytmaeobdeddllaaa

