/- Walks of layer 5's statements: what is seen. -/
import Derived.Test.YthibgmndgkhfiaaStepin
import Derived.Test.YthibgmndgkhfiaaLawc
namespace Go.Proofs.Ythibgmndgkhfiaa
open Go.RowKit Go.Shelf
set_option linter.unusedVariables false

theorem own_mt (W : World) {b : Nat} (hb : b = W.heap.size) : (W.alloc (.cells #[] 3)).ownsRow W.heap.size 3 1 (.slice (some ⟨b, 0, none⟩) 0 0) 0 [] := by
  subst hb
  exact World.ownsRow_made (base := W.heap.size) (e := 3) (size := 1) W #[] 0 (Nat.le_refl _) (by omega) rfl

set_option maxRecDepth 100000 in
set_option maxHeartbeats 16000000 in
theorem seen_a (a1 a2 a3 a : Option Addr) (c1 c2 c3 cap : Nat) (l : List Mi) (w : World) (m : Mm) (HB : Hid (Below w.heap.size w (w.alloc (.cells #[.slice a1 m.vol.length c1, .slice a2 m.per.length c2, .slice a3 m.pend.length c3] 25)))) (HX : Hid (Bo (w.alloc (.cells #[.slice a1 m.vol.length c1, .slice a2 m.per.length c2, .slice a3 m.pend.length c3] 25)) w.heap.size (.slice a1 m.vol.length c1) (.slice a2 m.per.length c2) (.slice a3 m.pend.length c3))) (HR : Hid (RdM (w.alloc (.cells #[.slice a1 m.vol.length c1, .slice a2 m.per.length c2, .slice a3 m.pend.length c3] 25)) (.slice a1 m.vol.length c1) (.slice a2 m.per.length c2) (.slice a3 m.pend.length c3) m)) (HS : Hid (RdS (w.alloc (.cells #[.slice a1 m.vol.length c1, .slice a2 m.per.length c2, .slice a3 m.pend.length c3] 25)) (.slice a l.length cap) l)) (hfew : fewB m.vol.length m.per.length m.pend.length = true) (hp : m.pend.length ≤ 100) (hl : (l.length : Int) ≤ 100) (hv : m.vol.length ≤ 300) (e1 : ok m = false) : Calls Try.prog 6 #[.agg #[.slice a1 m.vol.length c1, .slice a2 m.per.length c2, .slice a3 m.pend.length c3], .slice a l.length cap] w fun e w' => e = .returned (.bool true) ∧ Below w.heap.size w w' := by
  have hp1 : m.pend.length + l.length ≤ 900 := by omega
  have he : ruE m l = 40 := ruE_no (mr_off e1 l)
  have t0 : Hid (0 = 0) := rfl
  have t1 : Hid (0 = 0) := rfl
  have t2 : Hid (0 = 0) := rfl
  have t3 : Hid (0 = 0) := rfl
  go_enter Try.func6, Try.ntmps6
  go_wp2_with (first
    | (go_at_call 8; clear t0; refine (awake_any _).mono ?_; rintro e w0 ⟨rfl, hb0⟩; have F1 : Hid (RdM w0 (.slice a1 m.vol.length c1) (.slice a2 m.per.length c2) (.slice a3 m.pend.length c3) m) := HR.out.below hb0; have F2 : Hid (Bo w0 w.heap.size (.slice a1 m.vol.length c1) (.slice a2 m.per.length c2) (.slice a3 m.pend.length c3)) := HX.out.below hb0; have F3 : Hid (Below w.heap.size w w0) := bstep HB.out hb0; have F4 : Hid (RdS w0 (.slice a l.length cap) l) := HS.out.below hb0; clear hb0; obtain ⟨⟨c5, c6, c7⟩, -⟩ := F2.out.bx; clear HR HX HB HS)
    | (go_at_call 9; clear t1; refine (few_any _ _ _ _ _ _ _ _ _ _).mono ?_; rintro e wf ⟨rfl, hbf⟩; have F8 : Hid (RdM wf (.slice a1 m.vol.length c1) (.slice a2 m.per.length c2) (.slice a3 m.pend.length c3) m) := F1.out.below hbf; have F9 : Hid (Bo wf w.heap.size (.slice a1 m.vol.length c1) (.slice a2 m.per.length c2) (.slice a3 m.pend.length c3)) := F2.out.below hbf; have F10 : Hid (Below w.heap.size w wf) := bstep F3.out hbf; have F11 : Hid (RdS wf (.slice a l.length cap) l) := F4.out.below hbf; clear hbf; obtain ⟨⟨c12, c13, c14⟩, -⟩ := F9.out.bx; clear c5 c6 c7; clear F1 F2 F3 F4)
    | (go_at_call 10; clear t2; refine (run_any _ _ _ _ m l _ F8.out F11.out hp1).mono ?_; rintro e w_1 ⟨v_1a, v_1b, v_1c, rfl, R_1, hb_1⟩; have R_1 : RdM w_1 v_1a v_1b v_1c (ruM m l) := R_1; obtain ⟨a_1, c_1, b_1, d_1, p_1, q_1, rfl, rfl, rfl⟩ := R_1.forms; have F15 : Hid (RdM w_1 (.slice a1 m.vol.length c1) (.slice a2 m.per.length c2) (.slice a3 m.pend.length c3) m) := F8.out.below hb_1; have F16 : Hid (Bo w_1 w.heap.size (.slice a1 m.vol.length c1) (.slice a2 m.per.length c2) (.slice a3 m.pend.length c3)) := F9.out.below hb_1; have F17 : Hid (Below w.heap.size w w_1) := bstep F10.out hb_1; have F18 : Hid (RdS w_1 (.slice a l.length cap) l) := F11.out.below hb_1; have F19 : Hid (RdM w_1 (.slice a_1 (ruM m l).vol.length c_1) (.slice b_1 (ruM m l).per.length d_1) (.slice p_1 (ruM m l).pend.length q_1) (ruM m l)) := R_1; clear R_1 hb_1; have lt20 : w.heap.size < w_1.heap.size := F16.out.lt; have lt21 : w.heap.size ≤ w_1.heap.size := F17.out.size; have hb22 : Below w_1.heap.size w_1 (w_1.alloc (.cells #[.slice a_1 (ruM m l).vol.length c_1, .slice b_1 (ruM m l).per.length d_1, .slice p_1 (ruM m l).pend.length q_1] 25)) := (Below.refl _ _).alloc (Nat.le_refl _) _; have F23 : Hid (RdM (w_1.alloc (.cells #[.slice a_1 (ruM m l).vol.length c_1, .slice b_1 (ruM m l).per.length d_1, .slice p_1 (ruM m l).pend.length q_1] 25)) (.slice a1 m.vol.length c1) (.slice a2 m.per.length c2) (.slice a3 m.pend.length c3) m) := F15.out.below hb22; have F24 : Hid (Bo (w_1.alloc (.cells #[.slice a_1 (ruM m l).vol.length c_1, .slice b_1 (ruM m l).per.length d_1, .slice p_1 (ruM m l).pend.length q_1] 25)) w.heap.size (.slice a1 m.vol.length c1) (.slice a2 m.per.length c2) (.slice a3 m.pend.length c3)) := F16.out.below hb22; have F25 : Hid (Below w.heap.size w (w_1.alloc (.cells #[.slice a_1 (ruM m l).vol.length c_1, .slice b_1 (ruM m l).per.length d_1, .slice p_1 (ruM m l).pend.length q_1] 25))) := bstep F17.out hb22; have F26 : Hid (RdS (w_1.alloc (.cells #[.slice a_1 (ruM m l).vol.length c_1, .slice b_1 (ruM m l).per.length d_1, .slice p_1 (ruM m l).pend.length q_1] 25)) (.slice a l.length cap) l) := F18.out.below hb22; have F27 : Hid (RdM (w_1.alloc (.cells #[.slice a_1 (ruM m l).vol.length c_1, .slice b_1 (ruM m l).per.length d_1, .slice p_1 (ruM m l).pend.length q_1] 25)) (.slice a_1 (ruM m l).vol.length c_1) (.slice b_1 (ruM m l).per.length d_1) (.slice p_1 (ruM m l).pend.length q_1) (ruM m l)) := F19.out.below hb22; have F28 : Hid (Bo (w_1.alloc (.cells #[.slice a_1 (ruM m l).vol.length c_1, .slice b_1 (ruM m l).per.length d_1, .slice p_1 (ruM m l).pend.length q_1] 25)) w_1.heap.size (.slice a_1 (ruM m l).vol.length c_1) (.slice b_1 (ruM m l).per.length d_1) (.slice p_1 (ruM m l).pend.length q_1)) := Bo.new w_1 _ _ _; obtain ⟨⟨c29, c30, c31⟩, -⟩ := F24.out.bx; obtain ⟨⟨c32, c33, c34⟩, -⟩ := F28.out.bx; clear c12 c13 c14; clear F8 F9 F10 F11 F15 F16 F17 F18 F19)
    | (go_at_call 20; clear t3; refine (check_any _ _ _ m _ F23.out).mono ?_; rintro e wk ⟨rfl, hbwk⟩; have F35 : Hid (RdM wk (.slice a1 m.vol.length c1) (.slice a2 m.per.length c2) (.slice a3 m.pend.length c3) m) := F23.out.below hbwk; have F36 : Hid (Bo wk w.heap.size (.slice a1 m.vol.length c1) (.slice a2 m.per.length c2) (.slice a3 m.pend.length c3)) := F24.out.below hbwk; have F37 : Hid (Below w.heap.size w wk) := bstep F25.out hbwk; have F38 : Hid (RdS wk (.slice a l.length cap) l) := F26.out.below hbwk; have F39 : Hid (RdM wk (.slice a_1 (ruM m l).vol.length c_1) (.slice b_1 (ruM m l).per.length d_1) (.slice p_1 (ruM m l).pend.length q_1) (ruM m l)) := F27.out.below hbwk; have F40 : Hid (Bo wk w_1.heap.size (.slice a_1 (ruM m l).vol.length c_1) (.slice b_1 (ruM m l).per.length d_1) (.slice p_1 (ruM m l).pend.length q_1)) := F28.out.below hbwk; clear hbwk; obtain ⟨⟨c41, c42, c43⟩, -⟩ := F36.out.bx; obtain ⟨⟨c44, c45, c46⟩, -⟩ := F40.out.bx; clear c29 c30 c31 c32 c33 c34; clear F23 F24 F25 F26 F27 F28))
  go_ret
  exact ⟨rfl, F37.out⟩

set_option maxRecDepth 100000 in
set_option maxHeartbeats 16000000 in
theorem seen_b (a1 a2 a3 a : Option Addr) (c1 c2 c3 cap : Nat) (l : List Mi) (w : World) (m : Mm) (HB : Hid (Below w.heap.size w (w.alloc (.cells #[.slice a1 m.vol.length c1, .slice a2 m.per.length c2, .slice a3 m.pend.length c3] 25)))) (HX : Hid (Bo (w.alloc (.cells #[.slice a1 m.vol.length c1, .slice a2 m.per.length c2, .slice a3 m.pend.length c3] 25)) w.heap.size (.slice a1 m.vol.length c1) (.slice a2 m.per.length c2) (.slice a3 m.pend.length c3))) (HR : Hid (RdM (w.alloc (.cells #[.slice a1 m.vol.length c1, .slice a2 m.per.length c2, .slice a3 m.pend.length c3] 25)) (.slice a1 m.vol.length c1) (.slice a2 m.per.length c2) (.slice a3 m.pend.length c3) m)) (HS : Hid (RdS (w.alloc (.cells #[.slice a1 m.vol.length c1, .slice a2 m.per.length c2, .slice a3 m.pend.length c3] 25)) (.slice a l.length cap) l)) (hfew : fewB m.vol.length m.per.length m.pend.length = true) (hp : m.pend.length ≤ 100) (hl : (l.length : Int) ≤ 100) (hv : m.vol.length ≤ 300) (e1 : ok m = true) (e2 : chB l (m.vol.length : Int) = false) : Calls Try.prog 6 #[.agg #[.slice a1 m.vol.length c1, .slice a2 m.per.length c2, .slice a3 m.pend.length c3], .slice a l.length cap] w fun e w' => e = .returned (.bool true) ∧ Below w.heap.size w w' := by
  have hp1 : m.pend.length + l.length ≤ 900 := by omega
  have he : ruE m l = 40 := ruE_no (by unfold mrB; rw [e1, e2]; rfl)
  have t0 : Hid (0 = 0) := rfl
  have t1 : Hid (0 = 0) := rfl
  have t2 : Hid (0 = 0) := rfl
  have t3 : Hid (0 = 0) := rfl
  have t4 : Hid (0 = 0) := rfl
  go_enter Try.func6, Try.ntmps6
  go_wp2_with (first
    | (go_at_call 8; clear t0; refine (awake_any _).mono ?_; rintro e w0 ⟨rfl, hb0⟩; have F1 : Hid (RdM w0 (.slice a1 m.vol.length c1) (.slice a2 m.per.length c2) (.slice a3 m.pend.length c3) m) := HR.out.below hb0; have F2 : Hid (Bo w0 w.heap.size (.slice a1 m.vol.length c1) (.slice a2 m.per.length c2) (.slice a3 m.pend.length c3)) := HX.out.below hb0; have F3 : Hid (Below w.heap.size w w0) := bstep HB.out hb0; have F4 : Hid (RdS w0 (.slice a l.length cap) l) := HS.out.below hb0; clear hb0; obtain ⟨⟨c5, c6, c7⟩, -⟩ := F2.out.bx; clear HR HX HB HS)
    | (go_at_call 9; clear t1; refine (few_any _ _ _ _ _ _ _ _ _ _).mono ?_; rintro e wf ⟨rfl, hbf⟩; have F8 : Hid (RdM wf (.slice a1 m.vol.length c1) (.slice a2 m.per.length c2) (.slice a3 m.pend.length c3) m) := F1.out.below hbf; have F9 : Hid (Bo wf w.heap.size (.slice a1 m.vol.length c1) (.slice a2 m.per.length c2) (.slice a3 m.pend.length c3)) := F2.out.below hbf; have F10 : Hid (Below w.heap.size w wf) := bstep F3.out hbf; have F11 : Hid (RdS wf (.slice a l.length cap) l) := F4.out.below hbf; clear hbf; obtain ⟨⟨c12, c13, c14⟩, -⟩ := F9.out.bx; clear c5 c6 c7; clear F1 F2 F3 F4)
    | (go_at_call 10; clear t2; refine (run_any _ _ _ _ m l _ F8.out F11.out hp1).mono ?_; rintro e w_1 ⟨v_1a, v_1b, v_1c, rfl, R_1, hb_1⟩; have R_1 : RdM w_1 v_1a v_1b v_1c (ruM m l) := R_1; obtain ⟨a_1, c_1, b_1, d_1, p_1, q_1, rfl, rfl, rfl⟩ := R_1.forms; have F15 : Hid (RdM w_1 (.slice a1 m.vol.length c1) (.slice a2 m.per.length c2) (.slice a3 m.pend.length c3) m) := F8.out.below hb_1; have F16 : Hid (Bo w_1 w.heap.size (.slice a1 m.vol.length c1) (.slice a2 m.per.length c2) (.slice a3 m.pend.length c3)) := F9.out.below hb_1; have F17 : Hid (Below w.heap.size w w_1) := bstep F10.out hb_1; have F18 : Hid (RdS w_1 (.slice a l.length cap) l) := F11.out.below hb_1; have F19 : Hid (RdM w_1 (.slice a_1 (ruM m l).vol.length c_1) (.slice b_1 (ruM m l).per.length d_1) (.slice p_1 (ruM m l).pend.length q_1) (ruM m l)) := R_1; clear R_1 hb_1; have lt20 : w.heap.size < w_1.heap.size := F16.out.lt; have lt21 : w.heap.size ≤ w_1.heap.size := F17.out.size; have hb22 : Below w_1.heap.size w_1 (w_1.alloc (.cells #[.slice a_1 (ruM m l).vol.length c_1, .slice b_1 (ruM m l).per.length d_1, .slice p_1 (ruM m l).pend.length q_1] 25)) := (Below.refl _ _).alloc (Nat.le_refl _) _; have F23 : Hid (RdM (w_1.alloc (.cells #[.slice a_1 (ruM m l).vol.length c_1, .slice b_1 (ruM m l).per.length d_1, .slice p_1 (ruM m l).pend.length q_1] 25)) (.slice a1 m.vol.length c1) (.slice a2 m.per.length c2) (.slice a3 m.pend.length c3) m) := F15.out.below hb22; have F24 : Hid (Bo (w_1.alloc (.cells #[.slice a_1 (ruM m l).vol.length c_1, .slice b_1 (ruM m l).per.length d_1, .slice p_1 (ruM m l).pend.length q_1] 25)) w.heap.size (.slice a1 m.vol.length c1) (.slice a2 m.per.length c2) (.slice a3 m.pend.length c3)) := F16.out.below hb22; have F25 : Hid (Below w.heap.size w (w_1.alloc (.cells #[.slice a_1 (ruM m l).vol.length c_1, .slice b_1 (ruM m l).per.length d_1, .slice p_1 (ruM m l).pend.length q_1] 25))) := bstep F17.out hb22; have F26 : Hid (RdS (w_1.alloc (.cells #[.slice a_1 (ruM m l).vol.length c_1, .slice b_1 (ruM m l).per.length d_1, .slice p_1 (ruM m l).pend.length q_1] 25)) (.slice a l.length cap) l) := F18.out.below hb22; have F27 : Hid (RdM (w_1.alloc (.cells #[.slice a_1 (ruM m l).vol.length c_1, .slice b_1 (ruM m l).per.length d_1, .slice p_1 (ruM m l).pend.length q_1] 25)) (.slice a_1 (ruM m l).vol.length c_1) (.slice b_1 (ruM m l).per.length d_1) (.slice p_1 (ruM m l).pend.length q_1) (ruM m l)) := F19.out.below hb22; have F28 : Hid (Bo (w_1.alloc (.cells #[.slice a_1 (ruM m l).vol.length c_1, .slice b_1 (ruM m l).per.length d_1, .slice p_1 (ruM m l).pend.length q_1] 25)) w_1.heap.size (.slice a_1 (ruM m l).vol.length c_1) (.slice b_1 (ruM m l).per.length d_1) (.slice p_1 (ruM m l).pend.length q_1)) := Bo.new w_1 _ _ _; obtain ⟨⟨c29, c30, c31⟩, -⟩ := F24.out.bx; obtain ⟨⟨c32, c33, c34⟩, -⟩ := F28.out.bx; clear c12 c13 c14; clear F8 F9 F10 F11 F15 F16 F17 F18 F19)
    | (go_at_call 20; clear t3; refine (check_any _ _ _ m _ F23.out).mono ?_; rintro e wk ⟨rfl, hbwk⟩; have F35 : Hid (RdM wk (.slice a1 m.vol.length c1) (.slice a2 m.per.length c2) (.slice a3 m.pend.length c3) m) := F23.out.below hbwk; have F36 : Hid (Bo wk w.heap.size (.slice a1 m.vol.length c1) (.slice a2 m.per.length c2) (.slice a3 m.pend.length c3)) := F24.out.below hbwk; have F37 : Hid (Below w.heap.size w wk) := bstep F25.out hbwk; have F38 : Hid (RdS wk (.slice a l.length cap) l) := F26.out.below hbwk; have F39 : Hid (RdM wk (.slice a_1 (ruM m l).vol.length c_1) (.slice b_1 (ruM m l).per.length d_1) (.slice p_1 (ruM m l).pend.length q_1) (ruM m l)) := F27.out.below hbwk; have F40 : Hid (Bo wk w_1.heap.size (.slice a_1 (ruM m l).vol.length c_1) (.slice b_1 (ruM m l).per.length d_1) (.slice p_1 (ruM m l).pend.length q_1)) := F28.out.below hbwk; clear hbwk; obtain ⟨⟨c41, c42, c43⟩, -⟩ := F36.out.bx; obtain ⟨⟨c44, c45, c46⟩, -⟩ := F40.out.bx; clear c29 c30 c31 c32 c33 c34; clear F23 F24 F25 F26 F27 F28)
    | (go_at_call 18; clear t4; refine (chk_any _ l _ _ F38.out).mono ?_; rintro e wq ⟨rfl, hbwq⟩; have F47 : Hid (RdM wq (.slice a1 m.vol.length c1) (.slice a2 m.per.length c2) (.slice a3 m.pend.length c3) m) := F35.out.below hbwq; have F48 : Hid (Bo wq w.heap.size (.slice a1 m.vol.length c1) (.slice a2 m.per.length c2) (.slice a3 m.pend.length c3)) := F36.out.below hbwq; have F49 : Hid (Below w.heap.size w wq) := bstep F37.out hbwq; have F50 : Hid (RdS wq (.slice a l.length cap) l) := F38.out.below hbwq; have F51 : Hid (RdM wq (.slice a_1 (ruM m l).vol.length c_1) (.slice b_1 (ruM m l).per.length d_1) (.slice p_1 (ruM m l).pend.length q_1) (ruM m l)) := F39.out.below hbwq; have F52 : Hid (Bo wq w_1.heap.size (.slice a_1 (ruM m l).vol.length c_1) (.slice b_1 (ruM m l).per.length d_1) (.slice p_1 (ruM m l).pend.length q_1)) := F40.out.below hbwq; clear hbwq; obtain ⟨⟨c53, c54, c55⟩, -⟩ := F48.out.bx; obtain ⟨⟨c56, c57, c58⟩, -⟩ := F52.out.bx; clear c41 c42 c43 c44 c45 c46; clear F35 F36 F37 F38 F39 F40))
  go_ret
  exact ⟨rfl, F49.out⟩

set_option maxRecDepth 100000 in
set_option maxHeartbeats 16000000 in
theorem seen_c (a1 a2 a3 a : Option Addr) (c1 c2 c3 cap : Nat) (l : List Mi) (w : World) (m : Mm) (HB : Hid (Below w.heap.size w (w.alloc (.cells #[.slice a1 m.vol.length c1, .slice a2 m.per.length c2, .slice a3 m.pend.length c3] 25)))) (HX : Hid (Bo (w.alloc (.cells #[.slice a1 m.vol.length c1, .slice a2 m.per.length c2, .slice a3 m.pend.length c3] 25)) w.heap.size (.slice a1 m.vol.length c1) (.slice a2 m.per.length c2) (.slice a3 m.pend.length c3))) (HR : Hid (RdM (w.alloc (.cells #[.slice a1 m.vol.length c1, .slice a2 m.per.length c2, .slice a3 m.pend.length c3] 25)) (.slice a1 m.vol.length c1) (.slice a2 m.per.length c2) (.slice a3 m.pend.length c3) m)) (HS : Hid (RdS (w.alloc (.cells #[.slice a1 m.vol.length c1, .slice a2 m.per.length c2, .slice a3 m.pend.length c3] 25)) (.slice a l.length cap) l)) (hfew : fewB m.vol.length m.per.length m.pend.length = true) (hp : m.pend.length ≤ 100) (hl : (l.length : Int) ≤ 100) (hv : m.vol.length ≤ 300) (Hmr : Hid (mrB m l = true)) : Calls Try.prog 6 #[.agg #[.slice a1 m.vol.length c1, .slice a2 m.per.length c2, .slice a3 m.pend.length c3], .slice a l.length cap] w fun e w' => e = .returned (.bool true) ∧ Below w.heap.size w w' := by
  have hp1 : m.pend.length + l.length ≤ 900 := by omega
  have he : ruE m l = 0 := ruE_yes Hmr.out
  have t0 : Hid (0 = 0) := rfl
  have t1 : Hid (0 = 0) := rfl
  have t2 : Hid (0 = 0) := rfl
  go_enter Try.func6, Try.ntmps6
  go_wp2_with (first
    | (go_at_call 8; clear t0; refine (awake_any _).mono ?_; rintro e w0 ⟨rfl, hb0⟩; have F1 : Hid (RdM w0 (.slice a1 m.vol.length c1) (.slice a2 m.per.length c2) (.slice a3 m.pend.length c3) m) := HR.out.below hb0; have F2 : Hid (Bo w0 w.heap.size (.slice a1 m.vol.length c1) (.slice a2 m.per.length c2) (.slice a3 m.pend.length c3)) := HX.out.below hb0; have F3 : Hid (Below w.heap.size w w0) := bstep HB.out hb0; have F4 : Hid (RdS w0 (.slice a l.length cap) l) := HS.out.below hb0; clear hb0; obtain ⟨⟨c5, c6, c7⟩, -⟩ := F2.out.bx; clear HR HX HB HS)
    | (go_at_call 9; clear t1; refine (few_any _ _ _ _ _ _ _ _ _ _).mono ?_; rintro e wf ⟨rfl, hbf⟩; have F8 : Hid (RdM wf (.slice a1 m.vol.length c1) (.slice a2 m.per.length c2) (.slice a3 m.pend.length c3) m) := F1.out.below hbf; have F9 : Hid (Bo wf w.heap.size (.slice a1 m.vol.length c1) (.slice a2 m.per.length c2) (.slice a3 m.pend.length c3)) := F2.out.below hbf; have F10 : Hid (Below w.heap.size w wf) := bstep F3.out hbf; have F11 : Hid (RdS wf (.slice a l.length cap) l) := F4.out.below hbf; clear hbf; obtain ⟨⟨c12, c13, c14⟩, -⟩ := F9.out.bx; clear c5 c6 c7; clear F1 F2 F3 F4)
    | (go_at_call 10; clear t2; refine (run_any _ _ _ _ m l _ F8.out F11.out hp1).mono ?_; rintro e w_1 ⟨v_1a, v_1b, v_1c, rfl, R_1, hb_1⟩; have R_1 : RdM w_1 v_1a v_1b v_1c (ruM m l) := R_1; obtain ⟨a_1, c_1, b_1, d_1, p_1, q_1, rfl, rfl, rfl⟩ := R_1.forms; have F15 : Hid (RdM w_1 (.slice a1 m.vol.length c1) (.slice a2 m.per.length c2) (.slice a3 m.pend.length c3) m) := F8.out.below hb_1; have F16 : Hid (Bo w_1 w.heap.size (.slice a1 m.vol.length c1) (.slice a2 m.per.length c2) (.slice a3 m.pend.length c3)) := F9.out.below hb_1; have F17 : Hid (Below w.heap.size w w_1) := bstep F10.out hb_1; have F18 : Hid (RdS w_1 (.slice a l.length cap) l) := F11.out.below hb_1; have F19 : Hid (RdM w_1 (.slice a_1 (ruM m l).vol.length c_1) (.slice b_1 (ruM m l).per.length d_1) (.slice p_1 (ruM m l).pend.length q_1) (ruM m l)) := R_1; clear R_1 hb_1; have lt20 : w.heap.size < w_1.heap.size := F16.out.lt; have lt21 : w.heap.size ≤ w_1.heap.size := F17.out.size; have hb22 : Below w_1.heap.size w_1 (w_1.alloc (.cells #[.slice a_1 (ruM m l).vol.length c_1, .slice b_1 (ruM m l).per.length d_1, .slice p_1 (ruM m l).pend.length q_1] 25)) := (Below.refl _ _).alloc (Nat.le_refl _) _; have F23 : Hid (RdM (w_1.alloc (.cells #[.slice a_1 (ruM m l).vol.length c_1, .slice b_1 (ruM m l).per.length d_1, .slice p_1 (ruM m l).pend.length q_1] 25)) (.slice a1 m.vol.length c1) (.slice a2 m.per.length c2) (.slice a3 m.pend.length c3) m) := F15.out.below hb22; have F24 : Hid (Bo (w_1.alloc (.cells #[.slice a_1 (ruM m l).vol.length c_1, .slice b_1 (ruM m l).per.length d_1, .slice p_1 (ruM m l).pend.length q_1] 25)) w.heap.size (.slice a1 m.vol.length c1) (.slice a2 m.per.length c2) (.slice a3 m.pend.length c3)) := F16.out.below hb22; have F25 : Hid (Below w.heap.size w (w_1.alloc (.cells #[.slice a_1 (ruM m l).vol.length c_1, .slice b_1 (ruM m l).per.length d_1, .slice p_1 (ruM m l).pend.length q_1] 25))) := bstep F17.out hb22; have F26 : Hid (RdS (w_1.alloc (.cells #[.slice a_1 (ruM m l).vol.length c_1, .slice b_1 (ruM m l).per.length d_1, .slice p_1 (ruM m l).pend.length q_1] 25)) (.slice a l.length cap) l) := F18.out.below hb22; have F27 : Hid (RdM (w_1.alloc (.cells #[.slice a_1 (ruM m l).vol.length c_1, .slice b_1 (ruM m l).per.length d_1, .slice p_1 (ruM m l).pend.length q_1] 25)) (.slice a_1 (ruM m l).vol.length c_1) (.slice b_1 (ruM m l).per.length d_1) (.slice p_1 (ruM m l).pend.length q_1) (ruM m l)) := F19.out.below hb22; have F28 : Hid (Bo (w_1.alloc (.cells #[.slice a_1 (ruM m l).vol.length c_1, .slice b_1 (ruM m l).per.length d_1, .slice p_1 (ruM m l).pend.length q_1] 25)) w_1.heap.size (.slice a_1 (ruM m l).vol.length c_1) (.slice b_1 (ruM m l).per.length d_1) (.slice p_1 (ruM m l).pend.length q_1)) := Bo.new w_1 _ _ _; obtain ⟨⟨c29, c30, c31⟩, -⟩ := F24.out.bx; obtain ⟨⟨c32, c33, c34⟩, -⟩ := F28.out.bx; clear c12 c13 c14; clear F8 F9 F10 F11 F15 F16 F17 F18 F19)
    | (at_builtin; refine append_rdc rfl _ _ 22 rfl (w_1.alloc (.cells #[.slice a_1 (ruM m l).vol.length c_1, .slice b_1 (ruM m l).per.length d_1, .slice p_1 (ruM m l).pend.length q_1] 25)).heap.size 3 1 _ 8 Try.underlying22 Try.info3 rfl (by decide) (by decide) _ 0 [] rfl (own_mt (w_1.alloc (.cells #[.slice a_1 (ruM m l).vol.length c_1, .slice b_1 (ruM m l).per.length d_1, .slice p_1 (ruM m l).pend.length q_1] 25)) (by simp)) _ m.vol.length _ rfl (F23.out.vol.below ((Below.refl _ (w_1.alloc (.cells #[.slice a_1 (ruM m l).vol.length c_1, .slice b_1 (ruM m l).per.length d_1, .slice p_1 (ruM m l).pend.length q_1] 25))).alloc (Nat.le_refl _) _)) (ints_one m.vol) (by omega) (by simp) ?_; intro v8 w8 o8 g8; have HB8 : Hid (Below (w_1.alloc (.cells #[.slice a_1 (ruM m l).vol.length c_1, .slice b_1 (ruM m l).per.length d_1, .slice p_1 (ruM m l).pend.length q_1] 25)).heap.size (w_1.alloc (.cells #[.slice a_1 (ruM m l).vol.length c_1, .slice b_1 (ruM m l).per.length d_1, .slice p_1 (ruM m l).pend.length q_1] 25)) w8) := ((Below.refl _ (w_1.alloc (.cells #[.slice a_1 (ruM m l).vol.length c_1, .slice b_1 (ruM m l).per.length d_1, .slice p_1 (ruM m l).pend.length q_1] 25))).alloc (Nat.le_refl _) _).grown g8 (by simp) (by intro q hq; cases hq; simp); rw [Nat.zero_add] at o8; have HO8 : Hid (OwnI w8 (w_1.alloc (.cells #[.slice a_1 (ruM m l).vol.length c_1, .slice b_1 (ruM m l).per.length d_1, .slice p_1 (ruM m l).pend.length q_1] 25)).heap.size v8 m.vol) := o8; obtain ⟨a8, c8, rfl⟩ := HO8.out.form; clear o8 g8 c29 c30 c31 c32 c33 c34))
  generalize (w_1.alloc (.cells #[.slice a_1 (ruM m l).vol.length c_1, .slice b_1 (ruM m l).per.length d_1, .slice p_1 (ruM m l).pend.length q_1] 25)) = WL at F23 F24 F25 F26 F27 F28 HB8 HO8 ⊢
  generalize w_1.heap.size = ba at F28 ⊢
  go_loopw [9] (fun i w4 => ∃ k : Nat, k ≤ l.length ∧ i = .int .i64 k ∧ Below WL.heap.size WL w4 ∧ OwnI w4 WL.heap.size (.slice a8 m.vol.length c8) (runM m (l.take k)).vol) (fun i _ => l.length - (intOf i).toNat)
  case atStart => exact ⟨0, Nat.zero_le _, rfl, HB8.out, HO8.out⟩
  case round =>
    obtain ⟨k, hk, rfl, hbel, hO⟩ := hrel
    have HBr : Hid (Below WL.heap.size WL wr) := hbel
    have HOr : Hid (OwnI wr WL.heap.size (.slice a8 m.vol.length c8) (runM m (l.take k)).vol) := hO
    have HSr : Hid (RdS wr (.slice a l.length cap) l) := F26.out.below hbel
    clear hbel hO
    by_cases hlt : k < l.length
    · have hltI : (k : Int) < (l.length : Int) := by omega
      obtain ⟨x, hx⟩ : ∃ x, l[k]? = some x := ⟨_, List.getElem?_eq_getElem hlt⟩
      obtain ⟨xk, xa, xv⟩ := x
      have Hx : Hid (l[k]? = some ⟨xk, xa, xv⟩) := hx
      obtain ⟨blk, off, rfl, s0, s1, s2⟩ := HSr.out.get hx
      have hmi := (chB_all (mrB_out Hmr.out).2).2 _ (List.mem_of_getElem? hx)
      have hok := ok_true (ok_run (mrB_out Hmr.out).1 (l.take k))
      clear hx
      dsimp only at s0 s1 s2
      rcases miB_kind hmi with k1 | k1
      · dsimp only at k1
        subst k1
        rw [miB_one rfl] at hmi
        have hin := of_decide_eq_true hmi
        dsimp only at hin
        obtain ⟨q, rfl⟩ := Int.eq_ofNat_of_zero_le hin.1
        have hqv : q < (runM m (l.take k)).vol.length := by rw [(run_len m (l.take k)).1]; omega
        have hqI : (q : Int) < (m.vol.length : Int) := hin.2
        have Hn : Hid ((runM m (l.take (k + 1))).vol = (runM m (l.take k)).vol.set q xv) := by (show _ = _; rw [runM_next Hx.out, doM_one rfl]; rw [putM_yes (putB_yes hok hin.1 (by rw [(run_len m (l.take k)).1]; exact hin.2))]; rfl)
        obtain ⟨g, hg, hg1, hg2, ⟨hc, hf⟩, hset⟩ := HOr.out.put hqv
        subst hg
        have HO7 : Hid (OwnI (wr.drew.setCell ⟨g, q, none⟩ (.int .i64 xv)) WL.heap.size (.slice (some ⟨g, 0, none⟩) m.vol.length c8) ((runM m (l.take k)).vol.set q xv)) := hset xv
        have HB7 : Hid (Below WL.heap.size WL (wr.drew.setCell ⟨g, q, none⟩ (.int .i64 xv))) := (HBr.out.drew).setCell (p := ⟨g, q, none⟩) hg1 _
        have HS0 : Hid (wr.drew.cell? ⟨blk, off + k * 3 + 1, none⟩ = some (.int .i64 (q : Int)) ∧ wr.drew.cell? ⟨blk, off + k * 3 + 2, none⟩ = some (.int .i64 xv)) := ⟨s1, s2⟩
        have HS7 : Hid ((wr.drew.setCell ⟨g, q, none⟩ (.int .i64 xv)).cell? ⟨blk, off + k * 3 + 1, none⟩ = some (.int .i64 (q : Int)) ∧ (wr.drew.setCell ⟨g, q, none⟩ (.int .i64 xv)).cell? ⟨blk, off + k * 3 + 2, none⟩ = some (.int .i64 xv)) := ((F26.out.below HB7.out).cells Hx.out).2
        clear hset hmi hin hok
        go_wp2
        go_region_held3 (fun W => W.cell? ⟨blk, off + k * 3 + 1, none⟩ = some (.int .i64 (q : Int)) ∧ W.cell? ⟨blk, off + k * 3 + 2, none⟩ = some (.int .i64 xv))
          (first | exact HS0.out | exact HS7.out)
          (fail)
        go_wp2
        go_roundw
        case rel => exact ⟨k + 1, by omega, by go_num, HB7.out, by rw [Hn.out]; exact HO7.out⟩
        case measure => simp [intOf]; omega
      · dsimp only at k1
        subst k1
        have Hn : Hid ((runM m (l.take (k + 1))).vol = (runM m (l.take k)).vol) := by (show _ = _; rw [runM_next Hx.out, doM_two rfl, vol_fen, vol_flu])
        clear hmi hok
        go_wp2
        go_roundw
        case rel => exact ⟨k + 1, by omega, by go_num, HBr.out, by rw [Hn.out]; exact HOr.out⟩
        case measure => simp [intOf]; omega
    · have Hk : Hid ((runM m (l.take k)).vol = (ruM m l).vol) := by (show _ = _; rw [List.take_of_length_le (by omega), ruM_yes Hmr.out])
      have hd : decide ((ruM m l).vol = (ruM m l).vol) = true := decide_eq_true rfl
      have HO9 : Hid (OwnI wr WL.heap.size (.slice a8 m.vol.length c8) (ruM m l).vol) := by (show OwnI _ _ _ _; rw [← Hk.out]; exact HOr.out)
      have hl9 : (ruM m l).vol.length ≤ 1000 := by rw [(ru_len m l).1]; omega
      obtain ⟨⟨p0, p1, p2⟩, -⟩ := (F28.out.below HBr.out).bx
      go_wp2_with (first
        | (go_at_call 17; refine (numbers_any _ _ (ruM m l).vol (ruM m l).vol _ ((F27.out.below HBr.out).vol) (HO9.out.rd hl9)).mono ?_; rintro e w9 ⟨rfl, hb9⟩))
      go_ret
      exact ⟨ret_bool (by simp), bstep (bstep F25.out HBr.out) hb9⟩

set_option maxRecDepth 100000 in
set_option maxHeartbeats 4000000 in
theorem walk_MicroSeen (a1 a2 a3 : Option Addr) (n1 n2 n3 c1 c2 c3 : Nat) (a : Option Addr) (nl cap : Nat) (w : World) (hm : MemIn w a1 a2 a3 n1 n2 n3 c1 c2 c3) (hs : StIn w a nl cap) :
    Calls Try.prog 6 #[.agg #[.slice a1 n1 c1, .slice a2 n2 c2, .slice a3 n3 c3], .slice a nl cap] w fun e w' => e = .returned (.bool true) ∧ Below w.heap.size w w' := by
  have HB : Hid (Below w.heap.size w (w.alloc (.cells #[.slice a1 n1 c1, .slice a2 n2 c2, .slice a3 n3 c3] 25))) := (Below.refl _ _).alloc (Nat.le_refl _) _
  have HX : Hid (Bo (w.alloc (.cells #[.slice a1 n1 c1, .slice a2 n2 c2, .slice a3 n3 c3] 25)) w.heap.size (.slice a1 n1 c1) (.slice a2 n2 c2) (.slice a3 n3 c3)) := Bo.new w _ _ _
  by_cases h : n1 ≤ 300 ∧ n2 ≤ 300 ∧ n3 ≤ 100
  · obtain ⟨h1, h2, h3⟩ := h
    have hfew : fewB n1 n2 n3 = true := decide_eq_true ⟨h1, h2, h3⟩
    by_cases hnl : (nl : Int) ≤ 100
    · obtain ⟨m, rfl, rfl, rfl, hR⟩ := hm h1 h2 h3
      obtain ⟨l, rfl, hcap, hS⟩ := hs (by omega)
      cases e1 : ok m
      · exact seen_a a1 a2 a3 a c1 c2 c3 cap l w m HB HX (hR.below HB.out) (hS.below HB.out) hfew h3 hnl h1 e1
      · cases e2 : chB l (m.vol.length : Int)
        · exact seen_b a1 a2 a3 a c1 c2 c3 cap l w m HB HX (hR.below HB.out) (hS.below HB.out) hfew h3 hnl h1 e1 e2
        · exact seen_c a1 a2 a3 a c1 c2 c3 cap l w m HB HX (hR.below HB.out) (hS.below HB.out) hfew h3 hnl h1 (by (show mrB m l = true; unfold mrB; rw [e1, e2]; rfl))
    · clear hm hs
      go_enter Try.func6, Try.ntmps6
      go_wp2_with (first
        | (go_at_call 8; refine (awake_any _).mono ?_; rintro e w0 ⟨rfl, hb0⟩; have HX0 : Hid (Bo w0 _ _ _ _) := HX.out.below hb0; obtain ⟨⟨x0, x1, x2⟩, _⟩ := HX0.out.bx; have HB0 : Hid (Below w.heap.size w w0) := bstep HB.out hb0)
        | (go_at_call 9; refine (few_any _ _ _ _ _ _ _ _ _ _).mono ?_; rintro e wf ⟨rfl, hbf⟩))
      go_ret
      exact ⟨rfl, bstep HB0.out hbf⟩
  · have hfew : fewB n1 n2 n3 = false := decide_eq_false h
    clear hm hs
    go_enter Try.func6, Try.ntmps6
    go_wp2_with (first
      | (go_at_call 8; refine (awake_any _).mono ?_; rintro e w0 ⟨rfl, hb0⟩; have HX0 : Hid (Bo w0 _ _ _ _) := HX.out.below hb0; obtain ⟨⟨x0, x1, x2⟩, _⟩ := HX0.out.bx; have HB0 : Hid (Below w.heap.size w w0) := bstep HB.out hb0)
      | (go_at_call 9; refine (few_any _ _ _ _ _ _ _ _ _ _).mono ?_; rintro e wf ⟨rfl, hbf⟩))
    go_ret
    exact ⟨rfl, bstep HB0.out hbf⟩
end Go.Proofs.Ythibgmndgkhfiaa
