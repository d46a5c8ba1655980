/- Walks of layer 5's statements: steps in two parts. -/
import Derived.Test.YthibgmndgkhfiaaStepin
import Derived.Test.YthibgmndgkhfiaaLawc
namespace Go.Proofs.Ythibgmndgkhfiaa
open Go.RowKit Go.Shelf
set_option linter.unusedVariables false

theorem slice_from {a : Option Addr} {n cap : Nat} (q : Nat) (h : q ≤ n) (W : World) : (Instr.slice 26 (.slice a n cap) (some (.int .i64 (q : Int))) none none).run Try.prog W = .ok (.slice (if cap = q then a else a.map (·.add (q * 3))) (n - q) (cap - q)) W := by
  simp [Instr.slice, Instr.sliceBounds, Instr.sliceBound, run_underlying Try.underlying26, Result.andThen, h, asIntOf, Try.sizeOf28]
theorem RdS.drop {W : World} {a : Option Addr} {cap : Nat} {l : List Mi} (h : RdS W (.slice a l.length cap) l) (hcap : l.length ≤ cap) {q : Nat} (hq : q ≤ l.length) : RdS W (.slice (if cap = q then a else a.map (·.add (q * 3))) (l.length - q) (cap - q)) (l.drop q) := by
  have hl : (l.drop q).length = l.length - q := by rw [List.length_drop]
  obtain ⟨h1, h2, a', cap', e, h3⟩ := h
  cases e
  refine ⟨mcs_length _, by omega, _, _, by rw [hl], ?_⟩
  rw [hl]
  rcases h3 with ⟨h0, hn⟩ | ⟨b, off, rfl, hlt, hc⟩
  · refine .inl ⟨by omega, fun hz => ?_⟩
    have : a = none := by
      by_cases hcq : cap = q
      · rw [if_pos hcq] at hz; exact hz
      · rw [if_neg hcq] at hz; exact Option.map_eq_none_iff.1 hz
    have := hn this
    omega
  · by_cases hcq : cap = q
    · rw [if_pos hcq]
      exact .inl ⟨by omega, fun hz => by cases hz⟩
    · rw [if_neg hcq]
      refine .inr ⟨b, off + q * 3, by simp [Addr.add], hlt, fun j u hj => ?_⟩
      have e2 : mcs l = mcs (l.take q) ++ mcs (l.drop q) := by rw [← mcs_append, List.take_append_drop]
      have e3 : (mcs (l.take q)).length = q * 3 := by rw [mcs_length, List.length_take, Nat.min_eq_left hq]
      have := hc (q * 3 + j) u (by rw [e2, List.getElem?_append_right (by omega), e3, Nat.add_sub_cancel_left]; exact hj)
      rwa [← Nat.add_assoc] at this
/-- What becomes of the two parts. -/
theorem parts_ways (m : Mm) (l : List Mi) (q : Nat) : (ruE m l = 0 ∧ ruE m (l.take q) = 0 ∧ ruE (ruM m (l.take q)) (l.drop q) = 0 ∧ sameB (ruM m l) (ruM (ruM m (l.take q)) (l.drop q)) = true ∧ ok (ruM m l) = true) ∨ (ruE m l = 40 ∧ ruE m (l.take q) = 40 ∧ sameB (ruM m l) m = true) ∨ (ruE m l = 40 ∧ ruE m (l.take q) = 0 ∧ ruE (ruM m (l.take q)) (l.drop q) = 40 ∧ sameB (ruM m l) m = true) := by
  have hap : mrB m l = (mrB m (l.take q) && mrB m (l.drop q)) := by rw [← mr_append, List.take_append_drop]
  cases h : mrB m l
  · cases ht : mrB m (l.take q)
    · exact .inr (.inl ⟨ruE_no h, ruE_no ht, by rw [ruM_no h]; exact same_yes ⟨rfl, rfl, rfl⟩⟩)
    · rw [h, ht] at hap
      have hd : mrB m (l.drop q) = false := by simpa using hap.symm
      refine .inr (.inr ⟨ruE_no h, ruE_yes ht, ruE_no ?_, by rw [ruM_no h]; exact same_yes ⟨rfl, rfl, rfl⟩⟩)
      rw [ruM_yes ht, mr_same (ok_true (mrB_out ht).1)]
      exact hd
  · have ht := mr_take h q
    have hd := mr_drop h q
    have h1 := ok_true (mrB_out h).1
    have hd2 : mrB (runM m (l.take q)) (l.drop q) = true := by rw [mr_same h1]; exact hd
    refine .inl ⟨ruE_yes h, ruE_yes ht, by rw [ruM_yes ht]; exact ruE_yes hd2, ?_, by rw [ruM_yes h]; exact ok_true (ok_run (mrB_out h).1 l)⟩
    have : (ruM m l) = (ruM (ruM m (l.take q)) (l.drop q)) := by rw [ruM_yes h, ruM_yes ht, ruM_yes hd2, ← runM_append, List.take_append_drop]
    rw [← this]
    exact same_yes ⟨rfl, rfl, rfl⟩

set_option maxRecDepth 100000 in
set_option maxHeartbeats 16000000 in
theorem parts_b (a1 a2 a3 a : Option Addr) (c1 c2 c3 cap : Nat) (cu : Int) (q : Nat) (l : List Mi) (w : World) (m : Mm) (HB : Hid (Below w.heap.size w (w.alloc (.cells #[.slice a1 m.vol.length c1, .slice a2 m.per.length c2, .slice a3 m.pend.length c3] 25)))) (HX : Hid (Bo (w.alloc (.cells #[.slice a1 m.vol.length c1, .slice a2 m.per.length c2, .slice a3 m.pend.length c3] 25)) w.heap.size (.slice a1 m.vol.length c1) (.slice a2 m.per.length c2) (.slice a3 m.pend.length c3))) (HR : Hid (RdM (w.alloc (.cells #[.slice a1 m.vol.length c1, .slice a2 m.per.length c2, .slice a3 m.pend.length c3] 25)) (.slice a1 m.vol.length c1) (.slice a2 m.per.length c2) (.slice a3 m.pend.length c3) m)) (HS : Hid (RdS (w.alloc (.cells #[.slice a1 m.vol.length c1, .slice a2 m.per.length c2, .slice a3 m.pend.length c3] 25)) (.slice a l.length cap) l)) (hfew : fewB m.vol.length m.per.length m.pend.length = true) (hp : m.pend.length ≤ 100) (hcap : l.length ≤ cap) (hl : (l.length : Int) ≤ 100) (hu0 : 0 ≤ cu) (hu1 : cu < 256) (hcu : cu % ((l.length : Int) + 1) = (q : Int)) (hq : q ≤ l.length) : Calls Try.prog 4 #[.agg #[.slice a1 m.vol.length c1, .slice a2 m.per.length c2, .slice a3 m.pend.length c3], .slice a l.length cap, .int .u8 cu] w fun e w' => e = .returned (.bool true) ∧ Below w.heap.size w w' := by
  have hp1 : m.pend.length + l.length ≤ 900 := by omega
  have hp2 : m.pend.length + (l.take q).length ≤ 900 := by rw [List.length_take]; omega
  have hp3 : (ruM m (l.take q)).pend.length + (l.drop q).length ≤ 900 := by have := (ru_len m (l.take q)).2.2; rw [List.length_take] at this; rw [List.length_drop]; omega
  have hcase := parts_ways m l q
  have slt : ∀ W, (Instr.slice 26 (.slice a l.length cap) none (some (.int .i64 (q : Int))) none).run Try.prog W = .ok (.slice a q cap) W := fun W => slice_to q (by omega) W
  obtain ⟨ad, had⟩ : ∃ ad, ad = (if cap = q then a else a.map (·.add (q * 3))) := ⟨_, rfl⟩
  have slf : ∀ W, (Instr.slice 26 (.slice a l.length cap) (some (.int .i64 (q : Int))) none none).run Try.prog W = .ok (.slice ad (l.length - q) (cap - q)) W := fun W => by rw [had]; exact slice_from q hq W
  have Hdr : Hid (∀ W, RdS W (.slice a l.length cap) l → RdS W (.slice ad (l.length - q) (cap - q)) (l.drop q)) := fun W h => by rw [had]; exact h.drop hcap hq
  clear had
  have t0 : Hid (0 = 0) := rfl
  have t1 : Hid (0 = 0) := rfl
  have t2 : Hid (0 = 0) := rfl
  go_enter Try.func4, Try.ntmps4
  go_wp2_with (first
    | (go_at_call 8; clear t0; refine (awake_any _).mono ?_; rintro e w0 ⟨rfl, hb0⟩; have F1 : Hid (RdM w0 (.slice a1 m.vol.length c1) (.slice a2 m.per.length c2) (.slice a3 m.pend.length c3) m) := HR.out.below hb0; have F2 : Hid (Bo w0 w.heap.size (.slice a1 m.vol.length c1) (.slice a2 m.per.length c2) (.slice a3 m.pend.length c3)) := HX.out.below hb0; have F3 : Hid (Below w.heap.size w w0) := bstep HB.out hb0; have F4 : Hid (RdS w0 (.slice a l.length cap) l) := HS.out.below hb0; clear hb0; obtain ⟨⟨c5, c6, c7⟩, -⟩ := F2.out.bx; clear HR HX HB HS)
    | (go_at_call 9; clear t1; refine (few_any _ _ _ _ _ _ _ _ _ _).mono ?_; rintro e wf ⟨rfl, hbf⟩; have F8 : Hid (RdM wf (.slice a1 m.vol.length c1) (.slice a2 m.per.length c2) (.slice a3 m.pend.length c3) m) := F1.out.below hbf; have F9 : Hid (Bo wf w.heap.size (.slice a1 m.vol.length c1) (.slice a2 m.per.length c2) (.slice a3 m.pend.length c3)) := F2.out.below hbf; have F10 : Hid (Below w.heap.size w wf) := bstep F3.out hbf; have F11 : Hid (RdS wf (.slice a l.length cap) l) := F4.out.below hbf; clear hbf; obtain ⟨⟨c12, c13, c14⟩, -⟩ := F9.out.bx; clear c5 c6 c7; clear F1 F2 F3 F4)
    | (go_at_call 10; clear t2; refine (run_any _ _ _ _ m l _ F8.out F11.out hp1).mono ?_; rintro e w_1 ⟨v_1a, v_1b, v_1c, rfl, R_1, hb_1⟩; have R_1 : RdM w_1 v_1a v_1b v_1c (ruM m l) := R_1; obtain ⟨a_1, c_1, b_1, d_1, p_1, q_1, rfl, rfl, rfl⟩ := R_1.forms; have F15 : Hid (RdM w_1 (.slice a1 m.vol.length c1) (.slice a2 m.per.length c2) (.slice a3 m.pend.length c3) m) := F8.out.below hb_1; have F16 : Hid (Bo w_1 w.heap.size (.slice a1 m.vol.length c1) (.slice a2 m.per.length c2) (.slice a3 m.pend.length c3)) := F9.out.below hb_1; have F17 : Hid (Below w.heap.size w w_1) := bstep F10.out hb_1; have F18 : Hid (RdS w_1 (.slice a l.length cap) l) := F11.out.below hb_1; have F19 : Hid (RdM w_1 (.slice a_1 (ruM m l).vol.length c_1) (.slice b_1 (ruM m l).per.length d_1) (.slice p_1 (ruM m l).pend.length q_1) (ruM m l)) := R_1; clear R_1 hb_1; have lt20 : w.heap.size < w_1.heap.size := F16.out.lt; have lt21 : w.heap.size ≤ w_1.heap.size := F17.out.size; have hb22 : Below w_1.heap.size w_1 (w_1.alloc (.cells #[.slice a_1 (ruM m l).vol.length c_1, .slice b_1 (ruM m l).per.length d_1, .slice p_1 (ruM m l).pend.length q_1] 25)) := (Below.refl _ _).alloc (Nat.le_refl _) _; have F23 : Hid (RdM (w_1.alloc (.cells #[.slice a_1 (ruM m l).vol.length c_1, .slice b_1 (ruM m l).per.length d_1, .slice p_1 (ruM m l).pend.length q_1] 25)) (.slice a1 m.vol.length c1) (.slice a2 m.per.length c2) (.slice a3 m.pend.length c3) m) := F15.out.below hb22; have F24 : Hid (Bo (w_1.alloc (.cells #[.slice a_1 (ruM m l).vol.length c_1, .slice b_1 (ruM m l).per.length d_1, .slice p_1 (ruM m l).pend.length q_1] 25)) w.heap.size (.slice a1 m.vol.length c1) (.slice a2 m.per.length c2) (.slice a3 m.pend.length c3)) := F16.out.below hb22; have F25 : Hid (Below w.heap.size w (w_1.alloc (.cells #[.slice a_1 (ruM m l).vol.length c_1, .slice b_1 (ruM m l).per.length d_1, .slice p_1 (ruM m l).pend.length q_1] 25))) := bstep F17.out hb22; have F26 : Hid (RdS (w_1.alloc (.cells #[.slice a_1 (ruM m l).vol.length c_1, .slice b_1 (ruM m l).per.length d_1, .slice p_1 (ruM m l).pend.length q_1] 25)) (.slice a l.length cap) l) := F18.out.below hb22; have F27 : Hid (RdM (w_1.alloc (.cells #[.slice a_1 (ruM m l).vol.length c_1, .slice b_1 (ruM m l).per.length d_1, .slice p_1 (ruM m l).pend.length q_1] 25)) (.slice a_1 (ruM m l).vol.length c_1) (.slice b_1 (ruM m l).per.length d_1) (.slice p_1 (ruM m l).pend.length q_1) (ruM m l)) := F19.out.below hb22; have F28 : Hid (Bo (w_1.alloc (.cells #[.slice a_1 (ruM m l).vol.length c_1, .slice b_1 (ruM m l).per.length d_1, .slice p_1 (ruM m l).pend.length q_1] 25)) w_1.heap.size (.slice a_1 (ruM m l).vol.length c_1) (.slice b_1 (ruM m l).per.length d_1) (.slice p_1 (ruM m l).pend.length q_1)) := Bo.new w_1 _ _ _; obtain ⟨⟨c29, c30, c31⟩, -⟩ := F24.out.bx; obtain ⟨⟨c32, c33, c34⟩, -⟩ := F28.out.bx; clear c12 c13 c14; clear F8 F9 F10 F11 F15 F16 F17 F18 F19))
  clear c29 c30 c31 c32 c33 c34
  generalize (w_1.alloc (.cells #[.slice a_1 (ruM m l).vol.length c_1, .slice b_1 (ruM m l).per.length d_1, .slice p_1 (ruM m l).pend.length q_1] 25)) = WL at F23 F24 F25 F26 F27 F28 ⊢
  generalize w_1.heap.size = ba at F28 ⊢
  have lt35 : Hid (w.heap.size ≠ WL.heap.size) := Nat.ne_of_lt F24.out.lt
  have lt36 : Hid (w.heap.size ≤ WL.heap.size) := F25.out.size
  have lt37 : Hid (ba ≠ WL.heap.size) := Nat.ne_of_lt F28.out.lt
  obtain ⟨⟨z0, z1, z2⟩, -⟩ := F24.out.bx
  have HS0 : Hid (WL.drew.cell? ⟨w.heap.size, 0, none⟩ = some (.slice a1 m.vol.length c1) ∧ WL.drew.cell? ⟨w.heap.size, 1, none⟩ = some (.slice a2 m.per.length c2) ∧ WL.drew.cell? ⟨w.heap.size, 2, none⟩ = some (.slice a3 m.pend.length c3)) := ⟨z0, z1, z2⟩
  go_region_held3 (fun W => W.cell? ⟨w.heap.size, 0, none⟩ = some (.slice a1 m.vol.length c1) ∧ W.cell? ⟨w.heap.size, 1, none⟩ = some (.slice a2 m.per.length c2) ∧ W.cell? ⟨w.heap.size, 2, none⟩ = some (.slice a3 m.pend.length c3))
    (first | exact HS0.out | (with_reducible exact keep9 (F24.out.below H6.out) lt35.out _ _ _) | exact (F24.out.below (by ((repeat (first | exact Below.refl _ _ | exact H6.out | with_reducible refine Below.dr ?_ | with_reducible refine Below.al _ ?_)); all_goals fail))).bx.1)
    (first
    | (go_at_call 10; refine (run_any _ _ _ _ m (l.take q) _ (F23.out.below (by ((repeat (first | exact Below.refl _ _ | with_reducible refine Below.dr ?_ | with_reducible refine Below.al _ ?_)); all_goals fail))) ((RdS.take F26.out hq).below (by ((repeat (first | exact Below.refl _ _ | with_reducible refine Below.dr ?_ | with_reducible refine Below.al _ ?_)); all_goals fail))) hp2).mono ?_; rintro e wA6 ⟨v1, v2, v3, rfl, R6, hb6⟩; have R6 : RdM wA6 v1 v2 v3 (ruM m (l.take q)) := R6; obtain ⟨gA1, hA1, gA2, hA2, gA3, hA3, rfl, rfl, rfl⟩ := R6.forms; have H6 : Hid (Below WL.heap.size WL wA6) := bstep (by ((repeat (first | exact Below.refl _ _ | with_reducible refine Below.dr ?_ | with_reducible refine Below.al _ ?_)); all_goals fail)) hb6; (try (have HZ6 : Hid (Bo wA6 WL.heap.size (.slice none 0 0) (.slice none 0 0) (.slice none 0 0)) := hp_below hb6 (hp_new rfl); obtain ⟨⟨t0, t1, t2⟩, tf0, tf1, tf2⟩ := HZ6.out.bx)); have HR6 : Hid (RdM wA6 (.slice gA1 (ruM m (l.take q)).vol.length hA1) (.slice gA2 (ruM m (l.take q)).per.length hA2) (.slice gA3 (ruM m (l.take q)).pend.length hA3) (ruM m (l.take q))) := R6; clear R6 hb6))
  · have b7 : Below WL.heap.size WL (wA6.alloc (.cells #[.slice gA1 (ruM m (l.take q)).vol.length hA1, .slice gA2 (ruM m (l.take q)).per.length hA2, .slice gA3 (ruM m (l.take q)).pend.length hA3] 25)) := bstep H6.out ((Below.refl _ _).alloc (Nat.le_refl _) _)
    have F38 : Hid (RdM (wA6.alloc (.cells #[.slice gA1 (ruM m (l.take q)).vol.length hA1, .slice gA2 (ruM m (l.take q)).per.length hA2, .slice gA3 (ruM m (l.take q)).pend.length hA3] 25)) (.slice a1 m.vol.length c1) (.slice a2 m.per.length c2) (.slice a3 m.pend.length c3) m) := F23.out.below b7
    have F39 : Hid (Bo (wA6.alloc (.cells #[.slice gA1 (ruM m (l.take q)).vol.length hA1, .slice gA2 (ruM m (l.take q)).per.length hA2, .slice gA3 (ruM m (l.take q)).pend.length hA3] 25)) w.heap.size (.slice a1 m.vol.length c1) (.slice a2 m.per.length c2) (.slice a3 m.pend.length c3)) := F24.out.below b7
    have F40 : Hid (Below w.heap.size w (wA6.alloc (.cells #[.slice gA1 (ruM m (l.take q)).vol.length hA1, .slice gA2 (ruM m (l.take q)).per.length hA2, .slice gA3 (ruM m (l.take q)).pend.length hA3] 25))) := bstep F25.out b7
    have F41 : Hid (RdS (wA6.alloc (.cells #[.slice gA1 (ruM m (l.take q)).vol.length hA1, .slice gA2 (ruM m (l.take q)).per.length hA2, .slice gA3 (ruM m (l.take q)).pend.length hA3] 25)) (.slice a l.length cap) l) := F26.out.below b7
    have F42 : Hid (RdM (wA6.alloc (.cells #[.slice gA1 (ruM m (l.take q)).vol.length hA1, .slice gA2 (ruM m (l.take q)).per.length hA2, .slice gA3 (ruM m (l.take q)).pend.length hA3] 25)) (.slice a_1 (ruM m l).vol.length c_1) (.slice b_1 (ruM m l).per.length d_1) (.slice p_1 (ruM m l).pend.length q_1) (ruM m l)) := F27.out.below b7
    have F43 : Hid (Bo (wA6.alloc (.cells #[.slice gA1 (ruM m (l.take q)).vol.length hA1, .slice gA2 (ruM m (l.take q)).per.length hA2, .slice gA3 (ruM m (l.take q)).pend.length hA3] 25)) ba (.slice a_1 (ruM m l).vol.length c_1) (.slice b_1 (ruM m l).per.length d_1) (.slice p_1 (ruM m l).pend.length q_1)) := F28.out.below b7
    have F44 : Hid (RdM (wA6.alloc (.cells #[.slice gA1 (ruM m (l.take q)).vol.length hA1, .slice gA2 (ruM m (l.take q)).per.length hA2, .slice gA3 (ruM m (l.take q)).pend.length hA3] 25)) (.slice gA1 (ruM m (l.take q)).vol.length hA1) (.slice gA2 (ruM m (l.take q)).per.length hA2) (.slice gA3 (ruM m (l.take q)).pend.length hA3) (ruM m (l.take q))) := HR6.out.below ((Below.refl _ _).alloc (Nat.le_refl _) _)
    have F45 : Hid (Bo (wA6.alloc (.cells #[.slice gA1 (ruM m (l.take q)).vol.length hA1, .slice gA2 (ruM m (l.take q)).per.length hA2, .slice gA3 (ruM m (l.take q)).pend.length hA3] 25)) wA6.heap.size (.slice gA1 (ruM m (l.take q)).vol.length hA1) (.slice gA2 (ruM m (l.take q)).per.length hA2) (.slice gA3 (ruM m (l.take q)).pend.length hA3)) := Bo.new wA6 _ _ _
    clear z0 z1 z2 b7
    clear F23 F24 F25 F26 F27 F28 HS0 HR6 H6
    generalize (wA6.alloc (.cells #[.slice gA1 (ruM m (l.take q)).vol.length hA1, .slice gA2 (ruM m (l.take q)).per.length hA2, .slice gA3 (ruM m (l.take q)).pend.length hA3] 25)) = WA7 at F38 F39 F40 F41 F42 F43 F44 F45 ⊢
    generalize wA6.heap.size = bA7 at F45 ⊢
    go_wp2
    have lt46 : Hid (w.heap.size ≠ WA7.heap.size) := Nat.ne_of_lt F39.out.lt
    have lt47 : Hid (w.heap.size ≤ WA7.heap.size) := F40.out.size
    have lt48 : Hid (ba ≠ WA7.heap.size) := Nat.ne_of_lt F43.out.lt
    have lt49 : Hid (bA7 ≠ WA7.heap.size) := Nat.ne_of_lt F45.out.lt
    obtain ⟨⟨z0, z1, z2⟩, -⟩ := F45.out.bx
    have HS0 : Hid (WA7.drew.cell? ⟨bA7, 0, none⟩ = some (.slice gA1 (ruM m (l.take q)).vol.length hA1) ∧ WA7.drew.cell? ⟨bA7, 1, none⟩ = some (.slice gA2 (ruM m (l.take q)).per.length hA2) ∧ WA7.drew.cell? ⟨bA7, 2, none⟩ = some (.slice gA3 (ruM m (l.take q)).pend.length hA3)) := ⟨z0, z1, z2⟩
    go_region_held3 (fun W => W.cell? ⟨bA7, 0, none⟩ = some (.slice gA1 (ruM m (l.take q)).vol.length hA1) ∧ W.cell? ⟨bA7, 1, none⟩ = some (.slice gA2 (ruM m (l.take q)).per.length hA2) ∧ W.cell? ⟨bA7, 2, none⟩ = some (.slice gA3 (ruM m (l.take q)).pend.length hA3))
      (first | exact HS0.out | (with_reducible exact keep9 (F45.out.below H6.out) lt49.out _ _ _) | exact (F45.out.below (by ((repeat (first | exact Below.refl _ _ | exact H6.out | with_reducible refine Below.dr ?_ | with_reducible refine Below.al _ ?_)); all_goals fail))).bx.1)
      (first
      | (go_at_call 10; refine (run_any _ _ _ _ (ruM m (l.take q)) (l.drop q) _ (F44.out.below (by ((repeat (first | exact Below.refl _ _ | with_reducible refine Below.dr ?_ | with_reducible refine Below.al _ ?_)); all_goals fail))) ((Hdr.out _ F41.out).below (by ((repeat (first | exact Below.refl _ _ | with_reducible refine Below.dr ?_ | with_reducible refine Below.al _ ?_)); all_goals fail))) hp3).mono ?_; rintro e wB6 ⟨v1, v2, v3, rfl, R6, hb6⟩; have R6 : RdM wB6 v1 v2 v3 (ruM (ruM m (l.take q)) (l.drop q)) := R6; obtain ⟨gB1, hB1, gB2, hB2, gB3, hB3, rfl, rfl, rfl⟩ := R6.forms; have H6 : Hid (Below WA7.heap.size WA7 wB6) := bstep (by ((repeat (first | exact Below.refl _ _ | with_reducible refine Below.dr ?_ | with_reducible refine Below.al _ ?_)); all_goals fail)) hb6; (try (have HZ6 : Hid (Bo wB6 WA7.heap.size (.slice none 0 0) (.slice none 0 0) (.slice none 0 0)) := hp_below hb6 (hp_new rfl); obtain ⟨⟨t0, t1, t2⟩, tf0, tf1, tf2⟩ := HZ6.out.bx)); have HR6 : Hid (RdM wB6 (.slice gB1 (ruM (ruM m (l.take q)) (l.drop q)).vol.length hB1) (.slice gB2 (ruM (ruM m (l.take q)) (l.drop q)).per.length hB2) (.slice gB3 (ruM (ruM m (l.take q)) (l.drop q)).pend.length hB3) (ruM (ruM m (l.take q)) (l.drop q))) := R6; clear R6 hb6))
    · have b7 : Below WA7.heap.size WA7 (wB6.alloc (.cells #[.slice gB1 (ruM (ruM m (l.take q)) (l.drop q)).vol.length hB1, .slice gB2 (ruM (ruM m (l.take q)) (l.drop q)).per.length hB2, .slice gB3 (ruM (ruM m (l.take q)) (l.drop q)).pend.length hB3] 25)) := bstep H6.out ((Below.refl _ _).alloc (Nat.le_refl _) _)
      have F50 : Hid (RdM (wB6.alloc (.cells #[.slice gB1 (ruM (ruM m (l.take q)) (l.drop q)).vol.length hB1, .slice gB2 (ruM (ruM m (l.take q)) (l.drop q)).per.length hB2, .slice gB3 (ruM (ruM m (l.take q)) (l.drop q)).pend.length hB3] 25)) (.slice a1 m.vol.length c1) (.slice a2 m.per.length c2) (.slice a3 m.pend.length c3) m) := F38.out.below b7
      have F51 : Hid (Bo (wB6.alloc (.cells #[.slice gB1 (ruM (ruM m (l.take q)) (l.drop q)).vol.length hB1, .slice gB2 (ruM (ruM m (l.take q)) (l.drop q)).per.length hB2, .slice gB3 (ruM (ruM m (l.take q)) (l.drop q)).pend.length hB3] 25)) w.heap.size (.slice a1 m.vol.length c1) (.slice a2 m.per.length c2) (.slice a3 m.pend.length c3)) := F39.out.below b7
      have F52 : Hid (Below w.heap.size w (wB6.alloc (.cells #[.slice gB1 (ruM (ruM m (l.take q)) (l.drop q)).vol.length hB1, .slice gB2 (ruM (ruM m (l.take q)) (l.drop q)).per.length hB2, .slice gB3 (ruM (ruM m (l.take q)) (l.drop q)).pend.length hB3] 25))) := bstep F40.out b7
      have F53 : Hid (RdS (wB6.alloc (.cells #[.slice gB1 (ruM (ruM m (l.take q)) (l.drop q)).vol.length hB1, .slice gB2 (ruM (ruM m (l.take q)) (l.drop q)).per.length hB2, .slice gB3 (ruM (ruM m (l.take q)) (l.drop q)).pend.length hB3] 25)) (.slice a l.length cap) l) := F41.out.below b7
      have F54 : Hid (RdM (wB6.alloc (.cells #[.slice gB1 (ruM (ruM m (l.take q)) (l.drop q)).vol.length hB1, .slice gB2 (ruM (ruM m (l.take q)) (l.drop q)).per.length hB2, .slice gB3 (ruM (ruM m (l.take q)) (l.drop q)).pend.length hB3] 25)) (.slice a_1 (ruM m l).vol.length c_1) (.slice b_1 (ruM m l).per.length d_1) (.slice p_1 (ruM m l).pend.length q_1) (ruM m l)) := F42.out.below b7
      have F55 : Hid (Bo (wB6.alloc (.cells #[.slice gB1 (ruM (ruM m (l.take q)) (l.drop q)).vol.length hB1, .slice gB2 (ruM (ruM m (l.take q)) (l.drop q)).per.length hB2, .slice gB3 (ruM (ruM m (l.take q)) (l.drop q)).pend.length hB3] 25)) ba (.slice a_1 (ruM m l).vol.length c_1) (.slice b_1 (ruM m l).per.length d_1) (.slice p_1 (ruM m l).pend.length q_1)) := F43.out.below b7
      have F56 : Hid (RdM (wB6.alloc (.cells #[.slice gB1 (ruM (ruM m (l.take q)) (l.drop q)).vol.length hB1, .slice gB2 (ruM (ruM m (l.take q)) (l.drop q)).per.length hB2, .slice gB3 (ruM (ruM m (l.take q)) (l.drop q)).pend.length hB3] 25)) (.slice gA1 (ruM m (l.take q)).vol.length hA1) (.slice gA2 (ruM m (l.take q)).per.length hA2) (.slice gA3 (ruM m (l.take q)).pend.length hA3) (ruM m (l.take q))) := F44.out.below b7
      have F57 : Hid (Bo (wB6.alloc (.cells #[.slice gB1 (ruM (ruM m (l.take q)) (l.drop q)).vol.length hB1, .slice gB2 (ruM (ruM m (l.take q)) (l.drop q)).per.length hB2, .slice gB3 (ruM (ruM m (l.take q)) (l.drop q)).pend.length hB3] 25)) bA7 (.slice gA1 (ruM m (l.take q)).vol.length hA1) (.slice gA2 (ruM m (l.take q)).per.length hA2) (.slice gA3 (ruM m (l.take q)).pend.length hA3)) := F45.out.below b7
      have F58 : Hid (RdM (wB6.alloc (.cells #[.slice gB1 (ruM (ruM m (l.take q)) (l.drop q)).vol.length hB1, .slice gB2 (ruM (ruM m (l.take q)) (l.drop q)).per.length hB2, .slice gB3 (ruM (ruM m (l.take q)) (l.drop q)).pend.length hB3] 25)) (.slice gB1 (ruM (ruM m (l.take q)) (l.drop q)).vol.length hB1) (.slice gB2 (ruM (ruM m (l.take q)) (l.drop q)).per.length hB2) (.slice gB3 (ruM (ruM m (l.take q)) (l.drop q)).pend.length hB3) (ruM (ruM m (l.take q)) (l.drop q))) := HR6.out.below ((Below.refl _ _).alloc (Nat.le_refl _) _)
      have F59 : Hid (Bo (wB6.alloc (.cells #[.slice gB1 (ruM (ruM m (l.take q)) (l.drop q)).vol.length hB1, .slice gB2 (ruM (ruM m (l.take q)) (l.drop q)).per.length hB2, .slice gB3 (ruM (ruM m (l.take q)) (l.drop q)).pend.length hB3] 25)) wB6.heap.size (.slice gB1 (ruM (ruM m (l.take q)) (l.drop q)).vol.length hB1) (.slice gB2 (ruM (ruM m (l.take q)) (l.drop q)).per.length hB2) (.slice gB3 (ruM (ruM m (l.take q)) (l.drop q)).pend.length hB3)) := Bo.new wB6 _ _ _
      clear z0 z1 z2 b7
      clear F38 F39 F40 F41 F42 F43 F44 F45 HS0 HR6 H6
      generalize (wB6.alloc (.cells #[.slice gB1 (ruM (ruM m (l.take q)) (l.drop q)).vol.length hB1, .slice gB2 (ruM (ruM m (l.take q)) (l.drop q)).per.length hB2, .slice gB3 (ruM (ruM m (l.take q)) (l.drop q)).pend.length hB3] 25)) = WB7 at F50 F51 F52 F53 F54 F55 F56 F57 F58 F59 ⊢
      generalize wB6.heap.size = bB7 at F59 ⊢
      obtain ⟨⟨c60, c61, c62⟩, -⟩ := F51.out.bx
      obtain ⟨⟨c63, c64, c65⟩, -⟩ := F55.out.bx
      obtain ⟨⟨c66, c67, c68⟩, -⟩ := F57.out.bx
      obtain ⟨⟨c69, c70, c71⟩, -⟩ := F59.out.bx
      rcases hcase with ⟨he, hf, hg, hs, ho⟩ | ⟨he, hf, hs⟩ | ⟨he, hf, hg, hs⟩
      · go_wp2_with (first
          | (go_at_call 16; refine (same_any _ _ _ _ _ _ (ruM m l) (ruM (ruM m (l.take q)) (l.drop q)) _ F54.out F58.out).mono ?_; rintro e ws ⟨rfl, hbs⟩; have HBs : Hid (Below w.heap.size w ws) := bstep F52.out hbs; obtain ⟨⟨u00, u01, u02⟩, -⟩ := (F51.out.below hbs).bx; obtain ⟨⟨u10, u11, u12⟩, -⟩ := (F55.out.below hbs).bx; obtain ⟨⟨u20, u21, u22⟩, -⟩ := (F57.out.below hbs).bx; obtain ⟨⟨u30, u31, u32⟩, -⟩ := (F59.out.below hbs).bx; have hbs' : Hid (Below WB7.heap.size WB7 ws) := hbs; clear hbs)
          | (go_at_call 20; refine (check_any _ _ _ (ruM m l) _ (F54.out.below hbs'.out)).mono ?_; rintro e wk ⟨rfl, hbk⟩; have HBs : Hid (Below w.heap.size w wk) := bstep HBs.out hbk))
        go_ret
        exact ⟨rfl, HBs.out⟩
      · go_wp2_with (first
          | (go_at_call 16; refine (same_any _ _ _ _ _ _ (ruM m l) m _ F54.out F50.out).mono ?_; rintro e ws ⟨rfl, hbs⟩; have HBs : Hid (Below w.heap.size w ws) := bstep F52.out hbs; obtain ⟨⟨u00, u01, u02⟩, -⟩ := (F51.out.below hbs).bx; obtain ⟨⟨u10, u11, u12⟩, -⟩ := (F55.out.below hbs).bx; obtain ⟨⟨u20, u21, u22⟩, -⟩ := (F57.out.below hbs).bx; obtain ⟨⟨u30, u31, u32⟩, -⟩ := (F59.out.below hbs).bx; have hbs' : Hid (Below WB7.heap.size WB7 ws) := hbs; clear hbs))
        go_ret
        exact ⟨rfl, HBs.out⟩
      · go_wp2_with (first
          | (go_at_call 16; refine (same_any _ _ _ _ _ _ (ruM m l) m _ F54.out F50.out).mono ?_; rintro e ws ⟨rfl, hbs⟩; have HBs : Hid (Below w.heap.size w ws) := bstep F52.out hbs; obtain ⟨⟨u00, u01, u02⟩, -⟩ := (F51.out.below hbs).bx; obtain ⟨⟨u10, u11, u12⟩, -⟩ := (F55.out.below hbs).bx; obtain ⟨⟨u20, u21, u22⟩, -⟩ := (F57.out.below hbs).bx; obtain ⟨⟨u30, u31, u32⟩, -⟩ := (F59.out.below hbs).bx; have hbs' : Hid (Below WB7.heap.size WB7 ws) := hbs; clear hbs))
        go_ret
        exact ⟨rfl, HBs.out⟩
    · have F50 : Hid (RdM (((wB6.setCell ⟨WA7.heap.size, 0, none⟩ (.slice gB1 (ruM (ruM m (l.take q)) (l.drop q)).vol.length hB1)).setCell ⟨WA7.heap.size, 1, none⟩ (.slice gB2 (ruM (ruM m (l.take q)) (l.drop q)).per.length hB2)).setCell ⟨WA7.heap.size, 2, none⟩ (.slice gB3 (ruM (ruM m (l.take q)) (l.drop q)).pend.length hB3)) (.slice a1 m.vol.length c1) (.slice a2 m.per.length c2) (.slice a3 m.pend.length c3) m) := (F38.out.below H6.out).box HZ6.out _ _ _
      have F51 : Hid (Bo (((wB6.setCell ⟨WA7.heap.size, 0, none⟩ (.slice gB1 (ruM (ruM m (l.take q)) (l.drop q)).vol.length hB1)).setCell ⟨WA7.heap.size, 1, none⟩ (.slice gB2 (ruM (ruM m (l.take q)) (l.drop q)).per.length hB2)).setCell ⟨WA7.heap.size, 2, none⟩ (.slice gB3 (ruM (ruM m (l.take q)) (l.drop q)).pend.length hB3)) w.heap.size (.slice a1 m.vol.length c1) (.slice a2 m.per.length c2) (.slice a3 m.pend.length c3)) := (F39.out.below H6.out).other lt46.out _ _ _
      have F52 : Hid (Below w.heap.size w (((wB6.setCell ⟨WA7.heap.size, 0, none⟩ (.slice gB1 (ruM (ruM m (l.take q)) (l.drop q)).vol.length hB1)).setCell ⟨WA7.heap.size, 1, none⟩ (.slice gB2 (ruM (ruM m (l.take q)) (l.drop q)).per.length hB2)).setCell ⟨WA7.heap.size, 2, none⟩ (.slice gB3 (ruM (ruM m (l.take q)) (l.drop q)).pend.length hB3))) := S3.below (bstep F40.out H6.out) lt47.out _ _ _
      have F53 : Hid (RdS (((wB6.setCell ⟨WA7.heap.size, 0, none⟩ (.slice gB1 (ruM (ruM m (l.take q)) (l.drop q)).vol.length hB1)).setCell ⟨WA7.heap.size, 1, none⟩ (.slice gB2 (ruM (ruM m (l.take q)) (l.drop q)).per.length hB2)).setCell ⟨WA7.heap.size, 2, none⟩ (.slice gB3 (ruM (ruM m (l.take q)) (l.drop q)).pend.length hB3)) (.slice a l.length cap) l) := (F41.out.below H6.out).box HZ6.out _ _ _
      have F54 : Hid (RdM (((wB6.setCell ⟨WA7.heap.size, 0, none⟩ (.slice gB1 (ruM (ruM m (l.take q)) (l.drop q)).vol.length hB1)).setCell ⟨WA7.heap.size, 1, none⟩ (.slice gB2 (ruM (ruM m (l.take q)) (l.drop q)).per.length hB2)).setCell ⟨WA7.heap.size, 2, none⟩ (.slice gB3 (ruM (ruM m (l.take q)) (l.drop q)).pend.length hB3)) (.slice a_1 (ruM m l).vol.length c_1) (.slice b_1 (ruM m l).per.length d_1) (.slice p_1 (ruM m l).pend.length q_1) (ruM m l)) := (F42.out.below H6.out).box HZ6.out _ _ _
      have F55 : Hid (Bo (((wB6.setCell ⟨WA7.heap.size, 0, none⟩ (.slice gB1 (ruM (ruM m (l.take q)) (l.drop q)).vol.length hB1)).setCell ⟨WA7.heap.size, 1, none⟩ (.slice gB2 (ruM (ruM m (l.take q)) (l.drop q)).per.length hB2)).setCell ⟨WA7.heap.size, 2, none⟩ (.slice gB3 (ruM (ruM m (l.take q)) (l.drop q)).pend.length hB3)) ba (.slice a_1 (ruM m l).vol.length c_1) (.slice b_1 (ruM m l).per.length d_1) (.slice p_1 (ruM m l).pend.length q_1)) := (F43.out.below H6.out).other lt48.out _ _ _
      have F56 : Hid (RdM (((wB6.setCell ⟨WA7.heap.size, 0, none⟩ (.slice gB1 (ruM (ruM m (l.take q)) (l.drop q)).vol.length hB1)).setCell ⟨WA7.heap.size, 1, none⟩ (.slice gB2 (ruM (ruM m (l.take q)) (l.drop q)).per.length hB2)).setCell ⟨WA7.heap.size, 2, none⟩ (.slice gB3 (ruM (ruM m (l.take q)) (l.drop q)).pend.length hB3)) (.slice gA1 (ruM m (l.take q)).vol.length hA1) (.slice gA2 (ruM m (l.take q)).per.length hA2) (.slice gA3 (ruM m (l.take q)).pend.length hA3) (ruM m (l.take q))) := (F44.out.below H6.out).box HZ6.out _ _ _
      have F57 : Hid (Bo (((wB6.setCell ⟨WA7.heap.size, 0, none⟩ (.slice gB1 (ruM (ruM m (l.take q)) (l.drop q)).vol.length hB1)).setCell ⟨WA7.heap.size, 1, none⟩ (.slice gB2 (ruM (ruM m (l.take q)) (l.drop q)).per.length hB2)).setCell ⟨WA7.heap.size, 2, none⟩ (.slice gB3 (ruM (ruM m (l.take q)) (l.drop q)).pend.length hB3)) bA7 (.slice gA1 (ruM m (l.take q)).vol.length hA1) (.slice gA2 (ruM m (l.take q)).per.length hA2) (.slice gA3 (ruM m (l.take q)).pend.length hA3)) := (F45.out.below H6.out).other lt49.out _ _ _
      have F58 : Hid (RdM (((wB6.setCell ⟨WA7.heap.size, 0, none⟩ (.slice gB1 (ruM (ruM m (l.take q)) (l.drop q)).vol.length hB1)).setCell ⟨WA7.heap.size, 1, none⟩ (.slice gB2 (ruM (ruM m (l.take q)) (l.drop q)).per.length hB2)).setCell ⟨WA7.heap.size, 2, none⟩ (.slice gB3 (ruM (ruM m (l.take q)) (l.drop q)).pend.length hB3)) (.slice gB1 (ruM (ruM m (l.take q)) (l.drop q)).vol.length hB1) (.slice gB2 (ruM (ruM m (l.take q)) (l.drop q)).per.length hB2) (.slice gB3 (ruM (ruM m (l.take q)) (l.drop q)).pend.length hB3) (ruM (ruM m (l.take q)) (l.drop q))) := HR6.out.box HZ6.out _ _ _
      have F59 : Hid (Bo (((wB6.setCell ⟨WA7.heap.size, 0, none⟩ (.slice gB1 (ruM (ruM m (l.take q)) (l.drop q)).vol.length hB1)).setCell ⟨WA7.heap.size, 1, none⟩ (.slice gB2 (ruM (ruM m (l.take q)) (l.drop q)).per.length hB2)).setCell ⟨WA7.heap.size, 2, none⟩ (.slice gB3 (ruM (ruM m (l.take q)) (l.drop q)).pend.length hB3)) WA7.heap.size (.slice gB1 (ruM (ruM m (l.take q)) (l.drop q)).vol.length hB1) (.slice gB2 (ruM (ruM m (l.take q)) (l.drop q)).per.length hB2) (.slice gB3 (ruM (ruM m (l.take q)) (l.drop q)).pend.length hB3)) := HZ6.out.set _ _ _
      clear z0 z1 z2 t0 t1 t2 tf0 tf1 tf2
      clear F38 F39 F40 F41 F42 F43 F44 F45 HS0 HR6 H6 HZ6
      generalize (((wB6.setCell ⟨WA7.heap.size, 0, none⟩ (.slice gB1 (ruM (ruM m (l.take q)) (l.drop q)).vol.length hB1)).setCell ⟨WA7.heap.size, 1, none⟩ (.slice gB2 (ruM (ruM m (l.take q)) (l.drop q)).per.length hB2)).setCell ⟨WA7.heap.size, 2, none⟩ (.slice gB3 (ruM (ruM m (l.take q)) (l.drop q)).pend.length hB3)) = WB7 at F50 F51 F52 F53 F54 F55 F56 F57 F58 F59 ⊢
      generalize WA7.heap.size = bB7 at F59 ⊢
      obtain ⟨⟨c60, c61, c62⟩, -⟩ := F51.out.bx
      obtain ⟨⟨c63, c64, c65⟩, -⟩ := F55.out.bx
      obtain ⟨⟨c66, c67, c68⟩, -⟩ := F57.out.bx
      obtain ⟨⟨c69, c70, c71⟩, -⟩ := F59.out.bx
      rcases hcase with ⟨he, hf, hg, hs, ho⟩ | ⟨he, hf, hs⟩ | ⟨he, hf, hg, hs⟩
      · go_wp2_with (first
          | (go_at_call 16; refine (same_any _ _ _ _ _ _ (ruM m l) (ruM (ruM m (l.take q)) (l.drop q)) _ F54.out F58.out).mono ?_; rintro e ws ⟨rfl, hbs⟩; have HBs : Hid (Below w.heap.size w ws) := bstep F52.out hbs; obtain ⟨⟨u00, u01, u02⟩, -⟩ := (F51.out.below hbs).bx; obtain ⟨⟨u10, u11, u12⟩, -⟩ := (F55.out.below hbs).bx; obtain ⟨⟨u20, u21, u22⟩, -⟩ := (F57.out.below hbs).bx; obtain ⟨⟨u30, u31, u32⟩, -⟩ := (F59.out.below hbs).bx; have hbs' : Hid (Below WB7.heap.size WB7 ws) := hbs; clear hbs)
          | (go_at_call 20; refine (check_any _ _ _ (ruM m l) _ (F54.out.below hbs'.out)).mono ?_; rintro e wk ⟨rfl, hbk⟩; have HBs : Hid (Below w.heap.size w wk) := bstep HBs.out hbk))
        go_ret
        exact ⟨rfl, HBs.out⟩
      · go_wp2_with (first
          | (go_at_call 16; refine (same_any _ _ _ _ _ _ (ruM m l) m _ F54.out F50.out).mono ?_; rintro e ws ⟨rfl, hbs⟩; have HBs : Hid (Below w.heap.size w ws) := bstep F52.out hbs; obtain ⟨⟨u00, u01, u02⟩, -⟩ := (F51.out.below hbs).bx; obtain ⟨⟨u10, u11, u12⟩, -⟩ := (F55.out.below hbs).bx; obtain ⟨⟨u20, u21, u22⟩, -⟩ := (F57.out.below hbs).bx; obtain ⟨⟨u30, u31, u32⟩, -⟩ := (F59.out.below hbs).bx; have hbs' : Hid (Below WB7.heap.size WB7 ws) := hbs; clear hbs))
        go_ret
        exact ⟨rfl, HBs.out⟩
      · go_wp2_with (first
          | (go_at_call 16; refine (same_any _ _ _ _ _ _ (ruM m l) m _ F54.out F50.out).mono ?_; rintro e ws ⟨rfl, hbs⟩; have HBs : Hid (Below w.heap.size w ws) := bstep F52.out hbs; obtain ⟨⟨u00, u01, u02⟩, -⟩ := (F51.out.below hbs).bx; obtain ⟨⟨u10, u11, u12⟩, -⟩ := (F55.out.below hbs).bx; obtain ⟨⟨u20, u21, u22⟩, -⟩ := (F57.out.below hbs).bx; obtain ⟨⟨u30, u31, u32⟩, -⟩ := (F59.out.below hbs).bx; have hbs' : Hid (Below WB7.heap.size WB7 ws) := hbs; clear hbs))
        go_ret
        exact ⟨rfl, HBs.out⟩
  · have F38 : Hid (RdM (((wA6.setCell ⟨WL.heap.size, 0, none⟩ (.slice gA1 (ruM m (l.take q)).vol.length hA1)).setCell ⟨WL.heap.size, 1, none⟩ (.slice gA2 (ruM m (l.take q)).per.length hA2)).setCell ⟨WL.heap.size, 2, none⟩ (.slice gA3 (ruM m (l.take q)).pend.length hA3)) (.slice a1 m.vol.length c1) (.slice a2 m.per.length c2) (.slice a3 m.pend.length c3) m) := (F23.out.below H6.out).box HZ6.out _ _ _
    have F39 : Hid (Bo (((wA6.setCell ⟨WL.heap.size, 0, none⟩ (.slice gA1 (ruM m (l.take q)).vol.length hA1)).setCell ⟨WL.heap.size, 1, none⟩ (.slice gA2 (ruM m (l.take q)).per.length hA2)).setCell ⟨WL.heap.size, 2, none⟩ (.slice gA3 (ruM m (l.take q)).pend.length hA3)) w.heap.size (.slice a1 m.vol.length c1) (.slice a2 m.per.length c2) (.slice a3 m.pend.length c3)) := (F24.out.below H6.out).other lt35.out _ _ _
    have F40 : Hid (Below w.heap.size w (((wA6.setCell ⟨WL.heap.size, 0, none⟩ (.slice gA1 (ruM m (l.take q)).vol.length hA1)).setCell ⟨WL.heap.size, 1, none⟩ (.slice gA2 (ruM m (l.take q)).per.length hA2)).setCell ⟨WL.heap.size, 2, none⟩ (.slice gA3 (ruM m (l.take q)).pend.length hA3))) := S3.below (bstep F25.out H6.out) lt36.out _ _ _
    have F41 : Hid (RdS (((wA6.setCell ⟨WL.heap.size, 0, none⟩ (.slice gA1 (ruM m (l.take q)).vol.length hA1)).setCell ⟨WL.heap.size, 1, none⟩ (.slice gA2 (ruM m (l.take q)).per.length hA2)).setCell ⟨WL.heap.size, 2, none⟩ (.slice gA3 (ruM m (l.take q)).pend.length hA3)) (.slice a l.length cap) l) := (F26.out.below H6.out).box HZ6.out _ _ _
    have F42 : Hid (RdM (((wA6.setCell ⟨WL.heap.size, 0, none⟩ (.slice gA1 (ruM m (l.take q)).vol.length hA1)).setCell ⟨WL.heap.size, 1, none⟩ (.slice gA2 (ruM m (l.take q)).per.length hA2)).setCell ⟨WL.heap.size, 2, none⟩ (.slice gA3 (ruM m (l.take q)).pend.length hA3)) (.slice a_1 (ruM m l).vol.length c_1) (.slice b_1 (ruM m l).per.length d_1) (.slice p_1 (ruM m l).pend.length q_1) (ruM m l)) := (F27.out.below H6.out).box HZ6.out _ _ _
    have F43 : Hid (Bo (((wA6.setCell ⟨WL.heap.size, 0, none⟩ (.slice gA1 (ruM m (l.take q)).vol.length hA1)).setCell ⟨WL.heap.size, 1, none⟩ (.slice gA2 (ruM m (l.take q)).per.length hA2)).setCell ⟨WL.heap.size, 2, none⟩ (.slice gA3 (ruM m (l.take q)).pend.length hA3)) ba (.slice a_1 (ruM m l).vol.length c_1) (.slice b_1 (ruM m l).per.length d_1) (.slice p_1 (ruM m l).pend.length q_1)) := (F28.out.below H6.out).other lt37.out _ _ _
    have F44 : Hid (RdM (((wA6.setCell ⟨WL.heap.size, 0, none⟩ (.slice gA1 (ruM m (l.take q)).vol.length hA1)).setCell ⟨WL.heap.size, 1, none⟩ (.slice gA2 (ruM m (l.take q)).per.length hA2)).setCell ⟨WL.heap.size, 2, none⟩ (.slice gA3 (ruM m (l.take q)).pend.length hA3)) (.slice gA1 (ruM m (l.take q)).vol.length hA1) (.slice gA2 (ruM m (l.take q)).per.length hA2) (.slice gA3 (ruM m (l.take q)).pend.length hA3) (ruM m (l.take q))) := HR6.out.box HZ6.out _ _ _
    have F45 : Hid (Bo (((wA6.setCell ⟨WL.heap.size, 0, none⟩ (.slice gA1 (ruM m (l.take q)).vol.length hA1)).setCell ⟨WL.heap.size, 1, none⟩ (.slice gA2 (ruM m (l.take q)).per.length hA2)).setCell ⟨WL.heap.size, 2, none⟩ (.slice gA3 (ruM m (l.take q)).pend.length hA3)) WL.heap.size (.slice gA1 (ruM m (l.take q)).vol.length hA1) (.slice gA2 (ruM m (l.take q)).per.length hA2) (.slice gA3 (ruM m (l.take q)).pend.length hA3)) := HZ6.out.set _ _ _
    clear z0 z1 z2 t0 t1 t2 tf0 tf1 tf2
    clear F23 F24 F25 F26 F27 F28 HS0 HR6 H6 HZ6
    generalize (((wA6.setCell ⟨WL.heap.size, 0, none⟩ (.slice gA1 (ruM m (l.take q)).vol.length hA1)).setCell ⟨WL.heap.size, 1, none⟩ (.slice gA2 (ruM m (l.take q)).per.length hA2)).setCell ⟨WL.heap.size, 2, none⟩ (.slice gA3 (ruM m (l.take q)).pend.length hA3)) = WA7 at F38 F39 F40 F41 F42 F43 F44 F45 ⊢
    generalize WL.heap.size = bA7 at F45 ⊢
    go_wp2
    have lt46 : Hid (w.heap.size ≠ WA7.heap.size) := Nat.ne_of_lt F39.out.lt
    have lt47 : Hid (w.heap.size ≤ WA7.heap.size) := F40.out.size
    have lt48 : Hid (ba ≠ WA7.heap.size) := Nat.ne_of_lt F43.out.lt
    have lt49 : Hid (bA7 ≠ WA7.heap.size) := Nat.ne_of_lt F45.out.lt
    obtain ⟨⟨z0, z1, z2⟩, -⟩ := F45.out.bx
    have HS0 : Hid (WA7.drew.cell? ⟨bA7, 0, none⟩ = some (.slice gA1 (ruM m (l.take q)).vol.length hA1) ∧ WA7.drew.cell? ⟨bA7, 1, none⟩ = some (.slice gA2 (ruM m (l.take q)).per.length hA2) ∧ WA7.drew.cell? ⟨bA7, 2, none⟩ = some (.slice gA3 (ruM m (l.take q)).pend.length hA3)) := ⟨z0, z1, z2⟩
    go_region_held3 (fun W => W.cell? ⟨bA7, 0, none⟩ = some (.slice gA1 (ruM m (l.take q)).vol.length hA1) ∧ W.cell? ⟨bA7, 1, none⟩ = some (.slice gA2 (ruM m (l.take q)).per.length hA2) ∧ W.cell? ⟨bA7, 2, none⟩ = some (.slice gA3 (ruM m (l.take q)).pend.length hA3))
      (first | exact HS0.out | (with_reducible exact keep9 (F45.out.below H6.out) lt49.out _ _ _) | exact (F45.out.below (by ((repeat (first | exact Below.refl _ _ | exact H6.out | with_reducible refine Below.dr ?_ | with_reducible refine Below.al _ ?_)); all_goals fail))).bx.1)
      (first
      | (go_at_call 10; refine (run_any _ _ _ _ (ruM m (l.take q)) (l.drop q) _ (F44.out.below (by ((repeat (first | exact Below.refl _ _ | with_reducible refine Below.dr ?_ | with_reducible refine Below.al _ ?_)); all_goals fail))) ((Hdr.out _ F41.out).below (by ((repeat (first | exact Below.refl _ _ | with_reducible refine Below.dr ?_ | with_reducible refine Below.al _ ?_)); all_goals fail))) hp3).mono ?_; rintro e wB6 ⟨v1, v2, v3, rfl, R6, hb6⟩; have R6 : RdM wB6 v1 v2 v3 (ruM (ruM m (l.take q)) (l.drop q)) := R6; obtain ⟨gB1, hB1, gB2, hB2, gB3, hB3, rfl, rfl, rfl⟩ := R6.forms; have H6 : Hid (Below WA7.heap.size WA7 wB6) := bstep (by ((repeat (first | exact Below.refl _ _ | with_reducible refine Below.dr ?_ | with_reducible refine Below.al _ ?_)); all_goals fail)) hb6; (try (have HZ6 : Hid (Bo wB6 WA7.heap.size (.slice none 0 0) (.slice none 0 0) (.slice none 0 0)) := hp_below hb6 (hp_new rfl); obtain ⟨⟨t0, t1, t2⟩, tf0, tf1, tf2⟩ := HZ6.out.bx)); have HR6 : Hid (RdM wB6 (.slice gB1 (ruM (ruM m (l.take q)) (l.drop q)).vol.length hB1) (.slice gB2 (ruM (ruM m (l.take q)) (l.drop q)).per.length hB2) (.slice gB3 (ruM (ruM m (l.take q)) (l.drop q)).pend.length hB3) (ruM (ruM m (l.take q)) (l.drop q))) := R6; clear R6 hb6))
    · have b7 : Below WA7.heap.size WA7 (wB6.alloc (.cells #[.slice gB1 (ruM (ruM m (l.take q)) (l.drop q)).vol.length hB1, .slice gB2 (ruM (ruM m (l.take q)) (l.drop q)).per.length hB2, .slice gB3 (ruM (ruM m (l.take q)) (l.drop q)).pend.length hB3] 25)) := bstep H6.out ((Below.refl _ _).alloc (Nat.le_refl _) _)
      have F50 : Hid (RdM (wB6.alloc (.cells #[.slice gB1 (ruM (ruM m (l.take q)) (l.drop q)).vol.length hB1, .slice gB2 (ruM (ruM m (l.take q)) (l.drop q)).per.length hB2, .slice gB3 (ruM (ruM m (l.take q)) (l.drop q)).pend.length hB3] 25)) (.slice a1 m.vol.length c1) (.slice a2 m.per.length c2) (.slice a3 m.pend.length c3) m) := F38.out.below b7
      have F51 : Hid (Bo (wB6.alloc (.cells #[.slice gB1 (ruM (ruM m (l.take q)) (l.drop q)).vol.length hB1, .slice gB2 (ruM (ruM m (l.take q)) (l.drop q)).per.length hB2, .slice gB3 (ruM (ruM m (l.take q)) (l.drop q)).pend.length hB3] 25)) w.heap.size (.slice a1 m.vol.length c1) (.slice a2 m.per.length c2) (.slice a3 m.pend.length c3)) := F39.out.below b7
      have F52 : Hid (Below w.heap.size w (wB6.alloc (.cells #[.slice gB1 (ruM (ruM m (l.take q)) (l.drop q)).vol.length hB1, .slice gB2 (ruM (ruM m (l.take q)) (l.drop q)).per.length hB2, .slice gB3 (ruM (ruM m (l.take q)) (l.drop q)).pend.length hB3] 25))) := bstep F40.out b7
      have F53 : Hid (RdS (wB6.alloc (.cells #[.slice gB1 (ruM (ruM m (l.take q)) (l.drop q)).vol.length hB1, .slice gB2 (ruM (ruM m (l.take q)) (l.drop q)).per.length hB2, .slice gB3 (ruM (ruM m (l.take q)) (l.drop q)).pend.length hB3] 25)) (.slice a l.length cap) l) := F41.out.below b7
      have F54 : Hid (RdM (wB6.alloc (.cells #[.slice gB1 (ruM (ruM m (l.take q)) (l.drop q)).vol.length hB1, .slice gB2 (ruM (ruM m (l.take q)) (l.drop q)).per.length hB2, .slice gB3 (ruM (ruM m (l.take q)) (l.drop q)).pend.length hB3] 25)) (.slice a_1 (ruM m l).vol.length c_1) (.slice b_1 (ruM m l).per.length d_1) (.slice p_1 (ruM m l).pend.length q_1) (ruM m l)) := F42.out.below b7
      have F55 : Hid (Bo (wB6.alloc (.cells #[.slice gB1 (ruM (ruM m (l.take q)) (l.drop q)).vol.length hB1, .slice gB2 (ruM (ruM m (l.take q)) (l.drop q)).per.length hB2, .slice gB3 (ruM (ruM m (l.take q)) (l.drop q)).pend.length hB3] 25)) ba (.slice a_1 (ruM m l).vol.length c_1) (.slice b_1 (ruM m l).per.length d_1) (.slice p_1 (ruM m l).pend.length q_1)) := F43.out.below b7
      have F56 : Hid (RdM (wB6.alloc (.cells #[.slice gB1 (ruM (ruM m (l.take q)) (l.drop q)).vol.length hB1, .slice gB2 (ruM (ruM m (l.take q)) (l.drop q)).per.length hB2, .slice gB3 (ruM (ruM m (l.take q)) (l.drop q)).pend.length hB3] 25)) (.slice gA1 (ruM m (l.take q)).vol.length hA1) (.slice gA2 (ruM m (l.take q)).per.length hA2) (.slice gA3 (ruM m (l.take q)).pend.length hA3) (ruM m (l.take q))) := F44.out.below b7
      have F57 : Hid (Bo (wB6.alloc (.cells #[.slice gB1 (ruM (ruM m (l.take q)) (l.drop q)).vol.length hB1, .slice gB2 (ruM (ruM m (l.take q)) (l.drop q)).per.length hB2, .slice gB3 (ruM (ruM m (l.take q)) (l.drop q)).pend.length hB3] 25)) bA7 (.slice gA1 (ruM m (l.take q)).vol.length hA1) (.slice gA2 (ruM m (l.take q)).per.length hA2) (.slice gA3 (ruM m (l.take q)).pend.length hA3)) := F45.out.below b7
      have F58 : Hid (RdM (wB6.alloc (.cells #[.slice gB1 (ruM (ruM m (l.take q)) (l.drop q)).vol.length hB1, .slice gB2 (ruM (ruM m (l.take q)) (l.drop q)).per.length hB2, .slice gB3 (ruM (ruM m (l.take q)) (l.drop q)).pend.length hB3] 25)) (.slice gB1 (ruM (ruM m (l.take q)) (l.drop q)).vol.length hB1) (.slice gB2 (ruM (ruM m (l.take q)) (l.drop q)).per.length hB2) (.slice gB3 (ruM (ruM m (l.take q)) (l.drop q)).pend.length hB3) (ruM (ruM m (l.take q)) (l.drop q))) := HR6.out.below ((Below.refl _ _).alloc (Nat.le_refl _) _)
      have F59 : Hid (Bo (wB6.alloc (.cells #[.slice gB1 (ruM (ruM m (l.take q)) (l.drop q)).vol.length hB1, .slice gB2 (ruM (ruM m (l.take q)) (l.drop q)).per.length hB2, .slice gB3 (ruM (ruM m (l.take q)) (l.drop q)).pend.length hB3] 25)) wB6.heap.size (.slice gB1 (ruM (ruM m (l.take q)) (l.drop q)).vol.length hB1) (.slice gB2 (ruM (ruM m (l.take q)) (l.drop q)).per.length hB2) (.slice gB3 (ruM (ruM m (l.take q)) (l.drop q)).pend.length hB3)) := Bo.new wB6 _ _ _
      clear z0 z1 z2 b7
      clear F38 F39 F40 F41 F42 F43 F44 F45 HS0 HR6 H6
      generalize (wB6.alloc (.cells #[.slice gB1 (ruM (ruM m (l.take q)) (l.drop q)).vol.length hB1, .slice gB2 (ruM (ruM m (l.take q)) (l.drop q)).per.length hB2, .slice gB3 (ruM (ruM m (l.take q)) (l.drop q)).pend.length hB3] 25)) = WB7 at F50 F51 F52 F53 F54 F55 F56 F57 F58 F59 ⊢
      generalize wB6.heap.size = bB7 at F59 ⊢
      obtain ⟨⟨c60, c61, c62⟩, -⟩ := F51.out.bx
      obtain ⟨⟨c63, c64, c65⟩, -⟩ := F55.out.bx
      obtain ⟨⟨c66, c67, c68⟩, -⟩ := F57.out.bx
      obtain ⟨⟨c69, c70, c71⟩, -⟩ := F59.out.bx
      rcases hcase with ⟨he, hf, hg, hs, ho⟩ | ⟨he, hf, hs⟩ | ⟨he, hf, hg, hs⟩
      · go_wp2_with (first
          | (go_at_call 16; refine (same_any _ _ _ _ _ _ (ruM m l) (ruM (ruM m (l.take q)) (l.drop q)) _ F54.out F58.out).mono ?_; rintro e ws ⟨rfl, hbs⟩; have HBs : Hid (Below w.heap.size w ws) := bstep F52.out hbs; obtain ⟨⟨u00, u01, u02⟩, -⟩ := (F51.out.below hbs).bx; obtain ⟨⟨u10, u11, u12⟩, -⟩ := (F55.out.below hbs).bx; obtain ⟨⟨u20, u21, u22⟩, -⟩ := (F57.out.below hbs).bx; obtain ⟨⟨u30, u31, u32⟩, -⟩ := (F59.out.below hbs).bx; have hbs' : Hid (Below WB7.heap.size WB7 ws) := hbs; clear hbs)
          | (go_at_call 20; refine (check_any _ _ _ (ruM m l) _ (F54.out.below hbs'.out)).mono ?_; rintro e wk ⟨rfl, hbk⟩; have HBs : Hid (Below w.heap.size w wk) := bstep HBs.out hbk))
        go_ret
        exact ⟨rfl, HBs.out⟩
      · go_wp2_with (first
          | (go_at_call 16; refine (same_any _ _ _ _ _ _ (ruM m l) m _ F54.out F50.out).mono ?_; rintro e ws ⟨rfl, hbs⟩; have HBs : Hid (Below w.heap.size w ws) := bstep F52.out hbs; obtain ⟨⟨u00, u01, u02⟩, -⟩ := (F51.out.below hbs).bx; obtain ⟨⟨u10, u11, u12⟩, -⟩ := (F55.out.below hbs).bx; obtain ⟨⟨u20, u21, u22⟩, -⟩ := (F57.out.below hbs).bx; obtain ⟨⟨u30, u31, u32⟩, -⟩ := (F59.out.below hbs).bx; have hbs' : Hid (Below WB7.heap.size WB7 ws) := hbs; clear hbs))
        go_ret
        exact ⟨rfl, HBs.out⟩
      · go_wp2_with (first
          | (go_at_call 16; refine (same_any _ _ _ _ _ _ (ruM m l) m _ F54.out F50.out).mono ?_; rintro e ws ⟨rfl, hbs⟩; have HBs : Hid (Below w.heap.size w ws) := bstep F52.out hbs; obtain ⟨⟨u00, u01, u02⟩, -⟩ := (F51.out.below hbs).bx; obtain ⟨⟨u10, u11, u12⟩, -⟩ := (F55.out.below hbs).bx; obtain ⟨⟨u20, u21, u22⟩, -⟩ := (F57.out.below hbs).bx; obtain ⟨⟨u30, u31, u32⟩, -⟩ := (F59.out.below hbs).bx; have hbs' : Hid (Below WB7.heap.size WB7 ws) := hbs; clear hbs))
        go_ret
        exact ⟨rfl, HBs.out⟩
    · have F50 : Hid (RdM (((wB6.setCell ⟨WA7.heap.size, 0, none⟩ (.slice gB1 (ruM (ruM m (l.take q)) (l.drop q)).vol.length hB1)).setCell ⟨WA7.heap.size, 1, none⟩ (.slice gB2 (ruM (ruM m (l.take q)) (l.drop q)).per.length hB2)).setCell ⟨WA7.heap.size, 2, none⟩ (.slice gB3 (ruM (ruM m (l.take q)) (l.drop q)).pend.length hB3)) (.slice a1 m.vol.length c1) (.slice a2 m.per.length c2) (.slice a3 m.pend.length c3) m) := (F38.out.below H6.out).box HZ6.out _ _ _
      have F51 : Hid (Bo (((wB6.setCell ⟨WA7.heap.size, 0, none⟩ (.slice gB1 (ruM (ruM m (l.take q)) (l.drop q)).vol.length hB1)).setCell ⟨WA7.heap.size, 1, none⟩ (.slice gB2 (ruM (ruM m (l.take q)) (l.drop q)).per.length hB2)).setCell ⟨WA7.heap.size, 2, none⟩ (.slice gB3 (ruM (ruM m (l.take q)) (l.drop q)).pend.length hB3)) w.heap.size (.slice a1 m.vol.length c1) (.slice a2 m.per.length c2) (.slice a3 m.pend.length c3)) := (F39.out.below H6.out).other lt46.out _ _ _
      have F52 : Hid (Below w.heap.size w (((wB6.setCell ⟨WA7.heap.size, 0, none⟩ (.slice gB1 (ruM (ruM m (l.take q)) (l.drop q)).vol.length hB1)).setCell ⟨WA7.heap.size, 1, none⟩ (.slice gB2 (ruM (ruM m (l.take q)) (l.drop q)).per.length hB2)).setCell ⟨WA7.heap.size, 2, none⟩ (.slice gB3 (ruM (ruM m (l.take q)) (l.drop q)).pend.length hB3))) := S3.below (bstep F40.out H6.out) lt47.out _ _ _
      have F53 : Hid (RdS (((wB6.setCell ⟨WA7.heap.size, 0, none⟩ (.slice gB1 (ruM (ruM m (l.take q)) (l.drop q)).vol.length hB1)).setCell ⟨WA7.heap.size, 1, none⟩ (.slice gB2 (ruM (ruM m (l.take q)) (l.drop q)).per.length hB2)).setCell ⟨WA7.heap.size, 2, none⟩ (.slice gB3 (ruM (ruM m (l.take q)) (l.drop q)).pend.length hB3)) (.slice a l.length cap) l) := (F41.out.below H6.out).box HZ6.out _ _ _
      have F54 : Hid (RdM (((wB6.setCell ⟨WA7.heap.size, 0, none⟩ (.slice gB1 (ruM (ruM m (l.take q)) (l.drop q)).vol.length hB1)).setCell ⟨WA7.heap.size, 1, none⟩ (.slice gB2 (ruM (ruM m (l.take q)) (l.drop q)).per.length hB2)).setCell ⟨WA7.heap.size, 2, none⟩ (.slice gB3 (ruM (ruM m (l.take q)) (l.drop q)).pend.length hB3)) (.slice a_1 (ruM m l).vol.length c_1) (.slice b_1 (ruM m l).per.length d_1) (.slice p_1 (ruM m l).pend.length q_1) (ruM m l)) := (F42.out.below H6.out).box HZ6.out _ _ _
      have F55 : Hid (Bo (((wB6.setCell ⟨WA7.heap.size, 0, none⟩ (.slice gB1 (ruM (ruM m (l.take q)) (l.drop q)).vol.length hB1)).setCell ⟨WA7.heap.size, 1, none⟩ (.slice gB2 (ruM (ruM m (l.take q)) (l.drop q)).per.length hB2)).setCell ⟨WA7.heap.size, 2, none⟩ (.slice gB3 (ruM (ruM m (l.take q)) (l.drop q)).pend.length hB3)) ba (.slice a_1 (ruM m l).vol.length c_1) (.slice b_1 (ruM m l).per.length d_1) (.slice p_1 (ruM m l).pend.length q_1)) := (F43.out.below H6.out).other lt48.out _ _ _
      have F56 : Hid (RdM (((wB6.setCell ⟨WA7.heap.size, 0, none⟩ (.slice gB1 (ruM (ruM m (l.take q)) (l.drop q)).vol.length hB1)).setCell ⟨WA7.heap.size, 1, none⟩ (.slice gB2 (ruM (ruM m (l.take q)) (l.drop q)).per.length hB2)).setCell ⟨WA7.heap.size, 2, none⟩ (.slice gB3 (ruM (ruM m (l.take q)) (l.drop q)).pend.length hB3)) (.slice gA1 (ruM m (l.take q)).vol.length hA1) (.slice gA2 (ruM m (l.take q)).per.length hA2) (.slice gA3 (ruM m (l.take q)).pend.length hA3) (ruM m (l.take q))) := (F44.out.below H6.out).box HZ6.out _ _ _
      have F57 : Hid (Bo (((wB6.setCell ⟨WA7.heap.size, 0, none⟩ (.slice gB1 (ruM (ruM m (l.take q)) (l.drop q)).vol.length hB1)).setCell ⟨WA7.heap.size, 1, none⟩ (.slice gB2 (ruM (ruM m (l.take q)) (l.drop q)).per.length hB2)).setCell ⟨WA7.heap.size, 2, none⟩ (.slice gB3 (ruM (ruM m (l.take q)) (l.drop q)).pend.length hB3)) bA7 (.slice gA1 (ruM m (l.take q)).vol.length hA1) (.slice gA2 (ruM m (l.take q)).per.length hA2) (.slice gA3 (ruM m (l.take q)).pend.length hA3)) := (F45.out.below H6.out).other lt49.out _ _ _
      have F58 : Hid (RdM (((wB6.setCell ⟨WA7.heap.size, 0, none⟩ (.slice gB1 (ruM (ruM m (l.take q)) (l.drop q)).vol.length hB1)).setCell ⟨WA7.heap.size, 1, none⟩ (.slice gB2 (ruM (ruM m (l.take q)) (l.drop q)).per.length hB2)).setCell ⟨WA7.heap.size, 2, none⟩ (.slice gB3 (ruM (ruM m (l.take q)) (l.drop q)).pend.length hB3)) (.slice gB1 (ruM (ruM m (l.take q)) (l.drop q)).vol.length hB1) (.slice gB2 (ruM (ruM m (l.take q)) (l.drop q)).per.length hB2) (.slice gB3 (ruM (ruM m (l.take q)) (l.drop q)).pend.length hB3) (ruM (ruM m (l.take q)) (l.drop q))) := HR6.out.box HZ6.out _ _ _
      have F59 : Hid (Bo (((wB6.setCell ⟨WA7.heap.size, 0, none⟩ (.slice gB1 (ruM (ruM m (l.take q)) (l.drop q)).vol.length hB1)).setCell ⟨WA7.heap.size, 1, none⟩ (.slice gB2 (ruM (ruM m (l.take q)) (l.drop q)).per.length hB2)).setCell ⟨WA7.heap.size, 2, none⟩ (.slice gB3 (ruM (ruM m (l.take q)) (l.drop q)).pend.length hB3)) WA7.heap.size (.slice gB1 (ruM (ruM m (l.take q)) (l.drop q)).vol.length hB1) (.slice gB2 (ruM (ruM m (l.take q)) (l.drop q)).per.length hB2) (.slice gB3 (ruM (ruM m (l.take q)) (l.drop q)).pend.length hB3)) := HZ6.out.set _ _ _
      clear z0 z1 z2 t0 t1 t2 tf0 tf1 tf2
      clear F38 F39 F40 F41 F42 F43 F44 F45 HS0 HR6 H6 HZ6
      generalize (((wB6.setCell ⟨WA7.heap.size, 0, none⟩ (.slice gB1 (ruM (ruM m (l.take q)) (l.drop q)).vol.length hB1)).setCell ⟨WA7.heap.size, 1, none⟩ (.slice gB2 (ruM (ruM m (l.take q)) (l.drop q)).per.length hB2)).setCell ⟨WA7.heap.size, 2, none⟩ (.slice gB3 (ruM (ruM m (l.take q)) (l.drop q)).pend.length hB3)) = WB7 at F50 F51 F52 F53 F54 F55 F56 F57 F58 F59 ⊢
      generalize WA7.heap.size = bB7 at F59 ⊢
      obtain ⟨⟨c60, c61, c62⟩, -⟩ := F51.out.bx
      obtain ⟨⟨c63, c64, c65⟩, -⟩ := F55.out.bx
      obtain ⟨⟨c66, c67, c68⟩, -⟩ := F57.out.bx
      obtain ⟨⟨c69, c70, c71⟩, -⟩ := F59.out.bx
      rcases hcase with ⟨he, hf, hg, hs, ho⟩ | ⟨he, hf, hs⟩ | ⟨he, hf, hg, hs⟩
      · go_wp2_with (first
          | (go_at_call 16; refine (same_any _ _ _ _ _ _ (ruM m l) (ruM (ruM m (l.take q)) (l.drop q)) _ F54.out F58.out).mono ?_; rintro e ws ⟨rfl, hbs⟩; have HBs : Hid (Below w.heap.size w ws) := bstep F52.out hbs; obtain ⟨⟨u00, u01, u02⟩, -⟩ := (F51.out.below hbs).bx; obtain ⟨⟨u10, u11, u12⟩, -⟩ := (F55.out.below hbs).bx; obtain ⟨⟨u20, u21, u22⟩, -⟩ := (F57.out.below hbs).bx; obtain ⟨⟨u30, u31, u32⟩, -⟩ := (F59.out.below hbs).bx; have hbs' : Hid (Below WB7.heap.size WB7 ws) := hbs; clear hbs)
          | (go_at_call 20; refine (check_any _ _ _ (ruM m l) _ (F54.out.below hbs'.out)).mono ?_; rintro e wk ⟨rfl, hbk⟩; have HBs : Hid (Below w.heap.size w wk) := bstep HBs.out hbk))
        go_ret
        exact ⟨rfl, HBs.out⟩
      · go_wp2_with (first
          | (go_at_call 16; refine (same_any _ _ _ _ _ _ (ruM m l) m _ F54.out F50.out).mono ?_; rintro e ws ⟨rfl, hbs⟩; have HBs : Hid (Below w.heap.size w ws) := bstep F52.out hbs; obtain ⟨⟨u00, u01, u02⟩, -⟩ := (F51.out.below hbs).bx; obtain ⟨⟨u10, u11, u12⟩, -⟩ := (F55.out.below hbs).bx; obtain ⟨⟨u20, u21, u22⟩, -⟩ := (F57.out.below hbs).bx; obtain ⟨⟨u30, u31, u32⟩, -⟩ := (F59.out.below hbs).bx; have hbs' : Hid (Below WB7.heap.size WB7 ws) := hbs; clear hbs))
        go_ret
        exact ⟨rfl, HBs.out⟩
      · go_wp2_with (first
          | (go_at_call 16; refine (same_any _ _ _ _ _ _ (ruM m l) m _ F54.out F50.out).mono ?_; rintro e ws ⟨rfl, hbs⟩; have HBs : Hid (Below w.heap.size w ws) := bstep F52.out hbs; obtain ⟨⟨u00, u01, u02⟩, -⟩ := (F51.out.below hbs).bx; obtain ⟨⟨u10, u11, u12⟩, -⟩ := (F55.out.below hbs).bx; obtain ⟨⟨u20, u21, u22⟩, -⟩ := (F57.out.below hbs).bx; obtain ⟨⟨u30, u31, u32⟩, -⟩ := (F59.out.below hbs).bx; have hbs' : Hid (Below WB7.heap.size WB7 ws) := hbs; clear hbs))
        go_ret
        exact ⟨rfl, HBs.out⟩

set_option maxRecDepth 100000 in
set_option maxHeartbeats 4000000 in
theorem walk_MicroParts (a1 a2 a3 : Option Addr) (n1 n2 n3 c1 c2 c3 : Nat) (a : Option Addr) (nl cap : Nat) (cu : Int) (w : World) (hm : MemIn w a1 a2 a3 n1 n2 n3 c1 c2 c3) (hs : StIn w a nl cap) (hu : (Lit.int .u8 cu).wf = true) :
    Calls Try.prog 4 #[.agg #[.slice a1 n1 c1, .slice a2 n2 c2, .slice a3 n3 c3], .slice a nl cap, .int .u8 cu] w fun e w' => e = .returned (.bool true) ∧ Below w.heap.size w w' := by
  have HB : Hid (Below w.heap.size w (w.alloc (.cells #[.slice a1 n1 c1, .slice a2 n2 c2, .slice a3 n3 c3] 25))) := (Below.refl _ _).alloc (Nat.le_refl _) _
  have HX : Hid (Bo (w.alloc (.cells #[.slice a1 n1 c1, .slice a2 n2 c2, .slice a3 n3 c3] 25)) w.heap.size (.slice a1 n1 c1) (.slice a2 n2 c2) (.slice a3 n3 c3)) := Bo.new w _ _ _
  have hu2 : 0 ≤ cu ∧ cu < 256 := by
    simp [Lit.wf, IntKind.min, IntKind.max, IntKind.bits, IntKind.signed] at hu
    omega
  by_cases h : n1 ≤ 300 ∧ n2 ≤ 300 ∧ n3 ≤ 100
  · obtain ⟨h1, h2, h3⟩ := h
    have hfew : fewB n1 n2 n3 = true := decide_eq_true ⟨h1, h2, h3⟩
    by_cases hnl : (nl : Int) ≤ 100
    · obtain ⟨m, rfl, rfl, rfl, hR⟩ := hm h1 h2 h3
      obtain ⟨l, rfl, hcap, hS⟩ := hs (by omega)
      have hr0 : 0 ≤ cu % ((l.length : Int) + 1) := Int.emod_nonneg _ (by omega)
      have hr1 : cu % ((l.length : Int) + 1) < (l.length : Int) + 1 := Int.emod_lt_of_pos _ (by omega)
      obtain ⟨q, hq⟩ := Int.eq_ofNat_of_zero_le hr0
      exact parts_b a1 a2 a3 a c1 c2 c3 cap cu q l w m HB HX (hR.below HB.out) (hS.below HB.out) hfew h3 hcap hnl hu2.1 hu2.2 hq (by omega)
    · clear hm hs hu
      go_enter Try.func4, Try.ntmps4
      go_wp2_with (first
        | (go_at_call 8; refine (awake_any _).mono ?_; rintro e w0 ⟨rfl, hb0⟩; have HX0 : Hid (Bo w0 _ _ _ _) := HX.out.below hb0; obtain ⟨⟨x0, x1, x2⟩, _⟩ := HX0.out.bx; have HB0 : Hid (Below w.heap.size w w0) := bstep HB.out hb0)
        | (go_at_call 9; refine (few_any _ _ _ _ _ _ _ _ _ _).mono ?_; rintro e wf ⟨rfl, hbf⟩))
      go_ret
      exact ⟨rfl, bstep HB0.out hbf⟩
  · have hfew : fewB n1 n2 n3 = false := decide_eq_false h
    clear hm hs hu
    go_enter Try.func4, Try.ntmps4
    go_wp2_with (first
      | (go_at_call 8; refine (awake_any _).mono ?_; rintro e w0 ⟨rfl, hb0⟩; have HX0 : Hid (Bo w0 _ _ _ _) := HX.out.below hb0; obtain ⟨⟨x0, x1, x2⟩, _⟩ := HX0.out.bx; have HB0 : Hid (Below w.heap.size w w0) := bstep HB.out hb0)
      | (go_at_call 9; refine (few_any _ _ _ _ _ _ _ _ _ _).mono ?_; rintro e wf ⟨rfl, hbf⟩))
    go_ret
    exact ⟨rfl, bstep HB0.out hbf⟩
end Go.Proofs.Ythibgmndgkhfiaa
