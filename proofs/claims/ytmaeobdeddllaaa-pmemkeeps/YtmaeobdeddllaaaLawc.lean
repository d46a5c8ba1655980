/- Walks of layer 4's statements: lines. -/
import Derived.Test.YtmaeobdeddllaaaNumf
import Derived.Test.YtmaeobdeddllaaaLawb
namespace Go.Proofs.Ytmaeobdeddllaaa
open Go.RowKit Go.Shelf
set_option linter.unusedVariables false

def eqP (x y : Int) (z : Bool) (x' y' : Int) (z' : Bool) : Bool := decide (x = x' ∧ y = y' ∧ z = z')
theorem neq41 (x y x' y' : Int) (z z' : Bool) (w : World) : (binOp .neq 41 (.agg #[.int .i64 x, .int .i64 y, .bool z]) (.agg #[.int .i64 x', .int .i64 y', .bool z'])).run Try.prog w = .ok (.bool (!eqP x y z x' y' z')) w := by
  unfold eqP
  have u3 := Try.underlying3
  have a3 := Try.isAgg3
  have z3 := Try.sizeOf3
  have u4 := Try.underlying4
  have a4 := Try.isAgg4
  have z4 := Try.sizeOf4
  have hS : Try.prog.underlying 41 = some (.struct (Try.prog.fieldsOf 41)) := by kernel_rfl
  have hp : Try.prog.stoodInHeld 41 = false := by kernel_rfl
  rw [run_neq_struct, show (10000 : Nat) = 9999 + 1 from rfl, run_equalIn_agg w 9999 41 _ _ hS hp]
  simp only [Program.fieldsOf, Try.underlying41]
  go_simp
  by_cases h1 : x = x' <;> by_cases h2 : y = y' <;> by_cases h3 : z = z' <;> simp [h1, h2, h3]
/-- Two memories are the same. -/
def Pd.deq : DecidableEq Pd := fun p q => decidable_of_iff (p.a = q.a ∧ p.v = q.v ∧ p.f = q.f) (by cases p; cases q; simp)
def Mm.deq (a b : Mm) : Decidable (a.vol = b.vol ∧ a.per = b.per ∧ a.pend = b.pend) := by have : DecidableEq Pd := Pd.deq; exact inferInstance
def sameB (a b : Mm) : Bool := @decide (a.vol = b.vol ∧ a.per = b.per ∧ a.pend = b.pend) (Mm.deq a b)
theorem same_yes {a b : Mm} (h : a.vol = b.vol ∧ a.per = b.per ∧ a.pend = b.pend) : sameB a b = true := @decide_eq_true _ (Mm.deq a b) h
theorem same_no {a b : Mm} (h : ¬ (a.vol = b.vol ∧ a.per = b.per ∧ a.pend = b.pend)) : sameB a b = false := @decide_eq_false _ (Mm.deq a b) h

set_option maxRecDepth 100000 in
set_option maxHeartbeats 4000000 in
theorem same_any (va vb vc ua ub uc : Value) (a b : Mm) (w : World) (hA : RdM w va vb vc a) (hB : RdM w ua ub uc b) : Calls Try.prog 13 #[.agg #[va, vb, vc], .agg #[ua, ub, uc]] w fun e w' => e = .returned (.bool (sameB a b)) ∧ Below w.heap.size w w' := by
  obtain ⟨l1, l2, l3⟩ := hA.lens
  obtain ⟨k1, k2, k3⟩ := hB.lens
  obtain ⟨a1, c1, a2, c2, a3, c3, rfl, rfl, rfl⟩ := hA.forms
  obtain ⟨b1, d1, b2, d2, b3, d3, rfl, rfl, rfl⟩ := hB.forms
  have B0 : Below w.heap.size w ((w.alloc (.cells #[.slice a1 a.vol.length c1, .slice a2 a.per.length c2, .slice a3 a.pend.length c3] 25)).alloc (.cells #[.slice b1 b.vol.length d1, .slice b2 b.per.length d2, .slice b3 b.pend.length d3] 25)) := ((Below.refl _ _).alloc (Nat.le_refl _) _).alloc (by simp) _
  have X0 : Bo ((w.alloc (.cells #[.slice a1 a.vol.length c1, .slice a2 a.per.length c2, .slice a3 a.pend.length c3] 25)).alloc (.cells #[.slice b1 b.vol.length d1, .slice b2 b.per.length d2, .slice b3 b.pend.length d3] 25)) w.heap.size (.slice a1 a.vol.length c1) (.slice a2 a.per.length c2) (.slice a3 a.pend.length c3) := (Bo.new w _ _ _).below ((Below.refl _ _).alloc (Nat.le_refl _) _)
  have Y0 : Bo ((w.alloc (.cells #[.slice a1 a.vol.length c1, .slice a2 a.per.length c2, .slice a3 a.pend.length c3] 25)).alloc (.cells #[.slice b1 b.vol.length d1, .slice b2 b.per.length d2, .slice b3 b.pend.length d3] 25)) (w.heap.size + 1) (.slice b1 b.vol.length d1) (.slice b2 b.per.length d2) (.slice b3 b.pend.length d3) := by
    have := Bo.new (w.alloc (.cells #[.slice a1 a.vol.length c1, .slice a2 a.per.length c2, .slice a3 a.pend.length c3] 25)) (.slice b1 b.vol.length d1) (.slice b2 b.per.length d2) (.slice b3 b.pend.length d3)
    rwa [World.size_alloc] at this
  have HB0 : Hid (Below w.heap.size w _) := B0
  have HX0 : Hid (Bo _ _ _ _ _) := X0
  have HY0 : Hid (Bo _ _ _ _ _) := Y0
  have hq := neq41
  clear B0 X0 Y0
  cases e1 : decide (a.vol = b.vol)
  · have H : Hid (sameB a b = false) := same_no fun h => of_decide_eq_false e1 h.1
    have t0 : Hid (0 = 0) := rfl
    go_enter Try.func13, Try.ntmps13
    go_wp2_with (first
      | (go_at_call 26; clear t0; refine (numbers_any _ _ a.vol b.vol _ (hA.below HB0.out).vol (hB.below HB0.out).vol).mono ?_; rintro e w1 ⟨rfl, hb1⟩; obtain ⟨⟨x0, x1, x2⟩, -⟩ := (HX0.out.below hb1).bx; obtain ⟨⟨y0, y1, y2⟩, -⟩ := (HY0.out.below hb1).bx; have HB1 : Hid (Below w.heap.size w w1) := bstep HB0.out hb1)
      | (go_at_call 26; refine (numbers_any _ _ a.per b.per _ (hA.below HB1.out).per (hB.below HB1.out).per).mono ?_; rintro e w2 ⟨rfl, hb2⟩))
    go_ret
    exact ⟨ret_bool H.out.symm, bstep HB1.out hb2⟩
  · cases e2 : decide (a.per = b.per)
    · have H : Hid (sameB a b = false) := same_no fun h => of_decide_eq_false e2 h.2.1
      have t0 : Hid (0 = 0) := rfl
      go_enter Try.func13, Try.ntmps13
      go_wp2_with (first
        | (go_at_call 26; clear t0; refine (numbers_any _ _ a.vol b.vol _ (hA.below HB0.out).vol (hB.below HB0.out).vol).mono ?_; rintro e w1 ⟨rfl, hb1⟩; obtain ⟨⟨x0, x1, x2⟩, -⟩ := (HX0.out.below hb1).bx; obtain ⟨⟨y0, y1, y2⟩, -⟩ := (HY0.out.below hb1).bx; have HB1 : Hid (Below w.heap.size w w1) := bstep HB0.out hb1)
        | (go_at_call 26; refine (numbers_any _ _ a.per b.per _ (hA.below HB1.out).per (hB.below HB1.out).per).mono ?_; rintro e w2 ⟨rfl, hb2⟩))
      go_ret
      exact ⟨ret_bool H.out.symm, bstep HB1.out hb2⟩
    · have E12 : Hid (a.vol = b.vol ∧ a.per = b.per) := ⟨of_decide_eq_true e1, of_decide_eq_true e2⟩
      by_cases e3 : a.pend.length = b.pend.length
      · have e3' : ((a.pend.length : Int) != (b.pend.length : Int)) = false := by simp [e3]
        have E3 : Hid (a.pend.length = b.pend.length) := e3
        clear e3
        have t0 : Hid (0 = 0) := rfl
        go_enter Try.func13, Try.ntmps13
        go_wp2_with (first
          | (go_at_call 26; clear t0; refine (numbers_any _ _ a.vol b.vol _ (hA.below HB0.out).vol (hB.below HB0.out).vol).mono ?_; rintro e w1 ⟨rfl, hb1⟩; obtain ⟨⟨x0, x1, x2⟩, -⟩ := (HX0.out.below hb1).bx; obtain ⟨⟨y0, y1, y2⟩, -⟩ := (HY0.out.below hb1).bx; have HB1 : Hid (Below w.heap.size w w1) := bstep HB0.out hb1)
          | (go_at_call 26; refine (numbers_any _ _ a.per b.per _ (hA.below HB1.out).per (hB.below HB1.out).per).mono ?_; rintro e w2 ⟨rfl, hb2⟩; have HX2 : Hid (Bo w2 _ _ _ _) := (HX0.out.below hb1).below hb2; have HY2 : Hid (Bo w2 _ _ _ _) := (HY0.out.below hb1).below hb2; have HB2 : Hid (Below w.heap.size w w2) := bstep HB1.out hb2; clear x0 x1 x2 y0 y1 y2; obtain ⟨⟨x0, x1, x2⟩, -⟩ := HX2.out.bx; obtain ⟨⟨y0, y1, y2⟩, -⟩ := HY2.out.bx; clear hb1 hb2))
        clear x0 x1 x2 y0 y1 y2
        go_loopw [7] (fun t w3 => ∃ k : Nat, k ≤ a.pend.length ∧ t = .int .i64 k ∧ a.pend.take k = b.pend.take k ∧ Below w2.heap.size w2 w3) (fun t _ => a.pend.length - (intOf t).toNat)
        case atStart => exact ⟨0, Nat.zero_le _, rfl, rfl, Below.refl _ _⟩
        case round =>
          obtain ⟨k, hk, rfl, ht, hbr⟩ := hrel
          obtain ⟨⟨x0, x1, x2⟩, -⟩ := (HX2.out.below hbr).bx
          obtain ⟨⟨y0, y1, y2⟩, -⟩ := (HY2.out.below hbr).bx
          have Ht : Hid (a.pend.take k = b.pend.take k) := ht
          clear ht
          by_cases hlt : k < a.pend.length
          · have hltI : (k : Int) < (a.pend.length : Int) := by omega
            have hlt2 : k < b.pend.length := by have := E3.out; omega
            have hltJ : (k : Int) < (b.pend.length : Int) := by omega
            obtain ⟨p, hp⟩ : ∃ p, a.pend[k]? = some p := ⟨_, List.getElem?_eq_getElem hlt⟩
            obtain ⟨q, hq2⟩ : ∃ q, b.pend[k]? = some q := ⟨_, List.getElem?_eq_getElem hlt2⟩
            have hpa := take_next hp
            have hpb := take_next hq2
            obtain ⟨g1, o1, rfl, s0, s1, s2⟩ := ((hA.below HB2.out).below hbr).pend.get hp
            obtain ⟨g2, o2, rfl, r0, r1, r2⟩ := ((hB.below HB2.out).below hbr).pend.get hq2
            by_cases he : p = q
            · have Hn : Hid (a.pend.take (k + 1) = b.pend.take (k + 1)) := by (show _ = _; rw [hpa, hpb, Ht.out, he])
              subst he
              obtain ⟨pa, pv, pf⟩ := p
              dsimp only at s0 s1 s2 r0 r1 r2
              have hd : eqP pa pv pf pa pv pf = true := decide_eq_true ⟨rfl, rfl, rfl⟩
              clear hp hq2 hpa hpb
              go_wp2
              go_quiet (fail)
              go_wp2
              go_roundw
              case rel => exact ⟨k + 1, by omega, by go_num, Hn.out, below_drewN hbr _⟩
              case measure => simp [intOf]; omega
            · have H : Hid (sameB a b = false) := same_no fun h => he (by
                have := h.2.2
                rw [this, hq2] at hp
                exact (Option.some.inj hp).symm)
              obtain ⟨pa, pv, pf⟩ := p
              obtain ⟨qa, qv, qf⟩ := q
              dsimp only at s0 s1 s2 r0 r1 r2
              have hd : eqP pa pv pf qa qv qf = false := decide_eq_false (fun h => he (by rw [h.1, h.2.1, h.2.2]))
              clear hp hq2 hpa hpb he
              go_wp2
              go_quiet (fail)
              go_wp2
              go_ret
              exact ⟨ret_bool H.out.symm, below_drewN (bstep HB2.out hbr) _⟩
          · have H : Hid (sameB a b = true) := same_yes ⟨E12.out.1, E12.out.2, by
              have := Ht.out
              rw [List.take_of_length_le (by omega), List.take_of_length_le (by have := E3.out; omega)] at this
              exact this⟩
            go_wp2
            go_ret
            exact ⟨ret_bool H.out.symm, bstep HB2.out hbr⟩
      · have e3' : ((a.pend.length : Int) != (b.pend.length : Int)) = true := by simp; omega
        have H : Hid (sameB a b = false) := same_no fun h => e3 (by rw [h.2.2])
        have t0 : Hid (0 = 0) := rfl
        go_enter Try.func13, Try.ntmps13
        go_wp2_with (first
          | (go_at_call 26; clear t0; refine (numbers_any _ _ a.vol b.vol _ (hA.below HB0.out).vol (hB.below HB0.out).vol).mono ?_; rintro e w1 ⟨rfl, hb1⟩; obtain ⟨⟨x0, x1, x2⟩, -⟩ := (HX0.out.below hb1).bx; obtain ⟨⟨y0, y1, y2⟩, -⟩ := (HY0.out.below hb1).bx; have HB1 : Hid (Below w.heap.size w w1) := bstep HB0.out hb1)
          | (go_at_call 26; refine (numbers_any _ _ a.per b.per _ (hA.below HB1.out).per (hB.below HB1.out).per).mono ?_; rintro e w2 ⟨rfl, hb2⟩; clear x0 x1 x2 y0 y1 y2; obtain ⟨⟨x0, x1, x2⟩, -⟩ := ((HX0.out.below hb1).below hb2).bx; obtain ⟨⟨y0, y1, y2⟩, -⟩ := ((HY0.out.below hb1).below hb2).bx))
        go_ret
        exact ⟨ret_bool H.out.symm, bstep HB1.out hb2⟩

set_option maxRecDepth 100000 in
set_option maxHeartbeats 8000000 in
theorem lines_a (a1 a2 a3 ak : Option Addr) (c1 c2 c3 ck : Nat) (ln : Int) (keep : List Int) (w : World) (m : Mm) (HB : Hid (Below w.heap.size w (w.alloc (.cells #[.slice a1 m.vol.length c1, .slice a2 m.per.length c2, .slice a3 m.pend.length c3] 25)))) (HX : Hid (Bo (w.alloc (.cells #[.slice a1 m.vol.length c1, .slice a2 m.per.length c2, .slice a3 m.pend.length c3] 25)) w.heap.size (.slice a1 m.vol.length c1) (.slice a2 m.per.length c2) (.slice a3 m.pend.length c3))) (HR : Hid (RdM (w.alloc (.cells #[.slice a1 m.vol.length c1, .slice a2 m.per.length c2, .slice a3 m.pend.length c3] 25)) (.slice a1 m.vol.length c1) (.slice a2 m.per.length c2) (.slice a3 m.pend.length c3) m)) (HK : Hid (Rd (w.alloc (.cells #[.slice a1 m.vol.length c1, .slice a2 m.per.length c2, .slice a3 m.pend.length c3] 25)) (.slice ak keep.length ck) keep)) (hBd : Bd keep) (hfew : fewB m.vol.length m.per.length m.pend.length = true) (h1 : m.vol.length ≤ 300) (h3 : m.pend.length ≤ 100) (hk3 : (keep.length : Int) ≤ 300) (hOk : Hid (Ok m)) (hN : Hid (lnB m ln = false)) : Calls Try.prog 7 #[.agg #[.slice a1 m.vol.length c1, .slice a2 m.per.length c2, .slice a3 m.pend.length c3], .int .i64 ln, .slice ak keep.length ck] w fun e w' => e = .returned (.bool true) ∧ Below w.heap.size w w' := by
  have oM : ok m = true := ok_true hOk.out
  have he : lnE m ln = 40 := by unfold lnE; rw [hN.out]; rfl
  have hs : sameB (eviM m ln) m = true := same_yes (by unfold eviM; rw [hN.out]; exact ⟨rfl, rfl, rfl⟩)
  have t0 : Hid (0 = 0) := rfl
  have t1 : Hid (0 = 0) := rfl
  have t2 : Hid (0 = 0) := rfl
  have t3 : Hid (0 = 0) := rfl
  have t4 : Hid (0 = 0) := rfl
  have t5 : Hid (0 = 0) := rfl
  have t6 : Hid (0 = 0) := rfl
  go_enter Try.func7, Try.ntmps7
  go_wp2_with (first
    | (go_at_call 9; clear t0; refine (awake_any _).mono ?_; rintro e w0 ⟨rfl, hb0⟩; have F1 : Hid (RdM w0 (.slice a1 m.vol.length c1) (.slice a2 m.per.length c2) (.slice a3 m.pend.length c3) m) := HR.out.below hb0; have F2 : Hid (Bo w0 w.heap.size (.slice a1 m.vol.length c1) (.slice a2 m.per.length c2) (.slice a3 m.pend.length c3)) := HX.out.below hb0; have F3 : Hid (Below w.heap.size w w0) := bstep HB.out hb0; have F4 : Hid (Rd w0 (.slice ak keep.length ck) keep) := HK.out.below hb0; clear hb0; obtain ⟨⟨c5, c6, c7⟩, -⟩ := F2.out.bx; clear HR HX HB HK)
    | (go_at_call 10; clear t1; refine (few_any _ _ _ _ _ _ _ _ _ _).mono ?_; rintro e wf ⟨rfl, hbf⟩; have F8 : Hid (RdM wf (.slice a1 m.vol.length c1) (.slice a2 m.per.length c2) (.slice a3 m.pend.length c3) m) := F1.out.below hbf; have F9 : Hid (Bo wf w.heap.size (.slice a1 m.vol.length c1) (.slice a2 m.per.length c2) (.slice a3 m.pend.length c3)) := F2.out.below hbf; have F10 : Hid (Below w.heap.size w wf) := bstep F3.out hbf; have F11 : Hid (Rd wf (.slice ak keep.length ck) keep) := F4.out.below hbf; clear hbf; obtain ⟨⟨c12, c13, c14⟩, -⟩ := F9.out.bx; clear c5 c6 c7; clear F1 F2 F3 F4)
    | (go_at_call 27; clear t2; refine (check_any _ _ _ m _ F8.out).mono ?_; rintro e wc ⟨rfl, hbwc⟩; have F15 : Hid (RdM wc (.slice a1 m.vol.length c1) (.slice a2 m.per.length c2) (.slice a3 m.pend.length c3) m) := F8.out.below hbwc; have F16 : Hid (Bo wc w.heap.size (.slice a1 m.vol.length c1) (.slice a2 m.per.length c2) (.slice a3 m.pend.length c3)) := F9.out.below hbwc; have F17 : Hid (Below w.heap.size w wc) := bstep F10.out hbwc; have F18 : Hid (Rd wc (.slice ak keep.length ck) keep) := F11.out.below hbwc; clear hbwc; obtain ⟨⟨c19, c20, c21⟩, -⟩ := F16.out.bx; clear c12 c13 c14; clear F8 F9 F10 F11)
    | (go_at_call 18; clear t3; refine (evict_any _ _ _ m ln _ F15.out).mono ?_; rintro e w_1 ⟨v_1a, v_1b, v_1c, rfl, R_1, hb_1⟩; have R_1 : RdM w_1 v_1a v_1b v_1c (eviM m ln) := R_1; obtain ⟨a_1, c_1, b_1, d_1, p_1, q_1, rfl, rfl, rfl⟩ := R_1.forms; have F22 : Hid (RdM w_1 (.slice a1 m.vol.length c1) (.slice a2 m.per.length c2) (.slice a3 m.pend.length c3) m) := F15.out.below hb_1; have F23 : Hid (Bo w_1 w.heap.size (.slice a1 m.vol.length c1) (.slice a2 m.per.length c2) (.slice a3 m.pend.length c3)) := F16.out.below hb_1; have F24 : Hid (Below w.heap.size w w_1) := bstep F17.out hb_1; have F25 : Hid (Rd w_1 (.slice ak keep.length ck) keep) := F18.out.below hb_1; have F26 : Hid (RdM w_1 (.slice a_1 (eviM m ln).vol.length c_1) (.slice b_1 (eviM m ln).per.length d_1) (.slice p_1 (eviM m ln).pend.length q_1) (eviM m ln)) := R_1; clear R_1 hb_1; have lt27 : w.heap.size < w_1.heap.size := F23.out.lt; have lt28 : w.heap.size ≤ w_1.heap.size := F24.out.size; have hb29 : Below w_1.heap.size w_1 (w_1.alloc (.cells #[.slice a_1 (eviM m ln).vol.length c_1, .slice b_1 (eviM m ln).per.length d_1, .slice p_1 (eviM m ln).pend.length q_1] 25)) := (Below.refl _ _).alloc (Nat.le_refl _) _; have F30 : Hid (RdM (w_1.alloc (.cells #[.slice a_1 (eviM m ln).vol.length c_1, .slice b_1 (eviM m ln).per.length d_1, .slice p_1 (eviM m ln).pend.length q_1] 25)) (.slice a1 m.vol.length c1) (.slice a2 m.per.length c2) (.slice a3 m.pend.length c3) m) := F22.out.below hb29; have F31 : Hid (Bo (w_1.alloc (.cells #[.slice a_1 (eviM m ln).vol.length c_1, .slice b_1 (eviM m ln).per.length d_1, .slice p_1 (eviM m ln).pend.length q_1] 25)) w.heap.size (.slice a1 m.vol.length c1) (.slice a2 m.per.length c2) (.slice a3 m.pend.length c3)) := F23.out.below hb29; have F32 : Hid (Below w.heap.size w (w_1.alloc (.cells #[.slice a_1 (eviM m ln).vol.length c_1, .slice b_1 (eviM m ln).per.length d_1, .slice p_1 (eviM m ln).pend.length q_1] 25))) := bstep F24.out hb29; have F33 : Hid (Rd (w_1.alloc (.cells #[.slice a_1 (eviM m ln).vol.length c_1, .slice b_1 (eviM m ln).per.length d_1, .slice p_1 (eviM m ln).pend.length q_1] 25)) (.slice ak keep.length ck) keep) := F25.out.below hb29; have F34 : Hid (RdM (w_1.alloc (.cells #[.slice a_1 (eviM m ln).vol.length c_1, .slice b_1 (eviM m ln).per.length d_1, .slice p_1 (eviM m ln).pend.length q_1] 25)) (.slice a_1 (eviM m ln).vol.length c_1) (.slice b_1 (eviM m ln).per.length d_1) (.slice p_1 (eviM m ln).pend.length q_1) (eviM m ln)) := F26.out.below hb29; have F35 : Hid (Bo (w_1.alloc (.cells #[.slice a_1 (eviM m ln).vol.length c_1, .slice b_1 (eviM m ln).per.length d_1, .slice p_1 (eviM m ln).pend.length q_1] 25)) w_1.heap.size (.slice a_1 (eviM m ln).vol.length c_1) (.slice b_1 (eviM m ln).per.length d_1) (.slice p_1 (eviM m ln).pend.length q_1)) := Bo.new w_1 _ _ _; obtain ⟨⟨c36, c37, c38⟩, -⟩ := F31.out.bx; obtain ⟨⟨c39, c40, c41⟩, -⟩ := F35.out.bx; clear c19 c20 c21; clear F15 F16 F17 F18 F22 F23 F24 F25 F26)
    | (go_at_call 22; clear t4; refine (crash_any _ _ _ _ m keep _ F30.out F33.out hBd).mono ?_; rintro e w_2 ⟨v_2, rfl, R_2, hb_2⟩; have R_2 : Rd w_2 v_2 (crP m keep) := R_2; obtain ⟨l_2, a_2, c_2, rfl⟩ := R_2.form; have F42 : Hid (RdM w_2 (.slice a1 m.vol.length c1) (.slice a2 m.per.length c2) (.slice a3 m.pend.length c3) m) := F30.out.below hb_2; have F43 : Hid (Bo w_2 w.heap.size (.slice a1 m.vol.length c1) (.slice a2 m.per.length c2) (.slice a3 m.pend.length c3)) := F31.out.below hb_2; have F44 : Hid (Below w.heap.size w w_2) := bstep F32.out hb_2; have F45 : Hid (Rd w_2 (.slice ak keep.length ck) keep) := F33.out.below hb_2; have F46 : Hid (RdM w_2 (.slice a_1 (eviM m ln).vol.length c_1) (.slice b_1 (eviM m ln).per.length d_1) (.slice p_1 (eviM m ln).pend.length q_1) (eviM m ln)) := F34.out.below hb_2; have F47 : Hid (Bo w_2 w_1.heap.size (.slice a_1 (eviM m ln).vol.length c_1) (.slice b_1 (eviM m ln).per.length d_1) (.slice p_1 (eviM m ln).pend.length q_1)) := F35.out.below hb_2; have F48 : Hid (Rd w_2 (.slice a_2 (crP m keep).length c_2) (crP m keep)) := R_2; clear R_2 hb_2 l_2; obtain ⟨⟨c49, c50, c51⟩, -⟩ := F43.out.bx; obtain ⟨⟨c52, c53, c54⟩, -⟩ := F47.out.bx; clear c36 c37 c38 c39 c40 c41; clear F30 F31 F32 F33 F34 F35)
    | (go_at_call 22; clear t5; refine (crash_any _ _ _ _ (eviM m ln) keep _ F46.out F45.out hBd).mono ?_; rintro e w_3 ⟨v_3, rfl, R_3, hb_3⟩; have R_3 : Rd w_3 v_3 (crP (eviM m ln) keep) := R_3; obtain ⟨l_3, a_3, c_3, rfl⟩ := R_3.form; have F55 : Hid (RdM w_3 (.slice a1 m.vol.length c1) (.slice a2 m.per.length c2) (.slice a3 m.pend.length c3) m) := F42.out.below hb_3; have F56 : Hid (Bo w_3 w.heap.size (.slice a1 m.vol.length c1) (.slice a2 m.per.length c2) (.slice a3 m.pend.length c3)) := F43.out.below hb_3; have F57 : Hid (Below w.heap.size w w_3) := bstep F44.out hb_3; have F58 : Hid (Rd w_3 (.slice ak keep.length ck) keep) := F45.out.below hb_3; have F59 : Hid (RdM w_3 (.slice a_1 (eviM m ln).vol.length c_1) (.slice b_1 (eviM m ln).per.length d_1) (.slice p_1 (eviM m ln).pend.length q_1) (eviM m ln)) := F46.out.below hb_3; have F60 : Hid (Bo w_3 w_1.heap.size (.slice a_1 (eviM m ln).vol.length c_1) (.slice b_1 (eviM m ln).per.length d_1) (.slice p_1 (eviM m ln).pend.length q_1)) := F47.out.below hb_3; have F61 : Hid (Rd w_3 (.slice a_2 (crP m keep).length c_2) (crP m keep)) := F48.out.below hb_3; have F62 : Hid (Rd w_3 (.slice a_3 (crP (eviM m ln) keep).length c_3) (crP (eviM m ln) keep)) := R_3; clear R_3 hb_3 l_3; obtain ⟨⟨c63, c64, c65⟩, -⟩ := F56.out.bx; obtain ⟨⟨c66, c67, c68⟩, -⟩ := F60.out.bx; clear c49 c50 c51 c52 c53 c54; clear F42 F43 F44 F45 F46 F47 F48)
    | (go_at_call 13; clear t6; refine (same_any _ _ _ _ _ _ (eviM m ln) m _ F59.out F55.out).mono ?_; rintro e ws ⟨rfl, hbws⟩; have F69 : Hid (RdM ws (.slice a1 m.vol.length c1) (.slice a2 m.per.length c2) (.slice a3 m.pend.length c3) m) := F55.out.below hbws; have F70 : Hid (Bo ws w.heap.size (.slice a1 m.vol.length c1) (.slice a2 m.per.length c2) (.slice a3 m.pend.length c3)) := F56.out.below hbws; have F71 : Hid (Below w.heap.size w ws) := bstep F57.out hbws; have F72 : Hid (Rd ws (.slice ak keep.length ck) keep) := F58.out.below hbws; have F73 : Hid (RdM ws (.slice a_1 (eviM m ln).vol.length c_1) (.slice b_1 (eviM m ln).per.length d_1) (.slice p_1 (eviM m ln).pend.length q_1) (eviM m ln)) := F59.out.below hbws; have F74 : Hid (Bo ws w_1.heap.size (.slice a_1 (eviM m ln).vol.length c_1) (.slice b_1 (eviM m ln).per.length d_1) (.slice p_1 (eviM m ln).pend.length q_1)) := F60.out.below hbws; have F75 : Hid (Rd ws (.slice a_2 (crP m keep).length c_2) (crP m keep)) := F61.out.below hbws; have F76 : Hid (Rd ws (.slice a_3 (crP (eviM m ln) keep).length c_3) (crP (eviM m ln) keep)) := F62.out.below hbws; clear hbws; obtain ⟨⟨c77, c78, c79⟩, -⟩ := F70.out.bx; obtain ⟨⟨c80, c81, c82⟩, -⟩ := F74.out.bx; clear c63 c64 c65 c66 c67 c68; clear F55 F56 F57 F58 F59 F60 F61 F62))
  go_ret
  exact ⟨rfl, F71.out⟩

set_option maxRecDepth 100000 in
set_option maxHeartbeats 8000000 in
theorem lines_b (a1 a2 a3 ak : Option Addr) (c1 c2 c3 ck : Nat) (ln : Int) (keep : List Int) (w : World) (m : Mm) (HB : Hid (Below w.heap.size w (w.alloc (.cells #[.slice a1 m.vol.length c1, .slice a2 m.per.length c2, .slice a3 m.pend.length c3] 25)))) (HX : Hid (Bo (w.alloc (.cells #[.slice a1 m.vol.length c1, .slice a2 m.per.length c2, .slice a3 m.pend.length c3] 25)) w.heap.size (.slice a1 m.vol.length c1) (.slice a2 m.per.length c2) (.slice a3 m.pend.length c3))) (HR : Hid (RdM (w.alloc (.cells #[.slice a1 m.vol.length c1, .slice a2 m.per.length c2, .slice a3 m.pend.length c3] 25)) (.slice a1 m.vol.length c1) (.slice a2 m.per.length c2) (.slice a3 m.pend.length c3) m)) (HK : Hid (Rd (w.alloc (.cells #[.slice a1 m.vol.length c1, .slice a2 m.per.length c2, .slice a3 m.pend.length c3] 25)) (.slice ak keep.length ck) keep)) (hBd : Bd keep) (hfew : fewB m.vol.length m.per.length m.pend.length = true) (h1 : m.vol.length ≤ 300) (h3 : m.pend.length ≤ 100) (hk3 : (keep.length : Int) ≤ 300) (hOk : Hid (Ok m)) (hN : Hid (lnB m ln = true)) : Calls Try.prog 7 #[.agg #[.slice a1 m.vol.length c1, .slice a2 m.per.length c2, .slice a3 m.pend.length c3], .int .i64 ln, .slice ak keep.length ck] w fun e w' => e = .returned (.bool true) ∧ Below w.heap.size w w' := by
  have oM : ok m = true := ok_true hOk.out
  have he : lnE m ln = 0 := by unfold lnE; rw [hN.out]; rfl
  have t0 : Hid (0 = 0) := rfl
  have t1 : Hid (0 = 0) := rfl
  have t2 : Hid (0 = 0) := rfl
  have t3 : Hid (0 = 0) := rfl
  have t4 : Hid (0 = 0) := rfl
  have t5 : Hid (0 = 0) := rfl
  go_enter Try.func7, Try.ntmps7
  go_wp2_with (first
    | (go_at_call 9; clear t0; refine (awake_any _).mono ?_; rintro e w0 ⟨rfl, hb0⟩; have F1 : Hid (RdM w0 (.slice a1 m.vol.length c1) (.slice a2 m.per.length c2) (.slice a3 m.pend.length c3) m) := HR.out.below hb0; have F2 : Hid (Bo w0 w.heap.size (.slice a1 m.vol.length c1) (.slice a2 m.per.length c2) (.slice a3 m.pend.length c3)) := HX.out.below hb0; have F3 : Hid (Below w.heap.size w w0) := bstep HB.out hb0; have F4 : Hid (Rd w0 (.slice ak keep.length ck) keep) := HK.out.below hb0; clear hb0; obtain ⟨⟨c5, c6, c7⟩, -⟩ := F2.out.bx; clear HR HX HB HK)
    | (go_at_call 10; clear t1; refine (few_any _ _ _ _ _ _ _ _ _ _).mono ?_; rintro e wf ⟨rfl, hbf⟩; have F8 : Hid (RdM wf (.slice a1 m.vol.length c1) (.slice a2 m.per.length c2) (.slice a3 m.pend.length c3) m) := F1.out.below hbf; have F9 : Hid (Bo wf w.heap.size (.slice a1 m.vol.length c1) (.slice a2 m.per.length c2) (.slice a3 m.pend.length c3)) := F2.out.below hbf; have F10 : Hid (Below w.heap.size w wf) := bstep F3.out hbf; have F11 : Hid (Rd wf (.slice ak keep.length ck) keep) := F4.out.below hbf; clear hbf; obtain ⟨⟨c12, c13, c14⟩, -⟩ := F9.out.bx; clear c5 c6 c7; clear F1 F2 F3 F4)
    | (go_at_call 27; clear t2; refine (check_any _ _ _ m _ F8.out).mono ?_; rintro e wc ⟨rfl, hbwc⟩; have F15 : Hid (RdM wc (.slice a1 m.vol.length c1) (.slice a2 m.per.length c2) (.slice a3 m.pend.length c3) m) := F8.out.below hbwc; have F16 : Hid (Bo wc w.heap.size (.slice a1 m.vol.length c1) (.slice a2 m.per.length c2) (.slice a3 m.pend.length c3)) := F9.out.below hbwc; have F17 : Hid (Below w.heap.size w wc) := bstep F10.out hbwc; have F18 : Hid (Rd wc (.slice ak keep.length ck) keep) := F11.out.below hbwc; clear hbwc; obtain ⟨⟨c19, c20, c21⟩, -⟩ := F16.out.bx; clear c12 c13 c14; clear F8 F9 F10 F11)
    | (go_at_call 18; clear t3; refine (evict_any _ _ _ m ln _ F15.out).mono ?_; rintro e w_1 ⟨v_1a, v_1b, v_1c, rfl, R_1, hb_1⟩; have R_1 : RdM w_1 v_1a v_1b v_1c (eviM m ln) := R_1; obtain ⟨a_1, c_1, b_1, d_1, p_1, q_1, rfl, rfl, rfl⟩ := R_1.forms; have F22 : Hid (RdM w_1 (.slice a1 m.vol.length c1) (.slice a2 m.per.length c2) (.slice a3 m.pend.length c3) m) := F15.out.below hb_1; have F23 : Hid (Bo w_1 w.heap.size (.slice a1 m.vol.length c1) (.slice a2 m.per.length c2) (.slice a3 m.pend.length c3)) := F16.out.below hb_1; have F24 : Hid (Below w.heap.size w w_1) := bstep F17.out hb_1; have F25 : Hid (Rd w_1 (.slice ak keep.length ck) keep) := F18.out.below hb_1; have F26 : Hid (RdM w_1 (.slice a_1 (eviM m ln).vol.length c_1) (.slice b_1 (eviM m ln).per.length d_1) (.slice p_1 (eviM m ln).pend.length q_1) (eviM m ln)) := R_1; clear R_1 hb_1; have lt27 : w.heap.size < w_1.heap.size := F23.out.lt; have lt28 : w.heap.size ≤ w_1.heap.size := F24.out.size; have hb29 : Below w_1.heap.size w_1 (w_1.alloc (.cells #[.slice a_1 (eviM m ln).vol.length c_1, .slice b_1 (eviM m ln).per.length d_1, .slice p_1 (eviM m ln).pend.length q_1] 25)) := (Below.refl _ _).alloc (Nat.le_refl _) _; have F30 : Hid (RdM (w_1.alloc (.cells #[.slice a_1 (eviM m ln).vol.length c_1, .slice b_1 (eviM m ln).per.length d_1, .slice p_1 (eviM m ln).pend.length q_1] 25)) (.slice a1 m.vol.length c1) (.slice a2 m.per.length c2) (.slice a3 m.pend.length c3) m) := F22.out.below hb29; have F31 : Hid (Bo (w_1.alloc (.cells #[.slice a_1 (eviM m ln).vol.length c_1, .slice b_1 (eviM m ln).per.length d_1, .slice p_1 (eviM m ln).pend.length q_1] 25)) w.heap.size (.slice a1 m.vol.length c1) (.slice a2 m.per.length c2) (.slice a3 m.pend.length c3)) := F23.out.below hb29; have F32 : Hid (Below w.heap.size w (w_1.alloc (.cells #[.slice a_1 (eviM m ln).vol.length c_1, .slice b_1 (eviM m ln).per.length d_1, .slice p_1 (eviM m ln).pend.length q_1] 25))) := bstep F24.out hb29; have F33 : Hid (Rd (w_1.alloc (.cells #[.slice a_1 (eviM m ln).vol.length c_1, .slice b_1 (eviM m ln).per.length d_1, .slice p_1 (eviM m ln).pend.length q_1] 25)) (.slice ak keep.length ck) keep) := F25.out.below hb29; have F34 : Hid (RdM (w_1.alloc (.cells #[.slice a_1 (eviM m ln).vol.length c_1, .slice b_1 (eviM m ln).per.length d_1, .slice p_1 (eviM m ln).pend.length q_1] 25)) (.slice a_1 (eviM m ln).vol.length c_1) (.slice b_1 (eviM m ln).per.length d_1) (.slice p_1 (eviM m ln).pend.length q_1) (eviM m ln)) := F26.out.below hb29; have F35 : Hid (Bo (w_1.alloc (.cells #[.slice a_1 (eviM m ln).vol.length c_1, .slice b_1 (eviM m ln).per.length d_1, .slice p_1 (eviM m ln).pend.length q_1] 25)) w_1.heap.size (.slice a_1 (eviM m ln).vol.length c_1) (.slice b_1 (eviM m ln).per.length d_1) (.slice p_1 (eviM m ln).pend.length q_1)) := Bo.new w_1 _ _ _; obtain ⟨⟨c36, c37, c38⟩, -⟩ := F31.out.bx; obtain ⟨⟨c39, c40, c41⟩, -⟩ := F35.out.bx; clear c19 c20 c21; clear F15 F16 F17 F18 F22 F23 F24 F25 F26)
    | (go_at_call 22; clear t4; refine (crash_any _ _ _ _ m keep _ F30.out F33.out hBd).mono ?_; rintro e w_2 ⟨v_2, rfl, R_2, hb_2⟩; have R_2 : Rd w_2 v_2 (crP m keep) := R_2; obtain ⟨l_2, a_2, c_2, rfl⟩ := R_2.form; have F42 : Hid (RdM w_2 (.slice a1 m.vol.length c1) (.slice a2 m.per.length c2) (.slice a3 m.pend.length c3) m) := F30.out.below hb_2; have F43 : Hid (Bo w_2 w.heap.size (.slice a1 m.vol.length c1) (.slice a2 m.per.length c2) (.slice a3 m.pend.length c3)) := F31.out.below hb_2; have F44 : Hid (Below w.heap.size w w_2) := bstep F32.out hb_2; have F45 : Hid (Rd w_2 (.slice ak keep.length ck) keep) := F33.out.below hb_2; have F46 : Hid (RdM w_2 (.slice a_1 (eviM m ln).vol.length c_1) (.slice b_1 (eviM m ln).per.length d_1) (.slice p_1 (eviM m ln).pend.length q_1) (eviM m ln)) := F34.out.below hb_2; have F47 : Hid (Bo w_2 w_1.heap.size (.slice a_1 (eviM m ln).vol.length c_1) (.slice b_1 (eviM m ln).per.length d_1) (.slice p_1 (eviM m ln).pend.length q_1)) := F35.out.below hb_2; have F48 : Hid (Rd w_2 (.slice a_2 (crP m keep).length c_2) (crP m keep)) := R_2; clear R_2 hb_2 l_2; obtain ⟨⟨c49, c50, c51⟩, -⟩ := F43.out.bx; obtain ⟨⟨c52, c53, c54⟩, -⟩ := F47.out.bx; clear c36 c37 c38 c39 c40 c41; clear F30 F31 F32 F33 F34 F35)
    | (go_at_call 22; clear t5; refine (crash_any _ _ _ _ (eviM m ln) keep _ F46.out F45.out hBd).mono ?_; rintro e w_3 ⟨v_3, rfl, R_3, hb_3⟩; have R_3 : Rd w_3 v_3 (crP (eviM m ln) keep) := R_3; obtain ⟨l_3, a_3, c_3, rfl⟩ := R_3.form; have F55 : Hid (RdM w_3 (.slice a1 m.vol.length c1) (.slice a2 m.per.length c2) (.slice a3 m.pend.length c3) m) := F42.out.below hb_3; have F56 : Hid (Bo w_3 w.heap.size (.slice a1 m.vol.length c1) (.slice a2 m.per.length c2) (.slice a3 m.pend.length c3)) := F43.out.below hb_3; have F57 : Hid (Below w.heap.size w w_3) := bstep F44.out hb_3; have F58 : Hid (Rd w_3 (.slice ak keep.length ck) keep) := F45.out.below hb_3; have F59 : Hid (RdM w_3 (.slice a_1 (eviM m ln).vol.length c_1) (.slice b_1 (eviM m ln).per.length d_1) (.slice p_1 (eviM m ln).pend.length q_1) (eviM m ln)) := F46.out.below hb_3; have F60 : Hid (Bo w_3 w_1.heap.size (.slice a_1 (eviM m ln).vol.length c_1) (.slice b_1 (eviM m ln).per.length d_1) (.slice p_1 (eviM m ln).pend.length q_1)) := F47.out.below hb_3; have F61 : Hid (Rd w_3 (.slice a_2 (crP m keep).length c_2) (crP m keep)) := F48.out.below hb_3; have F62 : Hid (Rd w_3 (.slice a_3 (crP (eviM m ln) keep).length c_3) (crP (eviM m ln) keep)) := R_3; clear R_3 hb_3 l_3; obtain ⟨⟨c63, c64, c65⟩, -⟩ := F56.out.bx; obtain ⟨⟨c66, c67, c68⟩, -⟩ := F60.out.bx; clear c49 c50 c51 c52 c53 c54; clear F42 F43 F44 F45 F46 F47 F48))
  clear c63 c64 c65 c66 c67 c68
  have WLdef : True := trivial
  go_loopw [14] (fun t w1 => ∃ k : Nat, k ≤ m.vol.length ∧ t = .int .i64 k ∧ Below w_3.heap.size w_3 w1) (fun t _ => m.vol.length - (intOf t).toNat)
  case atStart => exact ⟨0, Nat.zero_le _, rfl, Below.refl _ _⟩
  case round =>
    obtain ⟨k, hk, rfl, hbr⟩ := hrel
    obtain ⟨⟨x0, x1, x2⟩, -⟩ := (F60.out.below hbr).bx
    obtain ⟨⟨y0, y1, y2⟩, -⟩ := (F56.out.below hbr).bx
    by_cases hlt : k < m.vol.length
    · have hltI : (k : Int) < (m.vol.length : Int) := by omega
      have hk1 : k < (eviM m ln).per.length := by rw [(evi_len ln).1, hOk.out.1]; exact hlt
      have hk2 : k < m.per.length := by rw [hOk.out.1]; exact hlt
      have hk3 : k < (crP m keep).length := by rw [crP_length hOk.out]; exact hlt
      have hk4 : k < (crP (eviM m ln) keep).length := by rw [crP_length (ok_evi hOk.out ln), vol_evi]; exact hlt
      have hi1 : (k : Int) < ((eviM m ln).per.length : Int) := by omega
      have hi2 : (k : Int) < (m.per.length : Int) := by omega
      have hi3 : (k : Int) < ((crP m keep).length : Int) := by omega
      have hi4 : (k : Int) < ((crP (eviM m ln) keep).length : Int) := by omega
      have mA := F59.out.per.below hbr
      have mM := F55.out.per.below hbr
      have mX := F61.out.below hbr
      have mY := F62.out.below hbr
      obtain ⟨bA, oA, rfl, -⟩ := mA.base (by omega)
      obtain ⟨bM, oM, rfl, -⟩ := mM.base (by omega)
      obtain ⟨bX, oX, rfl, -⟩ := mX.base (by omega)
      obtain ⟨bY, oY, rfl, -⟩ := mY.base (by omega)
      obtain ⟨l, hl⟩ : ∃ l, k / 8 = l := ⟨_, rfl⟩
      have hl8 : (k : Int) / 8 = (l : Int) := by omega
      by_cases hln : (l : Int) = ln
      · have tl : ((l : Int) != ln) = false := by simp [hln]
        clear mA mM mX mY hk1 hk2 hk3 hk4
        go_wp2
        go_quiet (fail)
        go_wp2
        go_roundw
        case rel => exact ⟨k + 1, by omega, by go_num, below_drewN hbr _⟩
        case measure => simp [intOf]; omega
      · have tl : ((l : Int) != ln) = true := by simp [hln]
        obtain ⟨z, hz⟩ : ∃ z, m.per[k]? = some z := ⟨_, List.getElem?_eq_getElem hk2⟩
        obtain ⟨y, hy⟩ : ∃ y, (crP m keep)[k]? = some y := ⟨_, List.getElem?_eq_getElem hk3⟩
        have cM := mM.cell hz
        have cA := mA.cell (show (eviM m ln).per[k]? = some z from by rw [evi_per hOk.out (by omega)]; exact hz)
        have cX := mX.cell hy
        have cY := mY.cell (show (crP (eviM m ln) keep)[k]? = some y from by rw [evi_crash hOk.out hN.out keep hlt (by omega)]; exact hy)
        have zz : (z != z) = false := by simp
        have yy : (y != y) = false := by simp
        clear mA mM mX mY hk1 hk2 hk3 hk4 hz hy
        go_wp2
        go_quiet (fail)
        go_wp2
        go_roundw
        case rel => exact ⟨k + 1, by omega, by go_num, below_drewN hbr _⟩
        case measure => simp [intOf]; omega
    · obtain rfl : k = m.vol.length := by omega
      have hpl : (((eviM m ln).pend.length : Int) ≤ (m.pend.length : Int)) := by have := (evi_len (m := m) ln).2; omega
      go_wp2
      go_ret
      exact ⟨rfl, bstep F57.out hbr⟩

set_option maxRecDepth 100000 in
set_option maxHeartbeats 1000000 in
theorem walk_PmemLines (a1 a2 a3 : Option Addr) (n1 n2 n3 c1 c2 c3 : Nat) (ln : Int) (ak : Option Addr) (nk ck : Nat) (w : World) (hm : MemIn w a1 a2 a3 n1 n2 n3 c1 c2 c3) (hk : KeepIn w ak nk ck) :
    Calls Try.prog 7 #[.agg #[.slice a1 n1 c1, .slice a2 n2 c2, .slice a3 n3 c3], .int .i64 ln, .slice ak nk ck] w fun e w' => e = .returned (.bool true) ∧ Below w.heap.size w w' := by
  by_cases h : n1 ≤ 300 ∧ n2 ≤ 300 ∧ n3 ≤ 100
  · obtain ⟨h1, h2, h3⟩ := h
    obtain ⟨m, rfl, rfl, rfl, hR⟩ := hm h1 h2 h3
    have HB : Hid (Below w.heap.size w (w.alloc (.cells #[.slice a1 m.vol.length c1, .slice a2 m.per.length c2, .slice a3 m.pend.length c3] 25))) := (Below.refl _ _).alloc (Nat.le_refl _) _
    have HX : Hid (Bo (w.alloc (.cells #[.slice a1 m.vol.length c1, .slice a2 m.per.length c2, .slice a3 m.pend.length c3] 25)) w.heap.size (.slice a1 m.vol.length c1) (.slice a2 m.per.length c2) (.slice a3 m.pend.length c3)) := Bo.new w _ _ _
    have HR : Hid (RdM (w.alloc (.cells #[.slice a1 m.vol.length c1, .slice a2 m.per.length c2, .slice a3 m.pend.length c3] 25)) (.slice a1 m.vol.length c1) (.slice a2 m.per.length c2) (.slice a3 m.pend.length c3) m) := hR.below HB.out
    have hfew : fewB m.vol.length m.per.length m.pend.length = true := decide_eq_true ⟨h1, h2, h3⟩
    clear hR hm
    cases hok : ok m
    · go_enter Try.func7, Try.ntmps7
      go_wp2_with (first
        | (go_at_call 9; refine (awake_any _).mono ?_; rintro e w0 ⟨rfl, hb0⟩; have HX0 : Hid (Bo w0 _ _ _ _) := HX.out.below hb0; obtain ⟨⟨x0, x1, x2⟩, _⟩ := HX0.out.bx; have HB0 : Hid (Below w.heap.size w w0) := bstep HB.out hb0; have HR0 : Hid (RdM w0 _ _ _ m) := HR.out.below hb0)
        | (go_at_call 10; refine (few_any _ _ _ _ _ _ _ _ _ _).mono ?_; rintro e wf ⟨rfl, hbf⟩; obtain ⟨⟨y0, y1, y2⟩, _⟩ := (HX0.out.below hbf).bx)
        | (go_at_call 27; refine (check_any _ _ _ m _ (HR0.out.below hbf)).mono ?_; rintro e wc ⟨rfl, hbc⟩))
      go_ret
      exact ⟨rfl, bstep (bstep HB0.out hbf) hbc⟩
    · by_cases hn : (nk : Int) ≤ 300
      · obtain ⟨keep, rfl, hK, hBd⟩ := hk (by omega)
        have HK : Hid (Rd (w.alloc (.cells #[.slice a1 m.vol.length c1, .slice a2 m.per.length c2, .slice a3 m.pend.length c3] 25)) (.slice ak keep.length ck) keep) := hK.below HB.out
        cases hp : lnB m ln
        · exact lines_a a1 a2 a3 ak c1 c2 c3 ck ln keep w m HB HX HR HK hBd hfew h1 h3 hn (ok_out hok) hp
        · exact lines_b a1 a2 a3 ak c1 c2 c3 ck ln keep w m HB HX HR HK hBd hfew h1 h3 hn (ok_out hok) hp
      · go_enter Try.func7, Try.ntmps7
        go_wp2_with (first
          | (go_at_call 9; refine (awake_any _).mono ?_; rintro e w0 ⟨rfl, hb0⟩; have HX0 : Hid (Bo w0 _ _ _ _) := HX.out.below hb0; obtain ⟨⟨x0, x1, x2⟩, _⟩ := HX0.out.bx; have HB0 : Hid (Below w.heap.size w w0) := bstep HB.out hb0; have HR0 : Hid (RdM w0 _ _ _ m) := HR.out.below hb0)
          | (go_at_call 10; refine (few_any _ _ _ _ _ _ _ _ _ _).mono ?_; rintro e wf ⟨rfl, hbf⟩; obtain ⟨⟨y0, y1, y2⟩, _⟩ := (HX0.out.below hbf).bx)
          | (go_at_call 27; refine (check_any _ _ _ m _ (HR0.out.below hbf)).mono ?_; rintro e wc ⟨rfl, hbc⟩))
        go_ret
        exact ⟨rfl, bstep (bstep HB0.out hbf) hbc⟩
  · clear hm
    have HB : Hid (Below w.heap.size w (w.alloc (.cells #[.slice a1 n1 c1, .slice a2 n2 c2, .slice a3 n3 c3] 25))) := (Below.refl _ _).alloc (Nat.le_refl _) _
    have HX : Hid (Bo (w.alloc (.cells #[.slice a1 n1 c1, .slice a2 n2 c2, .slice a3 n3 c3] 25)) w.heap.size (.slice a1 n1 c1) (.slice a2 n2 c2) (.slice a3 n3 c3)) := Bo.new w _ _ _
    have hfew : fewB n1 n2 n3 = false := decide_eq_false h
    go_enter Try.func7, Try.ntmps7
    go_wp2_with (first
      | (go_at_call 9; refine (awake_any _).mono ?_; rintro e w0 ⟨rfl, hb0⟩; have HX0 := HX.out.below hb0; obtain ⟨⟨x0, x1, x2⟩, _⟩ := HX0.bx; have HB0 : Hid (Below w.heap.size w w0) := bstep HB.out hb0; clear HX0)
      | (go_at_call 10; refine (few_any _ _ _ _ _ _ _ _ _ _).mono ?_; rintro e wf ⟨rfl, hbf⟩))
    go_ret
    exact ⟨rfl, bstep HB0.out hbf⟩
end Go.Proofs.Ytmaeobdeddllaaa

