/- Walk of FastBack. -/
import Derived.Test.YtoboiahknapddaaFasti
import Derived.Test.YtoboiahknapddaaNumo
import Derived.Test.YtoboiahknapddaaStepg
import Derived.Test.YtoboiahknapddaaMemin
namespace Go.Proofs.Ytoboiahknapddaa
open Go.RowKit Go.Shelf
set_option linter.unusedVariables false

theorem own_steps {W : World} {base : Nat} {v : Value} {L : List Mi} (h : W.ownsRow base 51 3 v (0 + L.length) ([] ++ mcs L)) : OwnS W base v L := by
  rw [Nat.zero_add] at h
  exact h
theorem own_both {W : World} {base : Nat} {v : Value} {A B : List Mi} (h : W.ownsRow base 51 3 v (A.length + B.length) (mcs A ++ mcs B)) : OwnS W base v (A ++ B) := by
  unfold OwnS
  rw [List.length_append, mcs_append]
  exact h
theorem RdM.formsA {W : World} {va vb vc : Value} {X : List Int} (h : RdM W va vb vc (allM X)) : ∃ a1 c1 a2 c2 a3 c3, va = .slice a1 X.length c1 ∧ vb = .slice a2 X.length c2 ∧ vc = .slice a3 0 c3 := h.forms
theorem insE_why {l : List Int} {p r : Int} (h : insE 16 l p r = 0) : mcB 16 l = true ∧ 0 < r ∧ 0 ≤ p ∧ p ≤ (l.length : Int) ∧ l.length ≤ 12 ∧ insS 16 l p r = putS 16 (insF l p.toNat r) := by
  have eB : insB 16 l p r = true := by
    cases e : insB 16 l p r
    · unfold insE at h; rw [e] at h; cases h
    · rfl
  have hn : l.length ≠ 13 := by
    intro e
    rw [(ins_full eB e).2] at h
    cases h
  have e2 := eB
  unfold insB at e2
  simp only [Bool.and_eq_true, decide_eq_true_eq] at e2
  have := (mcB_out e2.1).2.1
  exact ⟨e2.1, e2.2.1, e2.2.2.1, e2.2.2.2, by omega, (ins_yes eB hn).1⟩
theorem insS_none {l : List Int} {p r : Int} (h : insE 16 l p r ≠ 0) : insS 16 l p r = [] := by
  cases e : insB 16 l p r
  · unfold insS; rw [e]; rfl
  · by_cases hn : l.length = 13
    · exact (ins_full e hn).1
    · exact absurd (ins_yes e hn).2 h

set_option maxRecDepth 100000 in
set_option maxHeartbeats 8000000 in
theorem walk_FastBack (a : Option Addr) (len cap : Nat) (p r : Int) (w : World) (hK : KeepIn w a len cap) : Calls Try.prog 8 #[.slice a len cap, .int .i64 p, .int .i64 r] w fun e w' => e = .returned (.bool true) ∧ Below w.heap.size w w' := by
  by_cases h1 : (20 : Int) < (len : Int)
  · have HB0 : Hid (Below w.heap.size w w) := Below.refl _ _
    go_enter Try.func8, Try.ntmps8
    go_wp2_with (first
      | (go_at_call 9; refine (awake_any _).mono ?_; rintro e w1 ⟨rfl, hbw⟩; have HB1 : Hid (Below w.heap.size w w1) := bstep HB0.out hbw; clear HB0; clear hbw))
    go_ret
    exact ⟨rfl, HB1.out⟩
  obtain ⟨l, hl, hR, _⟩ := hK (by omega)
  subst hl
  have HB0 : Hid (Below w.heap.size w w) := Below.refl _ _
  have FL0 : Hid (Rd w (.slice a l.length cap) l) := hR
  clear hR
  cases eU : unB l r
  · go_enter Try.func8, Try.ntmps8
    go_wp2_with (first
      | (go_at_call 9; refine (awake_any _).mono ?_; rintro e w1 ⟨rfl, hbw⟩; have HB1 : Hid (Below w.heap.size w w1) := bstep HB0.out hbw; have FL1 : Hid (Rd w1 (.slice a l.length cap) l) := FL0.out.below hbw; clear HB0 FL0; clear hbw)
      | (go_at_call 26; refine (unlike_any _ l r _ FL1.out).mono ?_; rintro e w2 ⟨rfl, hbw⟩; rw [eU]; have HB2 : Hid (Below w.heap.size w w2) := bstep HB1.out hbw; have FL2 : Hid (Rd w2 (.slice a l.length cap) l) := FL1.out.below hbw; clear HB1 FL1; clear hbw))
    go_ret
    exact ⟨rfl, HB2.out⟩
  by_cases hE : insE 16 l p r = 0
  · obtain ⟨hmc, hr, hp0, hp1, h12, hiS⟩ := insE_why hE
    obtain ⟨pn, rfl⟩ : ∃ pn : Nat, p = (pn : Int) := ⟨p.toNat, by omega⟩
    have hU : Unl l r := @of_decide_eq_true _ (Unl.dec l r) eU
    have hpn : pn ≤ l.length := by omega
    have h9 : l.length ≤ 900 := by omega
    have hwl := wiL_length (l := l) (r := r) hpn
    have hposw : ∀ x ∈ wiL l pn r, 0 < x := pos_wi (fun x hx => (hU.1 x hx).1) hr pn
    have hdB : delB 16 (wiL l pn r) (pn : Int) = true := by
      unfold delB mcB hpB posB
      rw [nd16, decide_eq_true (by omega), List.all_eq_true.2 (fun x hx => decide_eq_true (hposw x hx)), decide_eq_true (by omega)]
      rfl
    obtain ⟨hdS, hdE⟩ := del_yes hdB
    have HiS : Hid (insS 16 l (pn : Int) r = putS 16 (insF l pn r)) := hiS
    have HdS : Hid (delS 16 (wiL l pn r) (pn : Int) = putS 16 (delF (wiL l pn r) pn)) := hdS
    obtain ⟨m1, m2, r1, r2⟩ := back_facts (r := r) h12 hpn
    have HrMp : Hid (ruM (allM (laidW (l))) (putS 16 (insF l pn r) ++ putS 16 (delF (wiL l pn r) pn)) = allM (laidW (l))) := r1
    have HrMq : Hid (ruM (allM (laidW (wiL l pn r))) (putS 16 (delF (wiL l pn r) pn) ++ putS 16 (insF l pn r)) = allM (laidW (wiL l pn r))) := r2
    have e1 : ruE (allM (laidW (l))) (putS 16 (insF l pn r) ++ putS 16 (delF (wiL l pn r) pn)) = 0 := ruE_yes m1
    have e2 : ruE (allM (laidW (wiL l pn r))) (putS 16 (delF (wiL l pn r) pn) ++ putS 16 (insF l pn r)) = 0 := ruE_yes m2
    have f1 := few_ins (b := 16) (l := l) (p := pn) (r := r) nd16 h12 hpn
    have f2 := few_del (b := 16) (l := wiL l pn r) (p := pn) nd16 (by omega)
    have hw13 : (wiL l pn r).length ≤ 13 := by omega
    have hlkp : (putS 16 (insF l pn r)).length ≤ 100000 := by omega
    have hlkq : (putS 16 (delF (wiL l pn r) pn)).length ≤ 100000 := by omega
    have hlTp : (putS 16 (insF l pn r) ++ putS 16 (delF (wiL l pn r) pn)).length ≤ 1000 := by rw [List.length_append]; omega
    have hlTq : (putS 16 (delF (wiL l pn r) pn) ++ putS 16 (insF l pn r)).length ≤ 1000 := by rw [List.length_append]; omega
    have hrnp : (allM (laidW (l))).pend.length + (putS 16 (insF l pn r) ++ putS 16 (delF (wiL l pn r) pn)).length ≤ 900 := by rw [List.length_append]; show 0 + _ ≤ _; omega
    have hrnq : (allM (laidW (wiL l pn r))).pend.length + (putS 16 (delF (wiL l pn r) pn) ++ putS 16 (insF l pn r)).length ≤ 900 := by rw [List.length_append]; show 0 + _ ≤ _; omega
    have Hslp : Hid (slN (laidW (l)) 16 = l) := laidW_slots (by omega) (fun x hx => (hU.1 x hx).1)
    have Hslq : Hid (slN (laidW (wiL l pn r)) 16 = wiL l pn r) := laidW_slots hw13 hposw
    clear m1 m2 r1 r2 hiS hdS hdB hmc hU hposw hwl
    have tp1 : Hid (0 = 0) := rfl
    have tp2 : Hid (0 = 0) := rfl
    have tp3 : Hid (0 = 0) := rfl
    have tp4 : Hid (0 = 0) := rfl
    have tq1 : Hid (0 = 0) := rfl
    have tq2 : Hid (0 = 0) := rfl
    have tq3 : Hid (0 = 0) := rfl
    have tq4 : Hid (0 = 0) := rfl
    have ts1 : Hid (0 = 0) := rfl
    have ts2 : Hid (0 = 0) := rfl
    have ts3 : Hid (0 = 0) := rfl
    have ts4 : Hid (0 = 0) := rfl
    go_enter Try.func8, Try.ntmps8
    go_wp2_with (first
      | (go_at_call 9; refine (awake_any _).mono ?_; rintro e w1 ⟨rfl, hbw⟩; have HB1 : Hid (Below w.heap.size w w1) := bstep HB0.out hbw; have FL1 : Hid (Rd w1 (.slice a l.length cap) l) := FL0.out.below hbw; clear HB0 FL0; clear hbw)
      | (go_at_call 26; refine (unlike_any _ l r _ FL1.out).mono ?_; rintro e w2 ⟨rfl, hbw⟩; rw [eU]; have HB2 : Hid (Below w.heap.size w w2) := bstep HB1.out hbw; have FL2 : Hid (Rd w2 (.slice a l.length cap) l) := FL1.out.below hbw; clear HB1 FL1; clear hbw)
      | (go_at_call 10; refine (insert_any 16 _ l (pn : Int) r _ FL2.out).mono ?_; rintro e w3 ⟨vA, rfl, R, hbw⟩; rw [HiS.out] at R; have HB3 : Hid (Below w.heap.size w w3) := bstep HB2.out hbw; have FL3 : Hid (Rd w3 (.slice a l.length cap) l) := FL2.out.below hbw; have FA3 : Hid (RdS w3 vA (putS 16 (insF l pn r))) := R; clear HB2 FL2; clear hbw; clear R)
      | (go_at_call 27; refine (with_any _ l pn r _ FL3.out hpn).mono ?_; rintro e w4 ⟨vW, rfl, R, hbw⟩; have HB4 : Hid (Below w.heap.size w w4) := bstep HB3.out hbw; have FL4 : Hid (Rd w4 (.slice a l.length cap) l) := FL3.out.below hbw; have FA4 : Hid (RdS w4 vA (putS 16 (insF l pn r))) := FA3.out.below hbw; have FV4 : Hid (Rd w4 vW (wiL l pn r)) := R h9; clear HB3 FL3 FA3; clear hbw; clear R)
      | (go_at_call 12; refine (delete_any 16 _ (wiL l pn r) (pn : Int) _ FV4.out).mono ?_; rintro e w5 ⟨vB, rfl, R, hbw⟩; rw [HdS.out] at R; have HB5 : Hid (Below w.heap.size w w5) := bstep HB4.out hbw; have FL5 : Hid (Rd w5 (.slice a l.length cap) l) := FL4.out.below hbw; have FA5 : Hid (RdS w5 vA (putS 16 (insF l pn r))) := FA4.out.below hbw; have FV5 : Hid (Rd w5 vW (wiL l pn r)) := FV4.out.below hbw; have FB5 : Hid (RdS w5 vB (putS 16 (delF (wiL l pn r) pn))) := R; clear HB4 FL4 FA4 FV4; clear hbw; clear R)
      | (go_at_call 29; clear tp1; refine (laid_any _ (l) _ FL5.out (by omega)).mono ?_; rintro e w6 ⟨xp, yp, zp, rfl, R, hbw⟩; obtain ⟨ap1, cp1, ap2, cp2, ap3, cp3, rfl, rfl, rfl⟩ := R.formsA; have HB6 : Hid (Below w.heap.size w w6) := bstep HB5.out hbw; have FL6 : Hid (Rd w6 (.slice a l.length cap) l) := FL5.out.below hbw; have FA6 : Hid (RdS w6 vA (putS 16 (insF l pn r))) := FA5.out.below hbw; have FV6 : Hid (Rd w6 vW (wiL l pn r)) := FV5.out.below hbw; have FB6 : Hid (RdS w6 vB (putS 16 (delF (wiL l pn r) pn))) := FB5.out.below hbw; have FM6 : Hid (RdM w6 (.slice ap1 (laidW (l)).length cp1) (.slice ap2 (laidW (l)).length cp2) (.slice ap3 0 cp3) (allM (laidW (l)))) := R; clear HB5 FL5 FA5 FV5 FB5; clear hbw; clear R)
      | (at_builtin; clear tp2; refine append_rdc rfl _ _ 24 rfl w6.heap.size 51 3 _ 24 Try.underlying24 Try.info51 rfl (by decide) (by decide) _ 0 [] rfl (World.ownsRow_made (base := w6.heap.size) (e := 51) (size := 3) w6 #[] 0 (Nat.le_refl _) (by omega) rfl) _ (putS 16 (insF l pn r)).length _ rfl (FA6.out.below ((Below.refl _ _).alloc (Nat.le_refl _) _)) (mcs_one _) (by omega) (by simp) ?_; intro v7 w7 o7 g7; have HT7 : Hid (Below w6.heap.size w6 w7) := ((Below.refl _ _).alloc (Nat.le_refl _) _).grown g7 (by simp) (by intro q hq; cases hq; exact Nat.le_refl _); have O7 : Hid (OwnS w7 w6.heap.size v7 (putS 16 (insF l pn r))) := own_steps o7; clear o7 g7)
      | (at_builtin; clear tp3; refine append_rdc rfl _ _ 24 rfl w6.heap.size 51 3 _ 24 Try.underlying24 Try.info51 rfl (by decide) (by decide) _ _ _ rfl O7.out _ (putS 16 (delF (wiL l pn r) pn)).length _ rfl (FB6.out.below HT7.out) (mcs_one _) hlkp HT7.out.size ?_; intro v8 w8 o8 g8; have hbw : Below w6.heap.size w6 w8 := HT7.out.grown g8 HT7.out.size (by intro q hq; exact (World.ownsRow.lt O7.out q hq).1); have HB8 : Hid (Below w.heap.size w w8) := bstep HB6.out hbw; have FL8 : Hid (Rd w8 (.slice a l.length cap) l) := FL6.out.below hbw; have FA8 : Hid (RdS w8 vA (putS 16 (insF l pn r))) := FA6.out.below hbw; have FV8 : Hid (Rd w8 vW (wiL l pn r)) := FV6.out.below hbw; have FB8 : Hid (RdS w8 vB (putS 16 (delF (wiL l pn r) pn))) := FB6.out.below hbw; have FM8 : Hid (RdM w8 (.slice ap1 (laidW (l)).length cp1) (.slice ap2 (laidW (l)).length cp2) (.slice ap3 0 cp3) (allM (laidW (l)))) := FM6.out.below hbw; have FTp8 : Hid (RdS w8 v8 (putS 16 (insF l pn r) ++ putS 16 (delF (wiL l pn r) pn))) := (own_both o8).rd hlTp; clear HB6 FL6 FA6 FV6 FB6 FM6; clear o8 g8 HT7 O7 hbw)
      | (go_at_call 30; clear tp4; refine (run_any _ _ _ _ (allM (laidW (l))) (putS 16 (insF l pn r) ++ putS 16 (delF (wiL l pn r) pn)) _ FM8.out FTp8.out hrnp).mono ?_; rintro e w9 ⟨up1, up2, up3, rfl, R, hbw⟩; rw [HrMp.out] at R; obtain ⟨bp1, dp1, bp2, dp2, bp3, dp3, rfl, rfl, rfl⟩ := R.formsA; have HB9 : Hid (Below w.heap.size w w9) := bstep HB8.out hbw; have FL9 : Hid (Rd w9 (.slice a l.length cap) l) := FL8.out.below hbw; have FA9 : Hid (RdS w9 vA (putS 16 (insF l pn r))) := FA8.out.below hbw; have FV9 : Hid (Rd w9 vW (wiL l pn r)) := FV8.out.below hbw; have FB9 : Hid (RdS w9 vB (putS 16 (delF (wiL l pn r) pn))) := FB8.out.below hbw; have FRp9 : Hid (RdM w9 (.slice bp1 (laidW (l)).length dp1) (.slice bp2 (laidW (l)).length dp2) (.slice bp3 0 dp3) (allM (laidW (l)))) := R; clear HB8 FL8 FA8 FV8 FB8 FM8 FTp8; clear hbw; have HB10 : Hid (Below w.heap.size w (w9.alloc (.cells #[.slice bp1 (laidW (l)).length dp1, .slice bp2 (laidW (l)).length dp2, .slice bp3 0 dp3] 41))) := bstep HB9.out ((Below.refl _ _).alloc (Nat.le_refl _) _); have FL10 : Hid (Rd (w9.alloc (.cells #[.slice bp1 (laidW (l)).length dp1, .slice bp2 (laidW (l)).length dp2, .slice bp3 0 dp3] 41)) (.slice a l.length cap) l) := FL9.out.below ((Below.refl _ _).alloc (Nat.le_refl _) _); have FA10 : Hid (RdS (w9.alloc (.cells #[.slice bp1 (laidW (l)).length dp1, .slice bp2 (laidW (l)).length dp2, .slice bp3 0 dp3] 41)) vA (putS 16 (insF l pn r))) := FA9.out.below ((Below.refl _ _).alloc (Nat.le_refl _) _); have FV10 : Hid (Rd (w9.alloc (.cells #[.slice bp1 (laidW (l)).length dp1, .slice bp2 (laidW (l)).length dp2, .slice bp3 0 dp3] 41)) vW (wiL l pn r)) := FV9.out.below ((Below.refl _ _).alloc (Nat.le_refl _) _); have FB10 : Hid (RdS (w9.alloc (.cells #[.slice bp1 (laidW (l)).length dp1, .slice bp2 (laidW (l)).length dp2, .slice bp3 0 dp3] 41)) vB (putS 16 (delF (wiL l pn r) pn))) := FB9.out.below ((Below.refl _ _).alloc (Nat.le_refl _) _); have FRp10 : Hid (RdM (w9.alloc (.cells #[.slice bp1 (laidW (l)).length dp1, .slice bp2 (laidW (l)).length dp2, .slice bp3 0 dp3] 41)) (.slice bp1 (laidW (l)).length dp1) (.slice bp2 (laidW (l)).length dp2) (.slice bp3 0 dp3) (allM (laidW (l)))) := FRp9.out.below ((Below.refl _ _).alloc (Nat.le_refl _) _); have FXp10 : Hid (Bo (w9.alloc (.cells #[.slice bp1 (laidW (l)).length dp1, .slice bp2 (laidW (l)).length dp2, .slice bp3 0 dp3] 41)) w9.heap.size (.slice bp1 (laidW (l)).length dp1) (.slice bp2 (laidW (l)).length dp2) (.slice bp3 0 dp3)) := Bo.new w9 _ _ _; clear HB9 FL9 FA9 FV9 FB9 FRp9; clear R)
      | (go_at_call 29; clear tq1; refine (laid_any _ (wiL l pn r) _ FV10.out hw13).mono ?_; rintro e w11 ⟨xq, yq, zq, rfl, R, hbw⟩; obtain ⟨aq1, cq1, aq2, cq2, aq3, cq3, rfl, rfl, rfl⟩ := R.formsA; have HB11 : Hid (Below w.heap.size w w11) := bstep HB10.out hbw; have FL11 : Hid (Rd w11 (.slice a l.length cap) l) := FL10.out.below hbw; have FA11 : Hid (RdS w11 vA (putS 16 (insF l pn r))) := FA10.out.below hbw; have FV11 : Hid (Rd w11 vW (wiL l pn r)) := FV10.out.below hbw; have FB11 : Hid (RdS w11 vB (putS 16 (delF (wiL l pn r) pn))) := FB10.out.below hbw; have FRp11 : Hid (RdM w11 (.slice bp1 (laidW (l)).length dp1) (.slice bp2 (laidW (l)).length dp2) (.slice bp3 0 dp3) (allM (laidW (l)))) := FRp10.out.below hbw; have FXp11 : Hid (Bo w11 w9.heap.size (.slice bp1 (laidW (l)).length dp1) (.slice bp2 (laidW (l)).length dp2) (.slice bp3 0 dp3)) := FXp10.out.below hbw; have FM11 : Hid (RdM w11 (.slice aq1 (laidW (wiL l pn r)).length cq1) (.slice aq2 (laidW (wiL l pn r)).length cq2) (.slice aq3 0 cq3) (allM (laidW (wiL l pn r)))) := R; clear HB10 FL10 FA10 FV10 FB10 FRp10 FXp10; clear hbw; clear R)
      | (at_builtin; clear tq2; refine append_rdc rfl _ _ 24 rfl w11.heap.size 51 3 _ 24 Try.underlying24 Try.info51 rfl (by decide) (by decide) _ 0 [] rfl (World.ownsRow_made (base := w11.heap.size) (e := 51) (size := 3) w11 #[] 0 (Nat.le_refl _) (by omega) rfl) _ (putS 16 (delF (wiL l pn r) pn)).length _ rfl (FB11.out.below ((Below.refl _ _).alloc (Nat.le_refl _) _)) (mcs_one _) (by omega) (by simp) ?_; intro v12 w12 o12 g12; have HT12 : Hid (Below w11.heap.size w11 w12) := ((Below.refl _ _).alloc (Nat.le_refl _) _).grown g12 (by simp) (by intro q hq; cases hq; exact Nat.le_refl _); have O12 : Hid (OwnS w12 w11.heap.size v12 (putS 16 (delF (wiL l pn r) pn))) := own_steps o12; clear o12 g12)
      | (at_builtin; clear tq3; refine append_rdc rfl _ _ 24 rfl w11.heap.size 51 3 _ 24 Try.underlying24 Try.info51 rfl (by decide) (by decide) _ _ _ rfl O12.out _ (putS 16 (insF l pn r)).length _ rfl (FA11.out.below HT12.out) (mcs_one _) hlkq HT12.out.size ?_; intro v13 w13 o13 g13; have hbw : Below w11.heap.size w11 w13 := HT12.out.grown g13 HT12.out.size (by intro q hq; exact (World.ownsRow.lt O12.out q hq).1); have HB13 : Hid (Below w.heap.size w w13) := bstep HB11.out hbw; have FL13 : Hid (Rd w13 (.slice a l.length cap) l) := FL11.out.below hbw; have FA13 : Hid (RdS w13 vA (putS 16 (insF l pn r))) := FA11.out.below hbw; have FV13 : Hid (Rd w13 vW (wiL l pn r)) := FV11.out.below hbw; have FB13 : Hid (RdS w13 vB (putS 16 (delF (wiL l pn r) pn))) := FB11.out.below hbw; have FRp13 : Hid (RdM w13 (.slice bp1 (laidW (l)).length dp1) (.slice bp2 (laidW (l)).length dp2) (.slice bp3 0 dp3) (allM (laidW (l)))) := FRp11.out.below hbw; have FXp13 : Hid (Bo w13 w9.heap.size (.slice bp1 (laidW (l)).length dp1) (.slice bp2 (laidW (l)).length dp2) (.slice bp3 0 dp3)) := FXp11.out.below hbw; have FM13 : Hid (RdM w13 (.slice aq1 (laidW (wiL l pn r)).length cq1) (.slice aq2 (laidW (wiL l pn r)).length cq2) (.slice aq3 0 cq3) (allM (laidW (wiL l pn r)))) := FM11.out.below hbw; have FTq13 : Hid (RdS w13 v13 (putS 16 (delF (wiL l pn r) pn) ++ putS 16 (insF l pn r))) := (own_both o13).rd hlTq; clear HB11 FL11 FA11 FV11 FB11 FRp11 FXp11 FM11; clear o13 g13 HT12 O12 hbw)
      | (go_at_call 30; clear tq4; refine (run_any _ _ _ _ (allM (laidW (wiL l pn r))) (putS 16 (delF (wiL l pn r) pn) ++ putS 16 (insF l pn r)) _ FM13.out FTq13.out hrnq).mono ?_; rintro e w14 ⟨uq1, uq2, uq3, rfl, R, hbw⟩; rw [HrMq.out] at R; obtain ⟨bq1, dq1, bq2, dq2, bq3, dq3, rfl, rfl, rfl⟩ := R.formsA; have HB14 : Hid (Below w.heap.size w w14) := bstep HB13.out hbw; have FL14 : Hid (Rd w14 (.slice a l.length cap) l) := FL13.out.below hbw; have FA14 : Hid (RdS w14 vA (putS 16 (insF l pn r))) := FA13.out.below hbw; have FV14 : Hid (Rd w14 vW (wiL l pn r)) := FV13.out.below hbw; have FB14 : Hid (RdS w14 vB (putS 16 (delF (wiL l pn r) pn))) := FB13.out.below hbw; have FRp14 : Hid (RdM w14 (.slice bp1 (laidW (l)).length dp1) (.slice bp2 (laidW (l)).length dp2) (.slice bp3 0 dp3) (allM (laidW (l)))) := FRp13.out.below hbw; have FXp14 : Hid (Bo w14 w9.heap.size (.slice bp1 (laidW (l)).length dp1) (.slice bp2 (laidW (l)).length dp2) (.slice bp3 0 dp3)) := FXp13.out.below hbw; have FRq14 : Hid (RdM w14 (.slice bq1 (laidW (wiL l pn r)).length dq1) (.slice bq2 (laidW (wiL l pn r)).length dq2) (.slice bq3 0 dq3) (allM (laidW (wiL l pn r)))) := R; clear HB13 FL13 FA13 FV13 FB13 FRp13 FXp13 FM13 FTq13; clear hbw; have HB15 : Hid (Below w.heap.size w (w14.alloc (.cells #[.slice bq1 (laidW (wiL l pn r)).length dq1, .slice bq2 (laidW (wiL l pn r)).length dq2, .slice bq3 0 dq3] 41))) := bstep HB14.out ((Below.refl _ _).alloc (Nat.le_refl _) _); have FL15 : Hid (Rd (w14.alloc (.cells #[.slice bq1 (laidW (wiL l pn r)).length dq1, .slice bq2 (laidW (wiL l pn r)).length dq2, .slice bq3 0 dq3] 41)) (.slice a l.length cap) l) := FL14.out.below ((Below.refl _ _).alloc (Nat.le_refl _) _); have FA15 : Hid (RdS (w14.alloc (.cells #[.slice bq1 (laidW (wiL l pn r)).length dq1, .slice bq2 (laidW (wiL l pn r)).length dq2, .slice bq3 0 dq3] 41)) vA (putS 16 (insF l pn r))) := FA14.out.below ((Below.refl _ _).alloc (Nat.le_refl _) _); have FV15 : Hid (Rd (w14.alloc (.cells #[.slice bq1 (laidW (wiL l pn r)).length dq1, .slice bq2 (laidW (wiL l pn r)).length dq2, .slice bq3 0 dq3] 41)) vW (wiL l pn r)) := FV14.out.below ((Below.refl _ _).alloc (Nat.le_refl _) _); have FB15 : Hid (RdS (w14.alloc (.cells #[.slice bq1 (laidW (wiL l pn r)).length dq1, .slice bq2 (laidW (wiL l pn r)).length dq2, .slice bq3 0 dq3] 41)) vB (putS 16 (delF (wiL l pn r) pn))) := FB14.out.below ((Below.refl _ _).alloc (Nat.le_refl _) _); have FRp15 : Hid (RdM (w14.alloc (.cells #[.slice bq1 (laidW (wiL l pn r)).length dq1, .slice bq2 (laidW (wiL l pn r)).length dq2, .slice bq3 0 dq3] 41)) (.slice bp1 (laidW (l)).length dp1) (.slice bp2 (laidW (l)).length dp2) (.slice bp3 0 dp3) (allM (laidW (l)))) := FRp14.out.below ((Below.refl _ _).alloc (Nat.le_refl _) _); have FXp15 : Hid (Bo (w14.alloc (.cells #[.slice bq1 (laidW (wiL l pn r)).length dq1, .slice bq2 (laidW (wiL l pn r)).length dq2, .slice bq3 0 dq3] 41)) w9.heap.size (.slice bp1 (laidW (l)).length dp1) (.slice bp2 (laidW (l)).length dp2) (.slice bp3 0 dp3)) := FXp14.out.below ((Below.refl _ _).alloc (Nat.le_refl _) _); have FRq15 : Hid (RdM (w14.alloc (.cells #[.slice bq1 (laidW (wiL l pn r)).length dq1, .slice bq2 (laidW (wiL l pn r)).length dq2, .slice bq3 0 dq3] 41)) (.slice bq1 (laidW (wiL l pn r)).length dq1) (.slice bq2 (laidW (wiL l pn r)).length dq2) (.slice bq3 0 dq3) (allM (laidW (wiL l pn r)))) := FRq14.out.below ((Below.refl _ _).alloc (Nat.le_refl _) _); have FXq15 : Hid (Bo (w14.alloc (.cells #[.slice bq1 (laidW (wiL l pn r)).length dq1, .slice bq2 (laidW (wiL l pn r)).length dq2, .slice bq3 0 dq3] 41)) w14.heap.size (.slice bq1 (laidW (wiL l pn r)).length dq1) (.slice bq2 (laidW (wiL l pn r)).length dq2) (.slice bq3 0 dq3)) := Bo.new w14 _ _ _; clear HB14 FL14 FA14 FV14 FB14 FRp14 FXp14 FRq14; clear R; obtain ⟨⟨-, p1, p2⟩, -⟩ := FXp15.out.bx; obtain ⟨⟨-, q1, q2⟩, -⟩ := FXq15.out.bx)
      | (go_at_call 22; clear ts1; refine (slots_any _ (laidW (l)) 16 _ FRp15.out.per).mono ?_; rintro e w16 ⟨vsp, rfl, R, hbw⟩; rw [Hslp.out] at R; have HB16 : Hid (Below w.heap.size w w16) := bstep HB15.out hbw; have FL16 : Hid (Rd w16 (.slice a l.length cap) l) := FL15.out.below hbw; have FA16 : Hid (RdS w16 vA (putS 16 (insF l pn r))) := FA15.out.below hbw; have FV16 : Hid (Rd w16 vW (wiL l pn r)) := FV15.out.below hbw; have FB16 : Hid (RdS w16 vB (putS 16 (delF (wiL l pn r) pn))) := FB15.out.below hbw; have FRp16 : Hid (RdM w16 (.slice bp1 (laidW (l)).length dp1) (.slice bp2 (laidW (l)).length dp2) (.slice bp3 0 dp3) (allM (laidW (l)))) := FRp15.out.below hbw; have FXp16 : Hid (Bo w16 w9.heap.size (.slice bp1 (laidW (l)).length dp1) (.slice bp2 (laidW (l)).length dp2) (.slice bp3 0 dp3)) := FXp15.out.below hbw; have FRq16 : Hid (RdM w16 (.slice bq1 (laidW (wiL l pn r)).length dq1) (.slice bq2 (laidW (wiL l pn r)).length dq2) (.slice bq3 0 dq3) (allM (laidW (wiL l pn r)))) := FRq15.out.below hbw; have FXq16 : Hid (Bo w16 w14.heap.size (.slice bq1 (laidW (wiL l pn r)).length dq1) (.slice bq2 (laidW (wiL l pn r)).length dq2) (.slice bq3 0 dq3)) := FXq15.out.below hbw; have FSp16 : Hid (Rd w16 vsp (l)) := R; clear HB15 FL15 FA15 FV15 FB15 FRp15 FXp15 FRq15 FXq15; clear hbw; clear R; obtain ⟨⟨-, p1, p2⟩, -⟩ := FXp16.out.bx; obtain ⟨⟨-, q1, q2⟩, -⟩ := FXq16.out.bx)
      | (go_at_call 21; clear ts2; refine (numbers_any _ _ l l _ FSp16.out FL16.out).mono ?_; rintro e w17 ⟨rfl, hbw⟩; rw [decide_eq_true rfl]; have HB17 : Hid (Below w.heap.size w w17) := bstep HB16.out hbw; have FL17 : Hid (Rd w17 (.slice a l.length cap) l) := FL16.out.below hbw; have FA17 : Hid (RdS w17 vA (putS 16 (insF l pn r))) := FA16.out.below hbw; have FV17 : Hid (Rd w17 vW (wiL l pn r)) := FV16.out.below hbw; have FB17 : Hid (RdS w17 vB (putS 16 (delF (wiL l pn r) pn))) := FB16.out.below hbw; have FRp17 : Hid (RdM w17 (.slice bp1 (laidW (l)).length dp1) (.slice bp2 (laidW (l)).length dp2) (.slice bp3 0 dp3) (allM (laidW (l)))) := FRp16.out.below hbw; have FXp17 : Hid (Bo w17 w9.heap.size (.slice bp1 (laidW (l)).length dp1) (.slice bp2 (laidW (l)).length dp2) (.slice bp3 0 dp3)) := FXp16.out.below hbw; have FRq17 : Hid (RdM w17 (.slice bq1 (laidW (wiL l pn r)).length dq1) (.slice bq2 (laidW (wiL l pn r)).length dq2) (.slice bq3 0 dq3) (allM (laidW (wiL l pn r)))) := FRq16.out.below hbw; have FXq17 : Hid (Bo w17 w14.heap.size (.slice bq1 (laidW (wiL l pn r)).length dq1) (.slice bq2 (laidW (wiL l pn r)).length dq2) (.slice bq3 0 dq3)) := FXq16.out.below hbw; have FSp17 : Hid (Rd w17 vsp (l)) := FSp16.out.below hbw; clear HB16 FL16 FA16 FV16 FB16 FRp16 FXp16 FRq16 FXq16 FSp16; clear hbw; obtain ⟨⟨-, p1, p2⟩, -⟩ := FXp17.out.bx; obtain ⟨⟨-, q1, q2⟩, -⟩ := FXq17.out.bx)
      | (go_at_call 22; clear ts3; refine (slots_any _ (laidW (wiL l pn r)) 16 _ FRq17.out.per).mono ?_; rintro e w18 ⟨vsq, rfl, R, hbw⟩; rw [Hslq.out] at R; have HB18 : Hid (Below w.heap.size w w18) := bstep HB17.out hbw; have FL18 : Hid (Rd w18 (.slice a l.length cap) l) := FL17.out.below hbw; have FA18 : Hid (RdS w18 vA (putS 16 (insF l pn r))) := FA17.out.below hbw; have FV18 : Hid (Rd w18 vW (wiL l pn r)) := FV17.out.below hbw; have FB18 : Hid (RdS w18 vB (putS 16 (delF (wiL l pn r) pn))) := FB17.out.below hbw; have FRp18 : Hid (RdM w18 (.slice bp1 (laidW (l)).length dp1) (.slice bp2 (laidW (l)).length dp2) (.slice bp3 0 dp3) (allM (laidW (l)))) := FRp17.out.below hbw; have FXp18 : Hid (Bo w18 w9.heap.size (.slice bp1 (laidW (l)).length dp1) (.slice bp2 (laidW (l)).length dp2) (.slice bp3 0 dp3)) := FXp17.out.below hbw; have FRq18 : Hid (RdM w18 (.slice bq1 (laidW (wiL l pn r)).length dq1) (.slice bq2 (laidW (wiL l pn r)).length dq2) (.slice bq3 0 dq3) (allM (laidW (wiL l pn r)))) := FRq17.out.below hbw; have FXq18 : Hid (Bo w18 w14.heap.size (.slice bq1 (laidW (wiL l pn r)).length dq1) (.slice bq2 (laidW (wiL l pn r)).length dq2) (.slice bq3 0 dq3)) := FXq17.out.below hbw; have FSp18 : Hid (Rd w18 vsp (l)) := FSp17.out.below hbw; have FSq18 : Hid (Rd w18 vsq (wiL l pn r)) := R; clear HB17 FL17 FA17 FV17 FB17 FRp17 FXp17 FRq17 FXq17 FSp17; clear hbw; clear R; obtain ⟨⟨-, p1, p2⟩, -⟩ := FXp18.out.bx; obtain ⟨⟨-, q1, q2⟩, -⟩ := FXq18.out.bx)
      | (go_at_call 21; clear ts4; refine (numbers_any _ _ (wiL l pn r) (wiL l pn r) _ FSq18.out FV18.out).mono ?_; rintro e w19 ⟨rfl, hbw⟩; rw [decide_eq_true rfl]; have HB19 : Hid (Below w.heap.size w w19) := bstep HB18.out hbw; have FL19 : Hid (Rd w19 (.slice a l.length cap) l) := FL18.out.below hbw; have FA19 : Hid (RdS w19 vA (putS 16 (insF l pn r))) := FA18.out.below hbw; have FV19 : Hid (Rd w19 vW (wiL l pn r)) := FV18.out.below hbw; have FB19 : Hid (RdS w19 vB (putS 16 (delF (wiL l pn r) pn))) := FB18.out.below hbw; have FRp19 : Hid (RdM w19 (.slice bp1 (laidW (l)).length dp1) (.slice bp2 (laidW (l)).length dp2) (.slice bp3 0 dp3) (allM (laidW (l)))) := FRp18.out.below hbw; have FXp19 : Hid (Bo w19 w9.heap.size (.slice bp1 (laidW (l)).length dp1) (.slice bp2 (laidW (l)).length dp2) (.slice bp3 0 dp3)) := FXp18.out.below hbw; have FRq19 : Hid (RdM w19 (.slice bq1 (laidW (wiL l pn r)).length dq1) (.slice bq2 (laidW (wiL l pn r)).length dq2) (.slice bq3 0 dq3) (allM (laidW (wiL l pn r)))) := FRq18.out.below hbw; have FXq19 : Hid (Bo w19 w14.heap.size (.slice bq1 (laidW (wiL l pn r)).length dq1) (.slice bq2 (laidW (wiL l pn r)).length dq2) (.slice bq3 0 dq3)) := FXq18.out.below hbw; have FSp19 : Hid (Rd w19 vsp (l)) := FSp18.out.below hbw; have FSq19 : Hid (Rd w19 vsq (wiL l pn r)) := FSq18.out.below hbw; clear HB18 FL18 FA18 FV18 FB18 FRp18 FXp18 FRq18 FXq18 FSp18 FSq18; clear hbw; obtain ⟨⟨-, p1, p2⟩, -⟩ := FXp19.out.bx; obtain ⟨⟨-, q1, q2⟩, -⟩ := FXq19.out.bx))
    go_ret
    exact ⟨rfl, HB19.out⟩
  · have hE2 : (insE 16 l p r != 0) = true := by simpa using hE
    have hz : (insS 16 l p r).length = 0 := by rw [insS_none hE]; rfl
    clear hE
    go_enter Try.func8, Try.ntmps8
    go_wp2_with (first
      | (go_at_call 9; refine (awake_any _).mono ?_; rintro e w1 ⟨rfl, hbw⟩; have HB1 : Hid (Below w.heap.size w w1) := bstep HB0.out hbw; have FL1 : Hid (Rd w1 (.slice a l.length cap) l) := FL0.out.below hbw; clear HB0 FL0; clear hbw)
      | (go_at_call 26; refine (unlike_any _ l r _ FL1.out).mono ?_; rintro e w2 ⟨rfl, hbw⟩; rw [eU]; have HB2 : Hid (Below w.heap.size w w2) := bstep HB1.out hbw; have FL2 : Hid (Rd w2 (.slice a l.length cap) l) := FL1.out.below hbw; clear HB1 FL1; clear hbw)
      | (go_at_call 10; refine (insert_any 16 _ l p r _ FL2.out).mono ?_; rintro e w3 ⟨vA, rfl, R, hbw⟩; obtain ⟨-, aA, cA, rfl⟩ := R.form; have HB3 : Hid (Below w.heap.size w w3) := bstep HB2.out hbw; have FL3 : Hid (Rd w3 (.slice a l.length cap) l) := FL2.out.below hbw; clear HB2 FL2; clear hbw; clear R))
    go_ret
    exact ⟨rfl, HB3.out⟩
end Go.Proofs.Ytoboiahknapddaa
