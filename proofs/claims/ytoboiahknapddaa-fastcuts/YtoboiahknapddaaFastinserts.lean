/- Walk of FastInserts. -/
import Derived.Test.YtoboiahknapddaaFastback
import Derived.Deep.DeepCutAuto
namespace Go.Proofs.Ytoboiahknapddaa
open Go.RowKit Go.Shelf
set_option linter.unusedVariables false

theorem slice_to {a : Option Addr} {n cap : Nat} (q : Nat) (h : q ≤ n) (h2 : n ≤ cap) (W : World) : (Instr.slice 24 (.slice a n cap) none (some (.int .i64 (q : Int))) none).run Try.prog W = .ok (.slice a q cap) W := by
  have h3 : q ≤ cap := by omega
  simp [Instr.slice, Instr.sliceBounds, Instr.sliceBound, run_underlying Try.underlying24, Result.andThen, h3, asIntOf, Try.sizeOf51]
  intro _
  cases a <;> rfl
theorem RdS.cap {W : World} {a : Option Addr} {n c : Nat} {l : List Mi} (h : RdS W (.slice a n c) l) : l.length ≤ c := by
  obtain ⟨_, _, a', c', e, h3, _⟩ := h
  cases e
  exact h3
theorem RdS.take {W : World} {a : Option Addr} {cap : Nat} {l : List Mi} (h : RdS W (.slice a l.length cap) l) {q : Nat} (hq : q ≤ l.length) : RdS W (.slice a q cap) (l.take q) := by
  have hl : (l.take q).length = q := by rw [List.length_take]; omega
  obtain ⟨h1, h2, a', cap', e, h3, h4⟩ := h
  cases e
  refine ⟨mcs_length _, by omega, _, _, by rw [hl], by omega, ?_⟩
  rw [hl]
  rcases h4 with ⟨h0, hn⟩ | ⟨b, off, rfl, hlt, hc⟩
  · exact .inl ⟨by omega, hn⟩
  · refine .inr ⟨b, off, rfl, hlt, fun j u hj => hc j u ?_⟩
    have e : mcs l = mcs (l.take q) ++ mcs (l.drop q) := by rw [← mcs_append, List.take_append_drop]
    rw [e, List.getElem?_append_left (List.getElem?_eq_some_iff.1 hj).1]
    exact hj
theorem delE_why {l : List Int} {p : Int} (h : delE 16 l p = 0) : mcB 16 l = true ∧ 0 ≤ p ∧ p < (l.length : Int) ∧ l.length ≤ 13 ∧ delS 16 l p = putS 16 (delF l p.toNat) := by
  have eB : delB 16 l p = true := by
    cases e : delB 16 l p
    · rw [(del_no e).2] at h; cases h
    · rfl
  have e2 := eB
  unfold delB hpB at e2
  simp only [Bool.and_eq_true, decide_eq_true_eq] at e2
  exact ⟨e2.1, e2.2.1, e2.2.2, (mcB_out e2.1).2.1, (del_yes eB).1⟩
theorem delS_none {l : List Int} {p : Int} (h : delE 16 l p ≠ 0) : delS 16 l p = [] := by
  cases e : delB 16 l p
  · exact (del_no e).1
  · exact absurd (del_yes e).2 h

set_option maxRecDepth 100000 in
set_option maxHeartbeats 16000000 in
theorem walk_FastInserts (a : Option Addr) (len cap : Nat) (p r : Int) (n : Int) (ak : Option Addr) (lk ck : Nat) (w : World) (hK : KeepIn w a len cap) (hu : (Lit.int .u8 n).wf = true) (hKk : KeepIn w ak lk ck) : Calls Try.prog 4 #[.slice a len cap, .int .i64 p, .int .i64 r, .int .u8 n, .slice ak lk ck] w fun e w' => e = .returned (.bool true) ∧ Below w.heap.size w w' := by
  obtain ⟨hu0, hu1⟩ : 0 ≤ n ∧ n < 256 := by
    simp [Lit.wf, IntKind.min, IntKind.max, IntKind.bits, IntKind.signed] at hu
    omega
  clear hu
  by_cases h1 : (20 : Int) < (len : Int)
  · have HB0 : Hid (Below w.heap.size w w) := Below.refl _ _
    go_enter Try.func4, Try.ntmps4
    go_wp2_with (first
      | (go_at_call 9; refine (awake_any _).mono ?_; rintro e w1 ⟨rfl, hbw⟩; have HB1 : Hid (Below w.heap.size w w1) := bstep HB0.out hbw; clear HB0; clear hbw))
    go_ret
    exact ⟨rfl, HB1.out⟩
  by_cases h2 : (20 : Int) < (lk : Int)
  · have HB0 : Hid (Below w.heap.size w w) := Below.refl _ _
    go_enter Try.func4, Try.ntmps4
    go_wp2_with (first
      | (go_at_call 9; refine (awake_any _).mono ?_; rintro e w1 ⟨rfl, hbw⟩; have HB1 : Hid (Below w.heap.size w w1) := bstep HB0.out hbw; clear HB0; clear hbw))
    go_ret
    exact ⟨rfl, HB1.out⟩
  obtain ⟨l, hl, hR, _⟩ := hK (by omega)
  obtain ⟨keep, hlk, hRk, hBd⟩ := hKk (by omega)
  subst hl
  subst hlk
  have HB0 : Hid (Below w.heap.size w w) := Below.refl _ _
  have FL0 : Hid (Rd w (.slice a l.length cap) l) := hR
  have FK0 : Hid (Rd w (.slice ak keep.length ck) keep) := hRk
  clear hR hRk
  cases eU : unB l r
  · go_enter Try.func4, Try.ntmps4
    go_wp2_with (first
      | (go_at_call 9; refine (awake_any _).mono ?_; rintro e w1 ⟨rfl, hbw⟩; have HB1 : Hid (Below w.heap.size w w1) := bstep HB0.out hbw; have FL1 : Hid (Rd w1 (.slice a l.length cap) l) := FL0.out.below hbw; clear HB0 FL0; clear hbw)
      | (go_at_call 26; refine (unlike_any _ l r _ FL1.out).mono ?_; rintro e w2 ⟨rfl, hbw⟩; rw [eU]; have HB2 : Hid (Below w.heap.size w w2) := bstep HB1.out hbw; have FL2 : Hid (Rd w2 (.slice a l.length cap) l) := FL1.out.below hbw; clear HB1 FL1; clear hbw))
    go_ret
    exact ⟨rfl, HB2.out⟩
  by_cases hE : insE 16 l p r = 0
  · obtain ⟨hmc, hr, hp0, hp1, h12, hiS⟩ := insE_why hE
    obtain ⟨pn, rfl⟩ : ∃ pn : Nat, p = (pn : Int) := ⟨p.toNat, by omega⟩
    have hU : Unl l r := @of_decide_eq_true _ (Unl.dec l r) eU
    have hpn : pn ≤ l.length := by omega
    have h9 : l.length ≤ 900 := by omega
    have h13 : l.length ≤ 13 := by omega
    have hfew := few_ins (b := 16) (l := l) (p := pn) (r := r) nd16 h12 hpn
    have hS0 : 1 ≤ (putS 16 (insF l pn r)).length := by
      obtain ⟨P, e, _⟩ := putS_snoc 16 ((List.range (l.length - pn)).map (fun i => (⟨((l.length - i : Nat) : Int), l.getD (l.length - i - 1) 0⟩ : Fl))) ⟨(pn : Int), r⟩
      have e : putS 16 (insF l pn r) = P ++ [mS 16 ⟨(pn : Int), r⟩, mP 16 ⟨(pn : Int), r⟩] := e
      rw [e]; simp
    have hr0 : 0 ≤ n % (((putS 16 (insF l pn r)).length : Int) + 1) := Int.emod_nonneg _ (by omega)
    have hr1 : n % (((putS 16 (insF l pn r)).length : Int) + 1) < ((putS 16 (insF l pn r)).length : Int) + 1 := Int.emod_lt_of_pos _ (by omega)
    obtain ⟨k, hq⟩ := Int.eq_ofNat_of_zero_le hr0
    rw [hq] at hr1
    have hkN : k ≤ (putS 16 (insF l pn r)).length := by omega
    have hfacts := ins_facts (fun x hx => (hU.1 x hx).1) hU.2 hr (fun hx => (hU.1 r hx).2 rfl) h12 hpn k hkN keep
    have HiS : Hid (insS 16 l (pn : Int) r = putS 16 (insF l pn r)) := hiS
    obtain ⟨W, hW⟩ : ∃ W, wiL l pn r = W := ⟨_, rfl⟩
    have HW : Hid (wiL l pn r = W) := hW
    obtain ⟨S, hS⟩ : ∃ S, putS 16 (insF l pn r) = S := ⟨_, rfl⟩
    rw [hS] at HiS hq hkN hfacts hfew hS0
    rw [hW] at hfacts
    obtain ⟨X, hX⟩ : ∃ X, csP (allM (laidW l)) S (k : Int) keep = X := ⟨_, rfl⟩
    have HX : Hid (csP (allM (laidW l)) S (k : Int) keep = X) := hX
    rw [hX] at hfacts
    obtain ⟨Kp, hKp⟩ : ∃ Kp, plN (slN X 16) = Kp := ⟨_, rfl⟩
    have HKp : Hid (plN (slN X 16) = Kp) := hKp
    obtain ⟨Sn, hSn⟩ : ∃ Sn, plN (slN (ruM (allM (laidW l)) (S.take k)).vol 16) = Sn := ⟨_, rfl⟩
    have HSn : Hid (plN (slN (ruM (allM (laidW l)) (S.take k)).vol 16) = Sn) := hSn
    rw [hKp, hSn] at hfacts
    obtain ⟨g1, g2, g3, g4, g5, g6⟩ := hfacts
    have HE2 : Hid (ruE (allM (laidW l)) (S.take k) = 0) := g2
    have HkA : Hid (Kp = l ∨ Kp = W) := g3
    have HsW : Hid (S.length ≤ k + 1 → Sn = W) := g4
    have HsL : Hid (k + 1 < S.length → Sn = l) := g5
    have HkF : Hid (S.length ≤ k → Kp = W) := g6
    have hrn : (allM (laidW l)).pend.length + S.length ≤ 900 := by show 0 + _ ≤ _; omega
    have hrq : (allM (laidW l)).pend.length + (S.take k).length ≤ 900 := by rw [List.length_take]; show 0 + _ ≤ _; omega
    have tl1 : Hid (0 = 0) := rfl
    clear hiS hW hS hX hKp hSn g2 g3 g4 g5 g6 hU hmc hr0
    go_enter Try.func4, Try.ntmps4
    go_upto_region 10 with (first
      | (go_at_call 9; refine (awake_any _).mono ?_; rintro e w1 ⟨rfl, hbw⟩; have HB1 : Hid (Below w.heap.size w w1) := bstep HB0.out hbw; have FL1 : Hid (Rd w1 (.slice a l.length cap) l) := FL0.out.below hbw; have FK1 : Hid (Rd w1 (.slice ak keep.length ck) keep) := FK0.out.below hbw; clear HB0 FL0 FK0; clear hbw)
      | (go_at_call 26; refine (unlike_any _ l r _ FL1.out).mono ?_; rintro e w2 ⟨rfl, hbw⟩; rw [eU]; have HB2 : Hid (Below w.heap.size w w2) := bstep HB1.out hbw; have FL2 : Hid (Rd w2 (.slice a l.length cap) l) := FL1.out.below hbw; have FK2 : Hid (Rd w2 (.slice ak keep.length ck) keep) := FK1.out.below hbw; clear HB1 FL1 FK1; clear hbw)
      | (go_at_call 10; refine (insert_any 16 _ l (pn : Int) r _ FL2.out).mono ?_; rintro e w3 ⟨vA, rfl, R, hbw⟩; rw [HiS.out] at R; obtain ⟨-, aA, cA, rfl⟩ := R.form; have HB3 : Hid (Below w.heap.size w w3) := bstep HB2.out hbw; have FL3 : Hid (Rd w3 (.slice a l.length cap) l) := FL2.out.below hbw; have FK3 : Hid (Rd w3 (.slice ak keep.length ck) keep) := FK2.out.below hbw; have FA3 : Hid (RdS w3 (.slice aA S.length cA) S) := R; clear HB2 FL2 FK2; clear hbw; clear R)
      | (go_at_call 27; refine (with_any _ l pn r _ FL3.out hpn).mono ?_; rintro e w4 ⟨vW, rfl, R, hbw⟩; rw [HW.out] at R; have HB4 : Hid (Below w.heap.size w w4) := bstep HB3.out hbw; have FL4 : Hid (Rd w4 (.slice a l.length cap) l) := FL3.out.below hbw; have FK4 : Hid (Rd w4 (.slice ak keep.length ck) keep) := FK3.out.below hbw; have FA4 : Hid (RdS w4 (.slice aA S.length cA) S) := FA3.out.below hbw; have FV4 : Hid (Rd w4 vW W) := R h9; clear HB3 FL3 FK3 FA3; clear hbw; clear R)
      | (go_at_call 29; clear tl1; refine (laid_any _ l _ FL4.out h13).mono ?_; rintro e w5 ⟨x1, y1, z1, rfl, R, hbw⟩; obtain ⟨a1, c1, a2, c2, a3, c3, rfl, rfl, rfl⟩ := R.formsA; have HB5 : Hid (Below w.heap.size w w5) := bstep HB4.out hbw; have FL5 : Hid (Rd w5 (.slice a l.length cap) l) := FL4.out.below hbw; have FK5 : Hid (Rd w5 (.slice ak keep.length ck) keep) := FK4.out.below hbw; have FA5 : Hid (RdS w5 (.slice aA S.length cA) S) := FA4.out.below hbw; have FV5 : Hid (Rd w5 vW W) := FV4.out.below hbw; have FM5 : Hid (RdM w5 (.slice a1 (laidW l).length c1) (.slice a2 (laidW l).length c2) (.slice a3 0 c3) (allM (laidW l))) := R; clear HB4 FL4 FK4 FA4 FV4; clear hbw; clear R)
      | (go_at_call 28; refine (crashS_any _ _ _ _ _ (allM (laidW l)) S (k : Int) keep _ FM5.out FA5.out FK5.out hBd hrn).mono ?_; rintro e w6 ⟨vC, rfl, R, hbw⟩; rw [HX.out] at R; obtain ⟨-, aC, cC, rfl⟩ := R.form; have HB6 : Hid (Below w.heap.size w w6) := bstep HB5.out hbw; have FL6 : Hid (Rd w6 (.slice a l.length cap) l) := FL5.out.below hbw; have FK6 : Hid (Rd w6 (.slice ak keep.length ck) keep) := FK5.out.below hbw; have FA6 : Hid (RdS w6 (.slice aA S.length cA) S) := FA5.out.below hbw; have FV6 : Hid (Rd w6 vW W) := FV5.out.below hbw; have FC6 : Hid (Rd w6 (.slice aC X.length cC) X) := R; clear HB5 FL5 FK5 FA5 FV5 FM5; clear hbw; clear R))
    have hcA := FA6.out.cap
    have hslc : ∀ W, (Instr.slice 24 (.slice aA S.length cA) none (some (.int .i64 (k : Int))) none).run Try.prog W = .ok (.slice aA k cA) W := fun W => slice_to k hkN hcA W
    have FQ : Hid (RdS w6 (.slice aA k cA) (S.take k)) := FA6.out.take hkN
    go_cut [18, 19] (fun sx sy wx => ∃ bz v1 v2 v3, sx = .pointer (some ⟨bz, 0, none⟩) ∧ sy = .int .i64 0 ∧ Below w6.heap.size w6 wx ∧ RdM wx v1 v2 v3 (ruM (allM (laidW l)) (S.take k)) ∧ Bo wx bz v1 v2 v3)
    case first =>
      go_region_held3 (fun _ => True) (exact trivial)
        (first
        | (go_at_call 29; refine (laid_any _ l _ (FL6.out.below (by ((repeat (first | exact Below.refl _ _ | exact HT2.out | exact HT1.out | with_reducible refine Below.dr ?_ | with_reducible refine Below.al _ ?_)); all_goals fail))) h13).mono ?_; rintro e r1 ⟨x2, y2, z2, rfl, R, hb1⟩; obtain ⟨d1, e1, d2, e2, d3, e3, rfl, rfl, rfl⟩ := R.formsA; have HT1 : Hid (Below w6.heap.size w6 r1) := bstep (by ((repeat (first | exact Below.refl _ _ | exact HT2.out | exact HT1.out | with_reducible refine Below.dr ?_ | with_reducible refine Below.al _ ?_)); all_goals fail)) hb1; have HM1 : Hid (RdM r1 (.slice d1 (laidW l).length e1) (.slice d2 (laidW l).length e2) (.slice d3 0 e3) (allM (laidW l))) := R; (try (have HZ1 : Hid (Bo r1 w6.heap.size (.slice none 0 0) (.slice none 0 0) (.slice none 0 0)) := hp_below hb1 (hp_drew (hp_new rfl)))); clear R hb1)
        | (go_at_call 30; refine (run_any _ _ _ _ (allM (laidW l)) (S.take k) _ (HM1.out.below (by ((repeat (first | exact Below.refl _ _ | with_reducible refine Below.dr ?_ | with_reducible refine Below.al _ ?_)); all_goals fail))) (FQ.out.below (by ((repeat (first | exact Below.refl _ _ | exact HT2.out | exact HT1.out | with_reducible refine Below.dr ?_ | with_reducible refine Below.al _ ?_)); all_goals fail))) hrq).mono ?_; rintro e r2 ⟨x3, y3, z3, rfl, R, hb2⟩; rw [HE2.out]; obtain ⟨i1, j1, i2, j2, i3, j3, rfl, rfl, rfl⟩ := R.forms; have HT2 : Hid (Below w6.heap.size w6 r2) := bstep (by ((repeat (first | exact Below.refl _ _ | exact HT2.out | exact HT1.out | with_reducible refine Below.dr ?_ | with_reducible refine Below.al _ ?_)); all_goals fail)) hb2; have HR2 : Hid (RdM r2 _ _ _ (ruM (allM (laidW l)) (S.take k))) := R; (try (have HZ2 : Hid (Bo r2 w6.heap.size (.slice none 0 0) (.slice none 0 0) (.slice none 0 0)) := (HZ1.out.below (by ((repeat (first | exact Below.refl _ _ | with_reducible refine Below.dr ?_ | with_reducible refine Below.al _ ?_)); all_goals fail))).below hb2; have hz2 : Hid (w6.heap.size ≤ w6.heap.size) := Nat.le_refl _; obtain ⟨⟨t0, t1, t2⟩, tf0, tf1, tf2⟩ := HZ2.out.bx)); (try (have HZ2 : Hid (Bo r2 r1.heap.size (.slice none 0 0) (.slice none 0 0) (.slice none 0 0)) := hp_below hb2 (hp_new rfl); have hz2 : Hid (w6.heap.size ≤ r1.heap.size) := HT1.out.size; obtain ⟨⟨t0, t1, t2⟩, tf0, tf1, tf2⟩ := HZ2.out.bx)); clear R hb2))
      all_goals
        go_wp2_with fail
        go_meet
        first
          | exact ⟨_, _, _, _, rfl, rfl, S3.below HT2.out hz2.out _ _ _, HR2.out.box HZ2.out _ _ _, HZ2.out.set _ _ _⟩
          | exact ⟨_, _, _, _, rfl, rfl, bstep HT2.out ((Below.refl _ _).alloc (Nat.le_refl _) _), HR2.out.below ((Below.refl _ _).alloc (Nat.le_refl _) _), Bo.new r2 _ _ _⟩
    case rest =>
      generalize wc = wd at hcut ⊢
      obtain ⟨bz, v1, v2, v3, rfl, rfl, hBd2, hRd, hXd⟩ := hcut
      obtain ⟨q1, q2, q3, q4, q5, q6, rfl, rfl, rfl⟩ := hRd.forms
      have HB20 : Hid (Below w.heap.size w wd) := bstep HB6.out hBd2
      have FL20 : Hid (Rd wd (.slice a l.length cap) l) := FL6.out.below hBd2
      have FV20 : Hid (Rd wd vW W) := FV6.out.below hBd2
      have FC20 : Hid (Rd wd (.slice aC X.length cC) X) := FC6.out.below hBd2
      have FR20 : Hid (RdM wd (.slice q1 (ruM (allM (laidW l)) (S.take k)).vol.length q2) (.slice q3 (ruM (allM (laidW l)) (S.take k)).per.length q4) (.slice q5 (ruM (allM (laidW l)) (S.take k)).pend.length q6) (ruM (allM (laidW l)) (S.take k))) := hRd
      have FX20 : Hid (Bo wd bz (.slice q1 (ruM (allM (laidW l)) (S.take k)).vol.length q2) (.slice q3 (ruM (allM (laidW l)) (S.take k)).per.length q4) (.slice q5 (ruM (allM (laidW l)) (S.take k)).pend.length q6)) := hXd
      clear hBd2 hRd hXd FQ hslc hcA
      have ts1 : Hid (0 = 0) := rfl
      have ts2 : Hid (0 = 0) := rfl
      have ts3 : Hid (0 = 0) := rfl
      have ts4 : Hid (0 = 0) := rfl
      go_upto_region 14 with (first
        | (go_at_call 22; clear ts1; refine (slots_any _ X 16 _ FC20.out).mono ?_; rintro e w21 ⟨vs, rfl, R, hbw⟩; have HB21 : Hid (Below w.heap.size w w21) := bstep HB20.out hbw; have FL21 : Hid (Rd w21 (.slice a l.length cap) l) := FL20.out.below hbw; have FV21 : Hid (Rd w21 vW W) := FV20.out.below hbw; have FC21 : Hid (Rd w21 (.slice aC X.length cC) X) := FC20.out.below hbw; have FR21 : Hid (RdM w21 (.slice q1 (ruM (allM (laidW l)) (S.take k)).vol.length q2) (.slice q3 (ruM (allM (laidW l)) (S.take k)).per.length q4) (.slice q5 (ruM (allM (laidW l)) (S.take k)).pend.length q6) (ruM (allM (laidW l)) (S.take k))) := FR20.out.below hbw; have FX21 : Hid (Bo w21 bz (.slice q1 (ruM (allM (laidW l)) (S.take k)).vol.length q2) (.slice q3 (ruM (allM (laidW l)) (S.take k)).per.length q4) (.slice q5 (ruM (allM (laidW l)) (S.take k)).pend.length q6)) := FX20.out.below hbw; have FS21 : Hid (Rd w21 vs (slN X 16)) := R; clear HB20 FL20 FV20 FC20 FR20 FX20; clear hbw; clear R)
        | (go_at_call 24; clear ts2; refine (plain_any _ (slN X 16) _ FS21.out).mono ?_; rintro e w22 ⟨vk, rfl, R, hbw⟩; rw [HKp.out] at R; have HB22 : Hid (Below w.heap.size w w22) := bstep HB21.out hbw; have FL22 : Hid (Rd w22 (.slice a l.length cap) l) := FL21.out.below hbw; have FV22 : Hid (Rd w22 vW W) := FV21.out.below hbw; have FC22 : Hid (Rd w22 (.slice aC X.length cC) X) := FC21.out.below hbw; have FR22 : Hid (RdM w22 (.slice q1 (ruM (allM (laidW l)) (S.take k)).vol.length q2) (.slice q3 (ruM (allM (laidW l)) (S.take k)).per.length q4) (.slice q5 (ruM (allM (laidW l)) (S.take k)).pend.length q6) (ruM (allM (laidW l)) (S.take k))) := FR21.out.below hbw; have FX22 : Hid (Bo w22 bz (.slice q1 (ruM (allM (laidW l)) (S.take k)).vol.length q2) (.slice q3 (ruM (allM (laidW l)) (S.take k)).per.length q4) (.slice q5 (ruM (allM (laidW l)) (S.take k)).pend.length q6)) := FX21.out.below hbw; have FP22 : Hid (Rd w22 vk Kp) := R; clear HB21 FL21 FV21 FC21 FR21 FX21 FS21; clear hbw; clear R; obtain ⟨⟨z0, z1, z2⟩, -⟩ := FX22.out.bx)
        | (go_at_call 22; clear ts3; refine (slots_any _ (ruM (allM (laidW l)) (S.take k)).vol 16 _ FR22.out.vol).mono ?_; rintro e w23 ⟨vt, rfl, R, hbw⟩; have HB23 : Hid (Below w.heap.size w w23) := bstep HB22.out hbw; have FL23 : Hid (Rd w23 (.slice a l.length cap) l) := FL22.out.below hbw; have FV23 : Hid (Rd w23 vW W) := FV22.out.below hbw; have FC23 : Hid (Rd w23 (.slice aC X.length cC) X) := FC22.out.below hbw; have FR23 : Hid (RdM w23 (.slice q1 (ruM (allM (laidW l)) (S.take k)).vol.length q2) (.slice q3 (ruM (allM (laidW l)) (S.take k)).per.length q4) (.slice q5 (ruM (allM (laidW l)) (S.take k)).pend.length q6) (ruM (allM (laidW l)) (S.take k))) := FR22.out.below hbw; have FX23 : Hid (Bo w23 bz (.slice q1 (ruM (allM (laidW l)) (S.take k)).vol.length q2) (.slice q3 (ruM (allM (laidW l)) (S.take k)).per.length q4) (.slice q5 (ruM (allM (laidW l)) (S.take k)).pend.length q6)) := FX22.out.below hbw; have FP23 : Hid (Rd w23 vk Kp) := FP22.out.below hbw; have FT23 : Hid (Rd w23 vt (slN (ruM (allM (laidW l)) (S.take k)).vol 16)) := R; clear HB22 FL22 FV22 FC22 FR22 FX22 FP22; clear hbw; clear R)
        | (go_at_call 24; clear ts4; refine (plain_any _ (slN (ruM (allM (laidW l)) (S.take k)).vol 16) _ FT23.out).mono ?_; rintro e w24 ⟨vn, rfl, R, hbw⟩; rw [HSn.out] at R; have HB24 : Hid (Below w.heap.size w w24) := bstep HB23.out hbw; have FL24 : Hid (Rd w24 (.slice a l.length cap) l) := FL23.out.below hbw; have FV24 : Hid (Rd w24 vW W) := FV23.out.below hbw; have FP24 : Hid (Rd w24 vk Kp) := FP23.out.below hbw; have FN24 : Hid (Rd w24 vn Sn) := R; clear HB23 FL23 FV23 FC23 FR23 FX23 FP23 FT23; clear hbw; clear R))
      by_cases hkl : Kp = l
      · have dkl : decide (Kp = l) = true := decide_eq_true hkl
        clear hkl
        by_cases hd : k + 1 < S.length
        · have d1 : decide ((S.length : Int) - 1 ≤ (k : Int)) = false := decide_eq_false (by omega)
          have d2 : decide ((k : Int) < (S.length : Int)) = true := decide_eq_true (by omega)
          have d2n : (k : Int) < (S.length : Int) := by omega
          have d1n : ¬ (S.length : Int) - 1 ≤ (k : Int) := by omega
          have dsl : decide (Sn = l) = true := decide_eq_true (HsL.out hd)
          skip
          have tn1 : Hid (0 = 0) := rfl
          have tn3 : Hid (0 = 0) := rfl
          go_wp2_with (first
            | (go_at_call 21; clear tn1; refine (numbers_any _ _ Kp l _ FP24.out FL24.out).mono ?_; rintro e w25 ⟨rfl, hbw⟩; rw [dkl]; have HB25 : Hid (Below w.heap.size w w25) := bstep HB24.out hbw; have FL25 : Hid (Rd w25 (.slice a l.length cap) l) := FL24.out.below hbw; have FV25 : Hid (Rd w25 vW W) := FV24.out.below hbw; have FP25 : Hid (Rd w25 vk Kp) := FP24.out.below hbw; have FN25 : Hid (Rd w25 vn Sn) := FN24.out.below hbw; clear HB24 FL24 FV24 FP24 FN24; clear hbw)
            | (go_at_call 21; clear tn3; refine (numbers_any _ _ Sn l _ FN25.out FL25.out).mono ?_; rintro e w26 ⟨rfl, hbw⟩; rw [dsl]; have HB26 : Hid (Below w.heap.size w w26) := bstep HB25.out hbw; have FL26 : Hid (Rd w26 (.slice a l.length cap) l) := FL25.out.below hbw; have FV26 : Hid (Rd w26 vW W) := FV25.out.below hbw; have FP26 : Hid (Rd w26 vk Kp) := FP25.out.below hbw; have FN26 : Hid (Rd w26 vn Sn) := FN25.out.below hbw; clear HB25 FL25 FV25 FP25 FN25; clear hbw))
          go_ret
          exact ⟨rfl, HB26.out⟩
        have d1 : decide ((S.length : Int) - 1 ≤ (k : Int)) = true := decide_eq_true (by omega)
        have d1n : (S.length : Int) - 1 ≤ (k : Int) := by omega
        have dsw : decide (Sn = W) = true := decide_eq_true (HsW.out (by omega))
        by_cases hf : k < S.length
        · have d2 : decide ((k : Int) < (S.length : Int)) = true := decide_eq_true (by omega)
          have d2n : (k : Int) < (S.length : Int) := by omega
          skip
          have tn1 : Hid (0 = 0) := rfl
          have tn3 : Hid (0 = 0) := rfl
          go_wp2_with (first
            | (go_at_call 21; clear tn1; refine (numbers_any _ _ Kp l _ FP24.out FL24.out).mono ?_; rintro e w25 ⟨rfl, hbw⟩; rw [dkl]; have HB25 : Hid (Below w.heap.size w w25) := bstep HB24.out hbw; have FL25 : Hid (Rd w25 (.slice a l.length cap) l) := FL24.out.below hbw; have FV25 : Hid (Rd w25 vW W) := FV24.out.below hbw; have FP25 : Hid (Rd w25 vk Kp) := FP24.out.below hbw; have FN25 : Hid (Rd w25 vn Sn) := FN24.out.below hbw; clear HB24 FL24 FV24 FP24 FN24; clear hbw)
            | (go_at_call 21; clear tn3; refine (numbers_any _ _ Sn W _ FN25.out FV25.out).mono ?_; rintro e w26 ⟨rfl, hbw⟩; rw [dsw]; have HB26 : Hid (Below w.heap.size w w26) := bstep HB25.out hbw; have FL26 : Hid (Rd w26 (.slice a l.length cap) l) := FL25.out.below hbw; have FV26 : Hid (Rd w26 vW W) := FV25.out.below hbw; have FP26 : Hid (Rd w26 vk Kp) := FP25.out.below hbw; have FN26 : Hid (Rd w26 vn Sn) := FN25.out.below hbw; clear HB25 FL25 FV25 FP25 FN25; clear hbw))
          go_ret
          exact ⟨rfl, HB26.out⟩
        · have d2 : decide ((k : Int) < (S.length : Int)) = false := decide_eq_false (by omega)
          have d2n : ¬ (k : Int) < (S.length : Int) := by omega
          have dkw : decide (Kp = W) = true := decide_eq_true (HkF.out (by omega))
          skip
          have tn1 : Hid (0 = 0) := rfl
          have tn3 : Hid (0 = 0) := rfl
          have tn4 : Hid (0 = 0) := rfl
          go_wp2_with (first
            | (go_at_call 21; clear tn1; refine (numbers_any _ _ Kp l _ FP24.out FL24.out).mono ?_; rintro e w25 ⟨rfl, hbw⟩; rw [dkl]; have HB25 : Hid (Below w.heap.size w w25) := bstep HB24.out hbw; have FL25 : Hid (Rd w25 (.slice a l.length cap) l) := FL24.out.below hbw; have FV25 : Hid (Rd w25 vW W) := FV24.out.below hbw; have FP25 : Hid (Rd w25 vk Kp) := FP24.out.below hbw; have FN25 : Hid (Rd w25 vn Sn) := FN24.out.below hbw; clear HB24 FL24 FV24 FP24 FN24; clear hbw)
            | (go_at_call 21; clear tn3; refine (numbers_any _ _ Sn W _ FN25.out FV25.out).mono ?_; rintro e w26 ⟨rfl, hbw⟩; rw [dsw]; have HB26 : Hid (Below w.heap.size w w26) := bstep HB25.out hbw; have FL26 : Hid (Rd w26 (.slice a l.length cap) l) := FL25.out.below hbw; have FV26 : Hid (Rd w26 vW W) := FV25.out.below hbw; have FP26 : Hid (Rd w26 vk Kp) := FP25.out.below hbw; have FN26 : Hid (Rd w26 vn Sn) := FN25.out.below hbw; clear HB25 FL25 FV25 FP25 FN25; clear hbw)
            | (go_at_call 21; clear tn4; refine (numbers_any _ _ Kp W _ FP26.out FV26.out).mono ?_; rintro e w27 ⟨rfl, hbw⟩; rw [dkw]; have HB27 : Hid (Below w.heap.size w w27) := bstep HB26.out hbw; have FL27 : Hid (Rd w27 (.slice a l.length cap) l) := FL26.out.below hbw; have FV27 : Hid (Rd w27 vW W) := FV26.out.below hbw; have FP27 : Hid (Rd w27 vk Kp) := FP26.out.below hbw; have FN27 : Hid (Rd w27 vn Sn) := FN26.out.below hbw; clear HB26 FL26 FV26 FP26 FN26; clear hbw))
          go_ret
          exact ⟨rfl, HB27.out⟩
      · have dkl : decide (Kp = l) = false := decide_eq_false hkl
        have dkw : decide (Kp = W) = true := decide_eq_true (HkA.out.resolve_left hkl)
        clear hkl
        by_cases hd : k + 1 < S.length
        · have d1 : decide ((S.length : Int) - 1 ≤ (k : Int)) = false := decide_eq_false (by omega)
          have d2 : decide ((k : Int) < (S.length : Int)) = true := decide_eq_true (by omega)
          have d2n : (k : Int) < (S.length : Int) := by omega
          have d1n : ¬ (S.length : Int) - 1 ≤ (k : Int) := by omega
          have dsl : decide (Sn = l) = true := decide_eq_true (HsL.out hd)
          skip
          have tn1 : Hid (0 = 0) := rfl
          have tn2 : Hid (0 = 0) := rfl
          have tn3 : Hid (0 = 0) := rfl
          go_wp2_with (first
            | (go_at_call 21; clear tn1; refine (numbers_any _ _ Kp l _ FP24.out FL24.out).mono ?_; rintro e w25 ⟨rfl, hbw⟩; rw [dkl]; have HB25 : Hid (Below w.heap.size w w25) := bstep HB24.out hbw; have FL25 : Hid (Rd w25 (.slice a l.length cap) l) := FL24.out.below hbw; have FV25 : Hid (Rd w25 vW W) := FV24.out.below hbw; have FP25 : Hid (Rd w25 vk Kp) := FP24.out.below hbw; have FN25 : Hid (Rd w25 vn Sn) := FN24.out.below hbw; clear HB24 FL24 FV24 FP24 FN24; clear hbw)
            | (go_at_call 21; clear tn2; refine (numbers_any _ _ Kp W _ FP25.out FV25.out).mono ?_; rintro e w26 ⟨rfl, hbw⟩; rw [dkw]; have HB26 : Hid (Below w.heap.size w w26) := bstep HB25.out hbw; have FL26 : Hid (Rd w26 (.slice a l.length cap) l) := FL25.out.below hbw; have FV26 : Hid (Rd w26 vW W) := FV25.out.below hbw; have FP26 : Hid (Rd w26 vk Kp) := FP25.out.below hbw; have FN26 : Hid (Rd w26 vn Sn) := FN25.out.below hbw; clear HB25 FL25 FV25 FP25 FN25; clear hbw)
            | (go_at_call 21; clear tn3; refine (numbers_any _ _ Sn l _ FN26.out FL26.out).mono ?_; rintro e w27 ⟨rfl, hbw⟩; rw [dsl]; have HB27 : Hid (Below w.heap.size w w27) := bstep HB26.out hbw; have FL27 : Hid (Rd w27 (.slice a l.length cap) l) := FL26.out.below hbw; have FV27 : Hid (Rd w27 vW W) := FV26.out.below hbw; have FP27 : Hid (Rd w27 vk Kp) := FP26.out.below hbw; have FN27 : Hid (Rd w27 vn Sn) := FN26.out.below hbw; clear HB26 FL26 FV26 FP26 FN26; clear hbw))
          go_ret
          exact ⟨rfl, HB27.out⟩
        have d1 : decide ((S.length : Int) - 1 ≤ (k : Int)) = true := decide_eq_true (by omega)
        have d1n : (S.length : Int) - 1 ≤ (k : Int) := by omega
        have dsw : decide (Sn = W) = true := decide_eq_true (HsW.out (by omega))
        by_cases hf : k < S.length
        · have d2 : decide ((k : Int) < (S.length : Int)) = true := decide_eq_true (by omega)
          have d2n : (k : Int) < (S.length : Int) := by omega
          skip
          have tn1 : Hid (0 = 0) := rfl
          have tn2 : Hid (0 = 0) := rfl
          have tn3 : Hid (0 = 0) := rfl
          go_wp2_with (first
            | (go_at_call 21; clear tn1; refine (numbers_any _ _ Kp l _ FP24.out FL24.out).mono ?_; rintro e w25 ⟨rfl, hbw⟩; rw [dkl]; have HB25 : Hid (Below w.heap.size w w25) := bstep HB24.out hbw; have FL25 : Hid (Rd w25 (.slice a l.length cap) l) := FL24.out.below hbw; have FV25 : Hid (Rd w25 vW W) := FV24.out.below hbw; have FP25 : Hid (Rd w25 vk Kp) := FP24.out.below hbw; have FN25 : Hid (Rd w25 vn Sn) := FN24.out.below hbw; clear HB24 FL24 FV24 FP24 FN24; clear hbw)
            | (go_at_call 21; clear tn2; refine (numbers_any _ _ Kp W _ FP25.out FV25.out).mono ?_; rintro e w26 ⟨rfl, hbw⟩; rw [dkw]; have HB26 : Hid (Below w.heap.size w w26) := bstep HB25.out hbw; have FL26 : Hid (Rd w26 (.slice a l.length cap) l) := FL25.out.below hbw; have FV26 : Hid (Rd w26 vW W) := FV25.out.below hbw; have FP26 : Hid (Rd w26 vk Kp) := FP25.out.below hbw; have FN26 : Hid (Rd w26 vn Sn) := FN25.out.below hbw; clear HB25 FL25 FV25 FP25 FN25; clear hbw)
            | (go_at_call 21; clear tn3; refine (numbers_any _ _ Sn W _ FN26.out FV26.out).mono ?_; rintro e w27 ⟨rfl, hbw⟩; rw [dsw]; have HB27 : Hid (Below w.heap.size w w27) := bstep HB26.out hbw; have FL27 : Hid (Rd w27 (.slice a l.length cap) l) := FL26.out.below hbw; have FV27 : Hid (Rd w27 vW W) := FV26.out.below hbw; have FP27 : Hid (Rd w27 vk Kp) := FP26.out.below hbw; have FN27 : Hid (Rd w27 vn Sn) := FN26.out.below hbw; clear HB26 FL26 FV26 FP26 FN26; clear hbw))
          go_ret
          exact ⟨rfl, HB27.out⟩
        · have d2 : decide ((k : Int) < (S.length : Int)) = false := decide_eq_false (by omega)
          have d2n : ¬ (k : Int) < (S.length : Int) := by omega
          skip
          have tn1 : Hid (0 = 0) := rfl
          have tn2 : Hid (0 = 0) := rfl
          have tn3 : Hid (0 = 0) := rfl
          have tn4 : Hid (0 = 0) := rfl
          go_wp2_with (first
            | (go_at_call 21; clear tn1; refine (numbers_any _ _ Kp l _ FP24.out FL24.out).mono ?_; rintro e w25 ⟨rfl, hbw⟩; rw [dkl]; have HB25 : Hid (Below w.heap.size w w25) := bstep HB24.out hbw; have FL25 : Hid (Rd w25 (.slice a l.length cap) l) := FL24.out.below hbw; have FV25 : Hid (Rd w25 vW W) := FV24.out.below hbw; have FP25 : Hid (Rd w25 vk Kp) := FP24.out.below hbw; have FN25 : Hid (Rd w25 vn Sn) := FN24.out.below hbw; clear HB24 FL24 FV24 FP24 FN24; clear hbw)
            | (go_at_call 21; clear tn2; refine (numbers_any _ _ Kp W _ FP25.out FV25.out).mono ?_; rintro e w26 ⟨rfl, hbw⟩; rw [dkw]; have HB26 : Hid (Below w.heap.size w w26) := bstep HB25.out hbw; have FL26 : Hid (Rd w26 (.slice a l.length cap) l) := FL25.out.below hbw; have FV26 : Hid (Rd w26 vW W) := FV25.out.below hbw; have FP26 : Hid (Rd w26 vk Kp) := FP25.out.below hbw; have FN26 : Hid (Rd w26 vn Sn) := FN25.out.below hbw; clear HB25 FL25 FV25 FP25 FN25; clear hbw)
            | (go_at_call 21; clear tn3; refine (numbers_any _ _ Sn W _ FN26.out FV26.out).mono ?_; rintro e w27 ⟨rfl, hbw⟩; rw [dsw]; have HB27 : Hid (Below w.heap.size w w27) := bstep HB26.out hbw; have FL27 : Hid (Rd w27 (.slice a l.length cap) l) := FL26.out.below hbw; have FV27 : Hid (Rd w27 vW W) := FV26.out.below hbw; have FP27 : Hid (Rd w27 vk Kp) := FP26.out.below hbw; have FN27 : Hid (Rd w27 vn Sn) := FN26.out.below hbw; clear HB26 FL26 FV26 FP26 FN26; clear hbw)
            | (go_at_call 21; clear tn4; refine (numbers_any _ _ Kp W _ FP27.out FV27.out).mono ?_; rintro e w28 ⟨rfl, hbw⟩; rw [dkw]; have HB28 : Hid (Below w.heap.size w w28) := bstep HB27.out hbw; have FL28 : Hid (Rd w28 (.slice a l.length cap) l) := FL27.out.below hbw; have FV28 : Hid (Rd w28 vW W) := FV27.out.below hbw; have FP28 : Hid (Rd w28 vk Kp) := FP27.out.below hbw; have FN28 : Hid (Rd w28 vn Sn) := FN27.out.below hbw; clear HB27 FL27 FV27 FP27 FN27; clear hbw))
          go_ret
          exact ⟨rfl, HB28.out⟩
  · have hE2 : (insE 16 l p r != 0) = true := by simpa using hE
    have hz : (insS 16 l p r).length = 0 := by rw [insS_none hE]; rfl
    clear hE
    go_enter Try.func4, Try.ntmps4
    go_wp2_with (first
      | (go_at_call 9; refine (awake_any _).mono ?_; rintro e w1 ⟨rfl, hbw⟩; have HB1 : Hid (Below w.heap.size w w1) := bstep HB0.out hbw; have FL1 : Hid (Rd w1 (.slice a l.length cap) l) := FL0.out.below hbw; clear HB0 FL0; clear hbw)
      | (go_at_call 26; refine (unlike_any _ l r _ FL1.out).mono ?_; rintro e w2 ⟨rfl, hbw⟩; rw [eU]; have HB2 : Hid (Below w.heap.size w w2) := bstep HB1.out hbw; have FL2 : Hid (Rd w2 (.slice a l.length cap) l) := FL1.out.below hbw; clear HB1 FL1; clear hbw)
      | (go_at_call 10; refine (insert_any 16 _ l p r _ FL2.out).mono ?_; rintro e w3 ⟨vA, rfl, R, hbw⟩; obtain ⟨-, aA, cA, rfl⟩ := R.form; have HB3 : Hid (Below w.heap.size w w3) := bstep HB2.out hbw; have FL3 : Hid (Rd w3 (.slice a l.length cap) l) := FL2.out.below hbw; clear HB2 FL2; clear hbw; clear R))
    go_ret
    exact ⟨rfl, HB3.out⟩
end Go.Proofs.Ytoboiahknapddaa
