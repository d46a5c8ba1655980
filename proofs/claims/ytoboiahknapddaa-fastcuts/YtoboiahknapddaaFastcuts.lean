/- Walk of FastCuts. -/
import Derived.Test.YtoboiahknapddaaFastinserts
namespace Go.Proofs.Ytoboiahknapddaa
open Go.RowKit Go.Shelf
set_option linter.unusedVariables false

theorem slice_toI {a : Option Addr} {n cap : Nat} (q : Nat) (h : q ≤ n) (h2 : n ≤ cap) (W : World) : (Instr.slice 22 (.slice a n cap) none (some (.int .i64 (q : Int))) none).run Try.prog W = .ok (.slice a q cap) W := by
  have h3 : q ≤ cap := by omega
  simp [Instr.slice, Instr.sliceBounds, Instr.sliceBound, run_underlying Try.underlying22, Result.andThen, h3, asIntOf, Try.sizeOf3]
  intro _
  cases a <;> rfl
theorem Rd.takeI {W : World} {a : Option Addr} {cap : Nat} {l : List Int} (h : Rd W (.slice a l.length cap) l) {q : Nat} (hq : q ≤ l.length) : Rd W (.slice a q cap) (l.take q) := by
  cases a with
  | none =>
    obtain ⟨e, rfl⟩ := h.none
    subst e
    obtain rfl : q = 0 := by simpa using hq
    exact Rd.bare _
  | some x =>
    have hc := h.cap
    exact h.spot 0 q cap (by omega) (by omega)
theorem rem3 {n : Int} {k : Nat} (h0 : 0 ≤ n) (h1 : n < 256) (h : n % 3 = (k : Int)) (hk : k ≤ 2) : n.tmod 3 = (k : Int) ∧ wrap64 (k : Int) = (k : Int) ∧ IntKind.i64.wrap (k : Int) = (k : Int) ∧ wrap64 n = n ∧ IntKind.i64.wrap n = n := by
  refine ⟨?_, ?_, ?_, ?_, ?_⟩
  · rw [Int.tmod_eq_emod_of_nonneg h0]; exact h
  · unfold wrap64; omega
  · rw [IntKind.wrap_i64]; omega
  · unfold wrap64; omega
  · rw [IntKind.wrap_i64]; omega
theorem RdS.form2 {W : World} {v : Value} {f : Fl} (h : RdS W v (putS 16 [f])) : ∃ a c, v = .slice a 2 c := by
  obtain ⟨_, a, c, e⟩ := h.form
  exact ⟨a, c, e⟩
theorem cutE_why {l : List Int} {p : Int} (h : cutE 16 l p = 0) : mcB 16 l = true ∧ 0 ≤ p ∧ p ≤ (l.length : Int) ∧ l.length ≤ 13 ∧ cutS 16 l p = putS 16 (cutF l p.toNat) := by
  have eB : cutB 16 l p = true := by
    cases e : cutB 16 l p
    · rw [(cut_no e).2] at h; cases h
    · rfl
  have e2 := eB
  unfold cutB at e2
  simp only [Bool.and_eq_true, decide_eq_true_eq] at e2
  exact ⟨e2.1, e2.2.1, e2.2.2, (mcB_out e2.1).2.1, (cut_yes eB).1⟩
theorem cut_none {l : List Int} {p r : Int} (h : cutE 16 l p ≠ 0) : cutS 16 l p = [] ∧ swpE 16 l p r = 1 := by
  cases e : cutB 16 l p
  · refine ⟨(cut_no e).1, (swp_no ?_).2⟩
    unfold swpB hpB
    unfold cutB at e
    cases hm : mcB 16 l
    · rfl
    · rw [hm] at e
      have e : decide (0 ≤ p ∧ p ≤ (l.length : Int)) = false := e
      have := of_decide_eq_false e
      rw [decide_eq_false (by omega)]
      rfl
  · exact absurd (cut_yes e).2 h
theorem swpE_why {l : List Int} {p r : Int} (hm : mcB 16 l = true) (h0 : 0 ≤ p) (h1 : p ≤ (l.length : Int)) : (swpE 16 l p r = 1 ∧ (r ≤ 0 ∨ p = (l.length : Int))) ∨ (swpE 16 l p r = 0 ∧ 0 < r ∧ p < (l.length : Int) ∧ swpS 16 l p r = putS 16 [⟨p, r⟩]) := by
  by_cases h : 0 < r ∧ p < (l.length : Int)
  · have e : swpB 16 l p r = true := by unfold swpB hpB; rw [hm, decide_eq_true (by omega), decide_eq_true (by omega)]; rfl
    exact .inr ⟨(swp_yes e).2, h.1, h.2, (swp_yes e).1⟩
  · have e : swpB 16 l p r = false := by
      unfold swpB hpB
      by_cases hr : 0 < r
      · rw [decide_eq_false (show ¬ (0 ≤ p ∧ p < (l.length : Int)) by omega), Bool.false_and, Bool.and_false]
      · rw [decide_eq_false hr, Bool.and_false, Bool.and_false]
    exact .inl ⟨(swp_no e).2, by omega⟩

set_option maxRecDepth 100000 in
set_option maxHeartbeats 16000000 in
theorem walk_FastCuts (a : Option Addr) (len cap : Nat) (p r : Int) (n : Int) (ak : Option Addr) (lk ck : Nat) (w : World) (hK : KeepIn w a len cap) (hu : (Lit.int .u8 n).wf = true) (hKk : KeepIn w ak lk ck) : Calls Try.prog 6 #[.slice a len cap, .int .i64 p, .int .i64 r, .int .u8 n, .slice ak lk ck] w fun e w' => e = .returned (.bool true) ∧ Below w.heap.size w w' := by
  obtain ⟨hu0, hu1⟩ : 0 ≤ n ∧ n < 256 := by
    simp [Lit.wf, IntKind.min, IntKind.max, IntKind.bits, IntKind.signed] at hu
    omega
  clear hu
  by_cases h1 : (20 : Int) < (len : Int)
  · have HB0 : Hid (Below w.heap.size w w) := Below.refl _ _
    go_enter Try.func6, Try.ntmps6
    go_wp2_with (first
      | (go_at_call 9; refine (awake_any _).mono ?_; rintro e w1 ⟨rfl, hbw⟩; have HB1 : Hid (Below w.heap.size w w1) := bstep HB0.out hbw; clear HB0; clear hbw))
    go_ret
    exact ⟨rfl, HB1.out⟩
  by_cases h2 : (20 : Int) < (lk : Int)
  · have HB0 : Hid (Below w.heap.size w w) := Below.refl _ _
    go_enter Try.func6, Try.ntmps6
    go_wp2_with (first
      | (go_at_call 9; refine (awake_any _).mono ?_; rintro e w1 ⟨rfl, hbw⟩; have HB1 : Hid (Below w.heap.size w w1) := bstep HB0.out hbw; clear HB0; clear hbw))
    go_ret
    exact ⟨rfl, HB1.out⟩
  obtain ⟨l, hl, hR, _⟩ := hK (by omega)
  obtain ⟨keep, hlk, hRk, hBd⟩ := hKk (by omega)
  subst hl
  subst hlk
  have hcap := hR.cap
  have HB0 : Hid (Below w.heap.size w w) := Below.refl _ _
  have FL0 : Hid (Rd w (.slice a l.length cap) l) := hR
  have FK0 : Hid (Rd w (.slice ak keep.length ck) keep) := hRk
  clear hR hRk
  cases eU : unB l r
  · go_enter Try.func6, Try.ntmps6
    go_wp2_with (first
      | (go_at_call 9; refine (awake_any _).mono ?_; rintro e w1 ⟨rfl, hbw⟩; have HB1 : Hid (Below w.heap.size w w1) := bstep HB0.out hbw; have FL1 : Hid (Rd w1 (.slice a l.length cap) l) := FL0.out.below hbw; clear HB0 FL0; clear hbw)
      | (go_at_call 26; refine (unlike_any _ l r _ FL1.out).mono ?_; rintro e w2 ⟨rfl, hbw⟩; rw [eU]; have HB2 : Hid (Below w.heap.size w w2) := bstep HB1.out hbw; have FL2 : Hid (Rd w2 (.slice a l.length cap) l) := FL1.out.below hbw; clear HB1 FL1; clear hbw))
    go_ret
    exact ⟨rfl, HB2.out⟩
  by_cases hE : cutE 16 l p = 0
  · obtain ⟨hmc, hp0, hp1, h13, hiS⟩ := cutE_why hE
    have hsw := swpE_why (r := r) hmc hp0 hp1
    obtain ⟨pn, rfl⟩ : ∃ pn : Nat, p = (pn : Int) := ⟨p.toNat, by omega⟩
    have hU : Unl l r := @of_decide_eq_true _ (Unl.dec l r) eU
    have hpn : pn ≤ l.length := by omega
    have hr0 : 0 ≤ n % (((putS 16 (cutF l pn)).length : Int) + 1) := Int.emod_nonneg _ (by omega)
    have hr1 : n % (((putS 16 (cutF l pn)).length : Int) + 1) < ((putS 16 (cutF l pn)).length : Int) + 1 := Int.emod_lt_of_pos _ (by omega)
    obtain ⟨k, hq⟩ := Int.eq_ofNat_of_zero_le hr0
    rw [hq] at hr1
    have hkN : k ≤ (putS 16 (cutF l pn)).length := by omega
    obtain ⟨g1, q, hq1, hq2, hq3, hq4⟩ := cut_facts (fun x hx => (hU.1 x hx).1) h13 hpn k hkN keep
    have hfew := few_cut (b := 16) (l := l) (c := pn) nd16 h13
    have HiS : Hid (cutS 16 l (pn : Int) = putS 16 (cutF l pn)) := hiS
    obtain ⟨S, hS⟩ : ∃ S, putS 16 (cutF l pn) = S := ⟨_, rfl⟩
    rw [hS] at HiS hq hkN hfew g1 hq3 hq4
    obtain ⟨X, hX⟩ : ∃ X, csP (allM (laidW l)) S (k : Int) keep = X := ⟨_, rfl⟩
    have HX : Hid (csP (allM (laidW l)) S (k : Int) keep = X) := hX
    rw [hX] at hq3
    obtain ⟨Kp, hKp⟩ : ∃ Kp, slN X 16 = Kp := ⟨_, rfl⟩
    have HKp : Hid (slN X 16 = Kp) := hKp
    rw [hKp] at hq3
    have hKq : Kp.length = q := by rw [hq3, List.length_take]; omega
    have hKl : Kp.length ≤ l.length := by omega
    have dK : Hid (decide (Kp = l.take Kp.length) = true) := decide_eq_true (by rw [hKq]; exact hq3)
    have HE1 : Hid (ruE (allM (laidW l)) S = 0) := g1
    have k1 : decide ((Kp.length : Int) < (pn : Int)) = false := decide_eq_false (by omega)
    have k1n : ¬ (Kp.length : Int) < (pn : Int) := by omega
    have k1m : decide (Kp.length < pn) = false := decide_eq_false (by omega)
    have k2' : decide ((l.length : Int) < (Kp.length : Int)) = false := decide_eq_false (by omega)
    have k2m : decide (l.length < Kp.length) = false := decide_eq_false (by omega)
    have k2n : ¬ (l.length : Int) < (Kp.length : Int) := by omega
    have hrn : (allM (laidW l)).pend.length + S.length ≤ 900 := by show 0 + _ ≤ _; omega
    have hslc : ∀ W, (Instr.slice 22 (.slice a l.length cap) none (some (.int .i64 (Kp.length : Int))) none).run Try.prog W = .ok (.slice a Kp.length cap) W := fun W => slice_toI Kp.length hKl hcap W
    have hfull : Hid (k = S.length → Kp.length = pn) := fun h => hKq.trans (hq4 h)
    clear hiS hS hX hKp hmc hr0 hq1 hq2 hq3 hq4 hKq g1
    have tl1 : Hid (0 = 0) := rfl
    have tc1 : Hid (0 = 0) := rfl
    have ts1 : Hid (0 = 0) := rfl
    have tn1 : Hid (0 = 0) := rfl
    have ta1 : Hid (0 = 0) := rfl
    have ts2 : Hid (0 = 0) := rfl
    have tn2 : Hid (0 = 0) := rfl
    have tn3 : Hid (0 = 0) := rfl
    rcases hsw with ⟨hs1, hs2⟩ | ⟨hs1, hs2, hs3, hs4⟩
    · by_cases hr : r ≤ 0
      · have dr : decide (r ≤ 0) = true := decide_eq_true hr
        by_cases hkS : k = S.length
        · have dk : ((k : Int) == (S.length : Int)) = true := beq_iff_eq.2 (by omega)
          have dp : ((Kp.length : Int) != (pn : Int)) = false := by have := hfull.out hkS; simp; omega
          clear hkS
          go_enter Try.func6, Try.ntmps6
          go_wp2_with (first
            | (go_at_call 9; refine (awake_any _).mono ?_; rintro e w1 ⟨rfl, hbw⟩; have HB1 : Hid (Below w.heap.size w w1) := bstep HB0.out hbw; have FL1 : Hid (Rd w1 (.slice a l.length cap) l) := FL0.out.below hbw; have FK1 : Hid (Rd w1 (.slice ak keep.length ck) keep) := FK0.out.below hbw; clear HB0 FL0 FK0; clear hbw)
            | (go_at_call 26; refine (unlike_any _ l r _ FL1.out).mono ?_; rintro e w2 ⟨rfl, hbw⟩; rw [eU]; have HB2 : Hid (Below w.heap.size w w2) := bstep HB1.out hbw; have FL2 : Hid (Rd w2 (.slice a l.length cap) l) := FL1.out.below hbw; have FK2 : Hid (Rd w2 (.slice ak keep.length ck) keep) := FK1.out.below hbw; clear HB1 FL1 FK1; clear hbw)
            | (go_at_call 16; refine (cut_any 16 _ l (pn : Int) _ FL2.out).mono ?_; rintro e w3 ⟨vA, rfl, R, hbw⟩; rw [HiS.out] at R; obtain ⟨-, aA, cA, rfl⟩ := R.form; have HB3 : Hid (Below w.heap.size w w3) := bstep HB2.out hbw; have FL3 : Hid (Rd w3 (.slice a l.length cap) l) := FL2.out.below hbw; have FK3 : Hid (Rd w3 (.slice ak keep.length ck) keep) := FK2.out.below hbw; have FA3 : Hid (RdS w3 (.slice aA S.length cA) S) := R; clear HB2 FL2 FK2; clear hbw; clear R)
            | (go_at_call 14; refine (swap_any 16 _ l (pn : Int) r _ FL3.out).mono ?_; rintro e w4 ⟨vB, rfl, R, hbw⟩; obtain ⟨-, aB, cB, rfl⟩ := R.form; have HB4 : Hid (Below w.heap.size w w4) := bstep HB3.out hbw; have FL4 : Hid (Rd w4 (.slice a l.length cap) l) := FL3.out.below hbw; have FK4 : Hid (Rd w4 (.slice ak keep.length ck) keep) := FK3.out.below hbw; have FA4 : Hid (RdS w4 (.slice aA S.length cA) S) := FA3.out.below hbw; clear HB3 FL3 FK3 FA3; clear hbw; clear R)
            | (go_at_call 29; clear tl1; refine (laid_any _ l _ FL4.out h13).mono ?_; rintro e w5 ⟨x1, y1, z1, rfl, R, hbw⟩; obtain ⟨a1, c1, a2, c2, a3, c3, rfl, rfl, rfl⟩ := R.formsA; have HB5 : Hid (Below w.heap.size w w5) := bstep HB4.out hbw; have FL5 : Hid (Rd w5 (.slice a l.length cap) l) := FL4.out.below hbw; have FK5 : Hid (Rd w5 (.slice ak keep.length ck) keep) := FK4.out.below hbw; have FA5 : Hid (RdS w5 (.slice aA S.length cA) S) := FA4.out.below hbw; have FM5 : Hid (RdM w5 (.slice a1 (laidW l).length c1) (.slice a2 (laidW l).length c2) (.slice a3 0 c3) (allM (laidW l))) := R; clear HB4 FL4 FK4 FA4; clear hbw; clear R)
            | (go_at_call 28; clear tc1; refine (crashS_any _ _ _ _ _ (allM (laidW l)) S (k : Int) keep _ FM5.out FA5.out FK5.out hBd hrn).mono ?_; rintro e w6 ⟨vC, rfl, R, hbw⟩; rw [HX.out] at R; rw [HE1.out]; obtain ⟨-, aC, cC, rfl⟩ := R.form; have HB6 : Hid (Below w.heap.size w w6) := bstep HB5.out hbw; have FL6 : Hid (Rd w6 (.slice a l.length cap) l) := FL5.out.below hbw; have FK6 : Hid (Rd w6 (.slice ak keep.length ck) keep) := FK5.out.below hbw; have FA6 : Hid (RdS w6 (.slice aA S.length cA) S) := FA5.out.below hbw; have FC6 : Hid (Rd w6 (.slice aC X.length cC) X) := R; clear HB5 FL5 FK5 FA5 FM5; clear hbw; clear R)
            | (go_at_call 22; clear ts1; refine (slots_any _ X 16 _ FC6.out).mono ?_; rintro e w7 ⟨vs, rfl, R, hbw⟩; rw [HKp.out] at R; obtain ⟨-, aK, cK, rfl⟩ := R.form; have HB7 : Hid (Below w.heap.size w w7) := bstep HB6.out hbw; have FL7 : Hid (Rd w7 (.slice a l.length cap) l) := FL6.out.below hbw; have FK7 : Hid (Rd w7 (.slice ak keep.length ck) keep) := FK6.out.below hbw; have FA7 : Hid (RdS w7 (.slice aA S.length cA) S) := FA6.out.below hbw; have FS7 : Hid (Rd w7 (.slice aK Kp.length cK) Kp) := R; clear HB6 FL6 FK6 FA6 FC6; clear hbw; clear R)
            | (go_at_call 21; clear tn1; refine (numbers_any _ _ Kp (l.take Kp.length) _ FS7.out (FL7.out.takeI hKl)).mono ?_; rintro e w8 ⟨rfl, hbw⟩; rw [dK.out]; have HB8 : Hid (Below w.heap.size w w8) := bstep HB7.out hbw; have FL8 : Hid (Rd w8 (.slice a l.length cap) l) := FL7.out.below hbw; have FK8 : Hid (Rd w8 (.slice ak keep.length ck) keep) := FK7.out.below hbw; have FA8 : Hid (RdS w8 (.slice aA S.length cA) S) := FA7.out.below hbw; have FS8 : Hid (Rd w8 (.slice aK Kp.length cK) Kp) := FS7.out.below hbw; clear HB7 FL7 FK7 FA7 FS7; clear hbw))
          go_ret
          exact ⟨rfl, HB8.out⟩
        · have dk : ((k : Int) == (S.length : Int)) = false := beq_eq_false_iff_ne.2 (by omega)
          clear hkS
          go_enter Try.func6, Try.ntmps6
          go_wp2_with (first
            | (go_at_call 9; refine (awake_any _).mono ?_; rintro e w1 ⟨rfl, hbw⟩; have HB1 : Hid (Below w.heap.size w w1) := bstep HB0.out hbw; have FL1 : Hid (Rd w1 (.slice a l.length cap) l) := FL0.out.below hbw; have FK1 : Hid (Rd w1 (.slice ak keep.length ck) keep) := FK0.out.below hbw; clear HB0 FL0 FK0; clear hbw)
            | (go_at_call 26; refine (unlike_any _ l r _ FL1.out).mono ?_; rintro e w2 ⟨rfl, hbw⟩; rw [eU]; have HB2 : Hid (Below w.heap.size w w2) := bstep HB1.out hbw; have FL2 : Hid (Rd w2 (.slice a l.length cap) l) := FL1.out.below hbw; have FK2 : Hid (Rd w2 (.slice ak keep.length ck) keep) := FK1.out.below hbw; clear HB1 FL1 FK1; clear hbw)
            | (go_at_call 16; refine (cut_any 16 _ l (pn : Int) _ FL2.out).mono ?_; rintro e w3 ⟨vA, rfl, R, hbw⟩; rw [HiS.out] at R; obtain ⟨-, aA, cA, rfl⟩ := R.form; have HB3 : Hid (Below w.heap.size w w3) := bstep HB2.out hbw; have FL3 : Hid (Rd w3 (.slice a l.length cap) l) := FL2.out.below hbw; have FK3 : Hid (Rd w3 (.slice ak keep.length ck) keep) := FK2.out.below hbw; have FA3 : Hid (RdS w3 (.slice aA S.length cA) S) := R; clear HB2 FL2 FK2; clear hbw; clear R)
            | (go_at_call 14; refine (swap_any 16 _ l (pn : Int) r _ FL3.out).mono ?_; rintro e w4 ⟨vB, rfl, R, hbw⟩; obtain ⟨-, aB, cB, rfl⟩ := R.form; have HB4 : Hid (Below w.heap.size w w4) := bstep HB3.out hbw; have FL4 : Hid (Rd w4 (.slice a l.length cap) l) := FL3.out.below hbw; have FK4 : Hid (Rd w4 (.slice ak keep.length ck) keep) := FK3.out.below hbw; have FA4 : Hid (RdS w4 (.slice aA S.length cA) S) := FA3.out.below hbw; clear HB3 FL3 FK3 FA3; clear hbw; clear R)
            | (go_at_call 29; clear tl1; refine (laid_any _ l _ FL4.out h13).mono ?_; rintro e w5 ⟨x1, y1, z1, rfl, R, hbw⟩; obtain ⟨a1, c1, a2, c2, a3, c3, rfl, rfl, rfl⟩ := R.formsA; have HB5 : Hid (Below w.heap.size w w5) := bstep HB4.out hbw; have FL5 : Hid (Rd w5 (.slice a l.length cap) l) := FL4.out.below hbw; have FK5 : Hid (Rd w5 (.slice ak keep.length ck) keep) := FK4.out.below hbw; have FA5 : Hid (RdS w5 (.slice aA S.length cA) S) := FA4.out.below hbw; have FM5 : Hid (RdM w5 (.slice a1 (laidW l).length c1) (.slice a2 (laidW l).length c2) (.slice a3 0 c3) (allM (laidW l))) := R; clear HB4 FL4 FK4 FA4; clear hbw; clear R)
            | (go_at_call 28; clear tc1; refine (crashS_any _ _ _ _ _ (allM (laidW l)) S (k : Int) keep _ FM5.out FA5.out FK5.out hBd hrn).mono ?_; rintro e w6 ⟨vC, rfl, R, hbw⟩; rw [HX.out] at R; rw [HE1.out]; obtain ⟨-, aC, cC, rfl⟩ := R.form; have HB6 : Hid (Below w.heap.size w w6) := bstep HB5.out hbw; have FL6 : Hid (Rd w6 (.slice a l.length cap) l) := FL5.out.below hbw; have FK6 : Hid (Rd w6 (.slice ak keep.length ck) keep) := FK5.out.below hbw; have FA6 : Hid (RdS w6 (.slice aA S.length cA) S) := FA5.out.below hbw; have FC6 : Hid (Rd w6 (.slice aC X.length cC) X) := R; clear HB5 FL5 FK5 FA5 FM5; clear hbw; clear R)
            | (go_at_call 22; clear ts1; refine (slots_any _ X 16 _ FC6.out).mono ?_; rintro e w7 ⟨vs, rfl, R, hbw⟩; rw [HKp.out] at R; obtain ⟨-, aK, cK, rfl⟩ := R.form; have HB7 : Hid (Below w.heap.size w w7) := bstep HB6.out hbw; have FL7 : Hid (Rd w7 (.slice a l.length cap) l) := FL6.out.below hbw; have FK7 : Hid (Rd w7 (.slice ak keep.length ck) keep) := FK6.out.below hbw; have FA7 : Hid (RdS w7 (.slice aA S.length cA) S) := FA6.out.below hbw; have FS7 : Hid (Rd w7 (.slice aK Kp.length cK) Kp) := R; clear HB6 FL6 FK6 FA6 FC6; clear hbw; clear R)
            | (go_at_call 21; clear tn1; refine (numbers_any _ _ Kp (l.take Kp.length) _ FS7.out (FL7.out.takeI hKl)).mono ?_; rintro e w8 ⟨rfl, hbw⟩; rw [dK.out]; have HB8 : Hid (Below w.heap.size w w8) := bstep HB7.out hbw; have FL8 : Hid (Rd w8 (.slice a l.length cap) l) := FL7.out.below hbw; have FK8 : Hid (Rd w8 (.slice ak keep.length ck) keep) := FK7.out.below hbw; have FA8 : Hid (RdS w8 (.slice aA S.length cA) S) := FA7.out.below hbw; have FS8 : Hid (Rd w8 (.slice aK Kp.length cK) Kp) := FS7.out.below hbw; clear HB7 FL7 FK7 FA7 FS7; clear hbw))
          go_ret
          exact ⟨rfl, HB8.out⟩
      · have dr : decide (r ≤ 0) = false := decide_eq_false hr
        have dl : ((pn : Int) == (l.length : Int)) = true := beq_iff_eq.2 (by omega)
        clear hs2
        by_cases hkS : k = S.length
        · have dk : ((k : Int) == (S.length : Int)) = true := beq_iff_eq.2 (by omega)
          have dp : ((Kp.length : Int) != (pn : Int)) = false := by have := hfull.out hkS; simp; omega
          clear hkS
          go_enter Try.func6, Try.ntmps6
          go_wp2_with (first
            | (go_at_call 9; refine (awake_any _).mono ?_; rintro e w1 ⟨rfl, hbw⟩; have HB1 : Hid (Below w.heap.size w w1) := bstep HB0.out hbw; have FL1 : Hid (Rd w1 (.slice a l.length cap) l) := FL0.out.below hbw; have FK1 : Hid (Rd w1 (.slice ak keep.length ck) keep) := FK0.out.below hbw; clear HB0 FL0 FK0; clear hbw)
            | (go_at_call 26; refine (unlike_any _ l r _ FL1.out).mono ?_; rintro e w2 ⟨rfl, hbw⟩; rw [eU]; have HB2 : Hid (Below w.heap.size w w2) := bstep HB1.out hbw; have FL2 : Hid (Rd w2 (.slice a l.length cap) l) := FL1.out.below hbw; have FK2 : Hid (Rd w2 (.slice ak keep.length ck) keep) := FK1.out.below hbw; clear HB1 FL1 FK1; clear hbw)
            | (go_at_call 16; refine (cut_any 16 _ l (pn : Int) _ FL2.out).mono ?_; rintro e w3 ⟨vA, rfl, R, hbw⟩; rw [HiS.out] at R; obtain ⟨-, aA, cA, rfl⟩ := R.form; have HB3 : Hid (Below w.heap.size w w3) := bstep HB2.out hbw; have FL3 : Hid (Rd w3 (.slice a l.length cap) l) := FL2.out.below hbw; have FK3 : Hid (Rd w3 (.slice ak keep.length ck) keep) := FK2.out.below hbw; have FA3 : Hid (RdS w3 (.slice aA S.length cA) S) := R; clear HB2 FL2 FK2; clear hbw; clear R)
            | (go_at_call 14; refine (swap_any 16 _ l (pn : Int) r _ FL3.out).mono ?_; rintro e w4 ⟨vB, rfl, R, hbw⟩; obtain ⟨-, aB, cB, rfl⟩ := R.form; have HB4 : Hid (Below w.heap.size w w4) := bstep HB3.out hbw; have FL4 : Hid (Rd w4 (.slice a l.length cap) l) := FL3.out.below hbw; have FK4 : Hid (Rd w4 (.slice ak keep.length ck) keep) := FK3.out.below hbw; have FA4 : Hid (RdS w4 (.slice aA S.length cA) S) := FA3.out.below hbw; clear HB3 FL3 FK3 FA3; clear hbw; clear R)
            | (go_at_call 29; clear tl1; refine (laid_any _ l _ FL4.out h13).mono ?_; rintro e w5 ⟨x1, y1, z1, rfl, R, hbw⟩; obtain ⟨a1, c1, a2, c2, a3, c3, rfl, rfl, rfl⟩ := R.formsA; have HB5 : Hid (Below w.heap.size w w5) := bstep HB4.out hbw; have FL5 : Hid (Rd w5 (.slice a l.length cap) l) := FL4.out.below hbw; have FK5 : Hid (Rd w5 (.slice ak keep.length ck) keep) := FK4.out.below hbw; have FA5 : Hid (RdS w5 (.slice aA S.length cA) S) := FA4.out.below hbw; have FM5 : Hid (RdM w5 (.slice a1 (laidW l).length c1) (.slice a2 (laidW l).length c2) (.slice a3 0 c3) (allM (laidW l))) := R; clear HB4 FL4 FK4 FA4; clear hbw; clear R)
            | (go_at_call 28; clear tc1; refine (crashS_any _ _ _ _ _ (allM (laidW l)) S (k : Int) keep _ FM5.out FA5.out FK5.out hBd hrn).mono ?_; rintro e w6 ⟨vC, rfl, R, hbw⟩; rw [HX.out] at R; rw [HE1.out]; obtain ⟨-, aC, cC, rfl⟩ := R.form; have HB6 : Hid (Below w.heap.size w w6) := bstep HB5.out hbw; have FL6 : Hid (Rd w6 (.slice a l.length cap) l) := FL5.out.below hbw; have FK6 : Hid (Rd w6 (.slice ak keep.length ck) keep) := FK5.out.below hbw; have FA6 : Hid (RdS w6 (.slice aA S.length cA) S) := FA5.out.below hbw; have FC6 : Hid (Rd w6 (.slice aC X.length cC) X) := R; clear HB5 FL5 FK5 FA5 FM5; clear hbw; clear R)
            | (go_at_call 22; clear ts1; refine (slots_any _ X 16 _ FC6.out).mono ?_; rintro e w7 ⟨vs, rfl, R, hbw⟩; rw [HKp.out] at R; obtain ⟨-, aK, cK, rfl⟩ := R.form; have HB7 : Hid (Below w.heap.size w w7) := bstep HB6.out hbw; have FL7 : Hid (Rd w7 (.slice a l.length cap) l) := FL6.out.below hbw; have FK7 : Hid (Rd w7 (.slice ak keep.length ck) keep) := FK6.out.below hbw; have FA7 : Hid (RdS w7 (.slice aA S.length cA) S) := FA6.out.below hbw; have FS7 : Hid (Rd w7 (.slice aK Kp.length cK) Kp) := R; clear HB6 FL6 FK6 FA6 FC6; clear hbw; clear R)
            | (go_at_call 21; clear tn1; refine (numbers_any _ _ Kp (l.take Kp.length) _ FS7.out (FL7.out.takeI hKl)).mono ?_; rintro e w8 ⟨rfl, hbw⟩; rw [dK.out]; have HB8 : Hid (Below w.heap.size w w8) := bstep HB7.out hbw; have FL8 : Hid (Rd w8 (.slice a l.length cap) l) := FL7.out.below hbw; have FK8 : Hid (Rd w8 (.slice ak keep.length ck) keep) := FK7.out.below hbw; have FA8 : Hid (RdS w8 (.slice aA S.length cA) S) := FA7.out.below hbw; have FS8 : Hid (Rd w8 (.slice aK Kp.length cK) Kp) := FS7.out.below hbw; clear HB7 FL7 FK7 FA7 FS7; clear hbw))
          go_ret
          exact ⟨rfl, HB8.out⟩
        · have dk : ((k : Int) == (S.length : Int)) = false := beq_eq_false_iff_ne.2 (by omega)
          clear hkS
          go_enter Try.func6, Try.ntmps6
          go_wp2_with (first
            | (go_at_call 9; refine (awake_any _).mono ?_; rintro e w1 ⟨rfl, hbw⟩; have HB1 : Hid (Below w.heap.size w w1) := bstep HB0.out hbw; have FL1 : Hid (Rd w1 (.slice a l.length cap) l) := FL0.out.below hbw; have FK1 : Hid (Rd w1 (.slice ak keep.length ck) keep) := FK0.out.below hbw; clear HB0 FL0 FK0; clear hbw)
            | (go_at_call 26; refine (unlike_any _ l r _ FL1.out).mono ?_; rintro e w2 ⟨rfl, hbw⟩; rw [eU]; have HB2 : Hid (Below w.heap.size w w2) := bstep HB1.out hbw; have FL2 : Hid (Rd w2 (.slice a l.length cap) l) := FL1.out.below hbw; have FK2 : Hid (Rd w2 (.slice ak keep.length ck) keep) := FK1.out.below hbw; clear HB1 FL1 FK1; clear hbw)
            | (go_at_call 16; refine (cut_any 16 _ l (pn : Int) _ FL2.out).mono ?_; rintro e w3 ⟨vA, rfl, R, hbw⟩; rw [HiS.out] at R; obtain ⟨-, aA, cA, rfl⟩ := R.form; have HB3 : Hid (Below w.heap.size w w3) := bstep HB2.out hbw; have FL3 : Hid (Rd w3 (.slice a l.length cap) l) := FL2.out.below hbw; have FK3 : Hid (Rd w3 (.slice ak keep.length ck) keep) := FK2.out.below hbw; have FA3 : Hid (RdS w3 (.slice aA S.length cA) S) := R; clear HB2 FL2 FK2; clear hbw; clear R)
            | (go_at_call 14; refine (swap_any 16 _ l (pn : Int) r _ FL3.out).mono ?_; rintro e w4 ⟨vB, rfl, R, hbw⟩; obtain ⟨-, aB, cB, rfl⟩ := R.form; have HB4 : Hid (Below w.heap.size w w4) := bstep HB3.out hbw; have FL4 : Hid (Rd w4 (.slice a l.length cap) l) := FL3.out.below hbw; have FK4 : Hid (Rd w4 (.slice ak keep.length ck) keep) := FK3.out.below hbw; have FA4 : Hid (RdS w4 (.slice aA S.length cA) S) := FA3.out.below hbw; clear HB3 FL3 FK3 FA3; clear hbw; clear R)
            | (go_at_call 29; clear tl1; refine (laid_any _ l _ FL4.out h13).mono ?_; rintro e w5 ⟨x1, y1, z1, rfl, R, hbw⟩; obtain ⟨a1, c1, a2, c2, a3, c3, rfl, rfl, rfl⟩ := R.formsA; have HB5 : Hid (Below w.heap.size w w5) := bstep HB4.out hbw; have FL5 : Hid (Rd w5 (.slice a l.length cap) l) := FL4.out.below hbw; have FK5 : Hid (Rd w5 (.slice ak keep.length ck) keep) := FK4.out.below hbw; have FA5 : Hid (RdS w5 (.slice aA S.length cA) S) := FA4.out.below hbw; have FM5 : Hid (RdM w5 (.slice a1 (laidW l).length c1) (.slice a2 (laidW l).length c2) (.slice a3 0 c3) (allM (laidW l))) := R; clear HB4 FL4 FK4 FA4; clear hbw; clear R)
            | (go_at_call 28; clear tc1; refine (crashS_any _ _ _ _ _ (allM (laidW l)) S (k : Int) keep _ FM5.out FA5.out FK5.out hBd hrn).mono ?_; rintro e w6 ⟨vC, rfl, R, hbw⟩; rw [HX.out] at R; rw [HE1.out]; obtain ⟨-, aC, cC, rfl⟩ := R.form; have HB6 : Hid (Below w.heap.size w w6) := bstep HB5.out hbw; have FL6 : Hid (Rd w6 (.slice a l.length cap) l) := FL5.out.below hbw; have FK6 : Hid (Rd w6 (.slice ak keep.length ck) keep) := FK5.out.below hbw; have FA6 : Hid (RdS w6 (.slice aA S.length cA) S) := FA5.out.below hbw; have FC6 : Hid (Rd w6 (.slice aC X.length cC) X) := R; clear HB5 FL5 FK5 FA5 FM5; clear hbw; clear R)
            | (go_at_call 22; clear ts1; refine (slots_any _ X 16 _ FC6.out).mono ?_; rintro e w7 ⟨vs, rfl, R, hbw⟩; rw [HKp.out] at R; obtain ⟨-, aK, cK, rfl⟩ := R.form; have HB7 : Hid (Below w.heap.size w w7) := bstep HB6.out hbw; have FL7 : Hid (Rd w7 (.slice a l.length cap) l) := FL6.out.below hbw; have FK7 : Hid (Rd w7 (.slice ak keep.length ck) keep) := FK6.out.below hbw; have FA7 : Hid (RdS w7 (.slice aA S.length cA) S) := FA6.out.below hbw; have FS7 : Hid (Rd w7 (.slice aK Kp.length cK) Kp) := R; clear HB6 FL6 FK6 FA6 FC6; clear hbw; clear R)
            | (go_at_call 21; clear tn1; refine (numbers_any _ _ Kp (l.take Kp.length) _ FS7.out (FL7.out.takeI hKl)).mono ?_; rintro e w8 ⟨rfl, hbw⟩; rw [dK.out]; have HB8 : Hid (Below w.heap.size w w8) := bstep HB7.out hbw; have FL8 : Hid (Rd w8 (.slice a l.length cap) l) := FL7.out.below hbw; have FK8 : Hid (Rd w8 (.slice ak keep.length ck) keep) := FK7.out.below hbw; have FA8 : Hid (RdS w8 (.slice aA S.length cA) S) := FA7.out.below hbw; have FS8 : Hid (Rd w8 (.slice aK Kp.length cK) Kp) := FS7.out.below hbw; clear HB7 FL7 FK7 FA7 FS7; clear hbw))
          go_ret
          exact ⟨rfl, HB8.out⟩
    · have hpl : pn < l.length := by omega
      have hplI : (pn : Int) < (l.length : Int) := by omega
      have HsS : Hid (swpS 16 l (pn : Int) r = putS 16 [⟨(pn : Int), r⟩]) := hs4
      have hr2 : 0 ≤ n % 3 := Int.emod_nonneg _ (by omega)
      obtain ⟨k2, hqq⟩ := Int.eq_ofNat_of_zero_le hr2
      have hk2 : k2 ≤ 2 := by omega
      obtain ⟨g2, g3⟩ := swp_facts (fun x hx => (hU.1 x hx).1) hs2 h13 hpl k2 (by exact hk2) keep
      obtain ⟨X2, hX2⟩ : ∃ X, csP (allM (laidW l)) (putS 16 [⟨(pn : Int), r⟩]) (k2 : Int) keep = X := ⟨_, rfl⟩
      have HX2 : Hid (csP (allM (laidW l)) (putS 16 [⟨(pn : Int), r⟩]) (k2 : Int) keep = X2) := hX2
      rw [hX2] at g3
      obtain ⟨Sw, hSw⟩ : ∃ Sw, slN X2 16 = Sw := ⟨_, rfl⟩
      have HSw : Hid (slN X2 16 = Sw) := hSw
      rw [hSw] at g3
      have HsA : Hid (Sw = l ∨ Sw = l.set pn r) := g3
      have HE3 : Hid (ruE (allM (laidW l)) (putS 16 [⟨(pn : Int), r⟩]) = 0) := g2
      have hrn2 : (allM (laidW l)).pend.length + (putS 16 [(⟨(pn : Int), r⟩ : Fl)]).length ≤ 900 := by
        have e := putS_length 16 [(⟨(pn : Int), r⟩ : Fl)]
        rw [List.length_singleton] at e
        show 0 + _ ≤ _
        omega
      have HT3 : Hid (n.tmod 3 = (k2 : Int) ∧ wrap64 (k2 : Int) = (k2 : Int) ∧ IntKind.i64.wrap (k2 : Int) = (k2 : Int) ∧ wrap64 n = n ∧ IntKind.i64.wrap n = n) := rem3 hu0 hu1 hqq hk2
      have Hqq : Hid (n % 3 = (k2 : Int)) := hqq
      clear hqq hk2
      clear hs4 hr2 g2 g3 hX2 hSw hU
      by_cases hkS : k = S.length
      · have dk : ((k : Int) == (S.length : Int)) = true := beq_iff_eq.2 (by omega)
        have dp : ((Kp.length : Int) != (pn : Int)) = false := by have := hfull.out hkS; simp; omega
        clear hkS
        go_enter Try.func6, Try.ntmps6
        go_upto_region 15 with (first
          | (go_at_call 9; refine (awake_any _).mono ?_; rintro e w1 ⟨rfl, hbw⟩; have HB1 : Hid (Below w.heap.size w w1) := bstep HB0.out hbw; have FL1 : Hid (Rd w1 (.slice a l.length cap) l) := FL0.out.below hbw; have FK1 : Hid (Rd w1 (.slice ak keep.length ck) keep) := FK0.out.below hbw; clear HB0 FL0 FK0; clear hbw)
          | (go_at_call 26; refine (unlike_any _ l r _ FL1.out).mono ?_; rintro e w2 ⟨rfl, hbw⟩; rw [eU]; have HB2 : Hid (Below w.heap.size w w2) := bstep HB1.out hbw; have FL2 : Hid (Rd w2 (.slice a l.length cap) l) := FL1.out.below hbw; have FK2 : Hid (Rd w2 (.slice ak keep.length ck) keep) := FK1.out.below hbw; clear HB1 FL1 FK1; clear hbw)
          | (go_at_call 16; refine (cut_any 16 _ l (pn : Int) _ FL2.out).mono ?_; rintro e w3 ⟨vA, rfl, R, hbw⟩; rw [HiS.out] at R; obtain ⟨-, aA, cA, rfl⟩ := R.form; have HB3 : Hid (Below w.heap.size w w3) := bstep HB2.out hbw; have FL3 : Hid (Rd w3 (.slice a l.length cap) l) := FL2.out.below hbw; have FK3 : Hid (Rd w3 (.slice ak keep.length ck) keep) := FK2.out.below hbw; have FA3 : Hid (RdS w3 (.slice aA S.length cA) S) := R; clear HB2 FL2 FK2; clear hbw; clear R)
          | (go_at_call 14; refine (swap_any 16 _ l (pn : Int) r _ FL3.out).mono ?_; rintro e w4 ⟨vB, rfl, R, hbw⟩; rw [HsS.out] at R; obtain ⟨aB, cB, rfl⟩ := R.form2; have HB4 : Hid (Below w.heap.size w w4) := bstep HB3.out hbw; have FL4 : Hid (Rd w4 (.slice a l.length cap) l) := FL3.out.below hbw; have FK4 : Hid (Rd w4 (.slice ak keep.length ck) keep) := FK3.out.below hbw; have FA4 : Hid (RdS w4 (.slice aA S.length cA) S) := FA3.out.below hbw; have FB4 : Hid (RdS w4 (.slice aB 2 cB) (putS 16 [⟨(pn : Int), r⟩])) := R; clear HB3 FL3 FK3 FA3; clear hbw; clear R)
          | (go_at_call 29; clear tl1; refine (laid_any _ l _ FL4.out h13).mono ?_; rintro e w5 ⟨x1, y1, z1, rfl, R, hbw⟩; obtain ⟨a1, c1, a2, c2, a3, c3, rfl, rfl, rfl⟩ := R.formsA; have HB5 : Hid (Below w.heap.size w w5) := bstep HB4.out hbw; have FL5 : Hid (Rd w5 (.slice a l.length cap) l) := FL4.out.below hbw; have FK5 : Hid (Rd w5 (.slice ak keep.length ck) keep) := FK4.out.below hbw; have FA5 : Hid (RdS w5 (.slice aA S.length cA) S) := FA4.out.below hbw; have FB5 : Hid (RdS w5 (.slice aB 2 cB) (putS 16 [⟨(pn : Int), r⟩])) := FB4.out.below hbw; have FM5 : Hid (RdM w5 (.slice a1 (laidW l).length c1) (.slice a2 (laidW l).length c2) (.slice a3 0 c3) (allM (laidW l))) := R; clear HB4 FL4 FK4 FA4 FB4; clear hbw; clear R)
          | (go_at_call 28; clear tc1; refine (crashS_any _ _ _ _ _ (allM (laidW l)) S (k : Int) keep _ FM5.out FA5.out FK5.out hBd hrn).mono ?_; rintro e w6 ⟨vC, rfl, R, hbw⟩; rw [HX.out] at R; rw [HE1.out]; obtain ⟨-, aC, cC, rfl⟩ := R.form; have HB6 : Hid (Below w.heap.size w w6) := bstep HB5.out hbw; have FL6 : Hid (Rd w6 (.slice a l.length cap) l) := FL5.out.below hbw; have FK6 : Hid (Rd w6 (.slice ak keep.length ck) keep) := FK5.out.below hbw; have FA6 : Hid (RdS w6 (.slice aA S.length cA) S) := FA5.out.below hbw; have FB6 : Hid (RdS w6 (.slice aB 2 cB) (putS 16 [⟨(pn : Int), r⟩])) := FB5.out.below hbw; have FC6 : Hid (Rd w6 (.slice aC X.length cC) X) := R; clear HB5 FL5 FK5 FA5 FB5 FM5; clear hbw; clear R)
          | (go_at_call 22; clear ts1; refine (slots_any _ X 16 _ FC6.out).mono ?_; rintro e w7 ⟨vs, rfl, R, hbw⟩; rw [HKp.out] at R; obtain ⟨-, aK, cK, rfl⟩ := R.form; have HB7 : Hid (Below w.heap.size w w7) := bstep HB6.out hbw; have FL7 : Hid (Rd w7 (.slice a l.length cap) l) := FL6.out.below hbw; have FK7 : Hid (Rd w7 (.slice ak keep.length ck) keep) := FK6.out.below hbw; have FA7 : Hid (RdS w7 (.slice aA S.length cA) S) := FA6.out.below hbw; have FB7 : Hid (RdS w7 (.slice aB 2 cB) (putS 16 [⟨(pn : Int), r⟩])) := FB6.out.below hbw; have FS7 : Hid (Rd w7 (.slice aK Kp.length cK) Kp) := R; clear HB6 FL6 FK6 FA6 FB6 FC6; clear hbw; clear R)
          | (go_at_call 21; clear tn1; refine (numbers_any _ _ Kp (l.take Kp.length) _ FS7.out (FL7.out.takeI hKl)).mono ?_; rintro e w8 ⟨rfl, hbw⟩; rw [dK.out]; have HB8 : Hid (Below w.heap.size w w8) := bstep HB7.out hbw; have FL8 : Hid (Rd w8 (.slice a l.length cap) l) := FL7.out.below hbw; have FK8 : Hid (Rd w8 (.slice ak keep.length ck) keep) := FK7.out.below hbw; have FA8 : Hid (RdS w8 (.slice aA S.length cA) S) := FA7.out.below hbw; have FB8 : Hid (RdS w8 (.slice aB 2 cB) (putS 16 [⟨(pn : Int), r⟩])) := FB7.out.below hbw; have FS8 : Hid (Rd w8 (.slice aK Kp.length cK) Kp) := FS7.out.below hbw; clear HB7 FL7 FK7 FA7 FB7 FS7; clear hbw))
        obtain ⟨ht1, ht2, ht3, ht4, ht5⟩ := HT3.out
        have hqq := Hqq.out
        have hw33 : IntKind.i64.wrap 3 = 3 := by rw [IntKind.wrap_i64]; rfl
        have hw34 : wrap64 3 = 3 := by unfold wrap64; rfl
        go_region_held3 (fun _ => True) (exact trivial)
          (first
          | (go_at_call 29; refine (laid_any _ l _ (FL8.out.below (by ((repeat (first | exact Below.refl _ _ | exact HT2.out | exact HT1.out | with_reducible refine Below.dr ?_ | with_reducible refine Below.al _ ?_)); all_goals fail))) h13).mono ?_; rintro e r1 ⟨x2, y2, z2, rfl, R, hb1⟩; obtain ⟨d1, e1, d2, e2, d3, e3, rfl, rfl, rfl⟩ := R.formsA; have HT1 : Hid (Below w8.heap.size w8 r1) := bstep (by ((repeat (first | exact Below.refl _ _ | exact HT2.out | exact HT1.out | with_reducible refine Below.dr ?_ | with_reducible refine Below.al _ ?_)); all_goals fail)) hb1; have HM1 : Hid (RdM r1 (.slice d1 (laidW l).length e1) (.slice d2 (laidW l).length e2) (.slice d3 0 e3) (allM (laidW l))) := R; clear R hb1)
          | (go_at_call 28; refine (crashS_any _ _ _ _ _ (allM (laidW l)) (putS 16 [⟨(pn : Int), r⟩]) (k2 : Int) keep _ (HM1.out.below (by ((repeat (first | exact Below.refl _ _ | with_reducible refine Below.dr ?_ | with_reducible refine Below.al _ ?_)); all_goals fail))) (FB8.out.below (by ((repeat (first | exact Below.refl _ _ | exact HT2.out | exact HT1.out | with_reducible refine Below.dr ?_ | with_reducible refine Below.al _ ?_)); all_goals fail))) (FK8.out.below (by ((repeat (first | exact Below.refl _ _ | exact HT2.out | exact HT1.out | with_reducible refine Below.dr ?_ | with_reducible refine Below.al _ ?_)); all_goals fail))) hBd hrn2).mono ?_; rintro e r2 ⟨vD, rfl, R, hb2⟩; rw [HE3.out]; rw [HX2.out] at R; obtain ⟨-, aD, cD, rfl⟩ := R.form; have HT2 : Hid (Below w8.heap.size w8 r2) := bstep (by ((repeat (first | exact Below.refl _ _ | exact HT2.out | exact HT1.out | with_reducible refine Below.dr ?_ | with_reducible refine Below.al _ ?_)); all_goals fail)) hb2; have HD2 : Hid (Rd r2 (.slice aD X2.length cD) X2) := R; clear R hb2))
        all_goals
          have HB30 : Hid (Below w.heap.size w r2) := bstep HB8.out HT2.out
          have FL30 : Hid (Rd r2 (.slice a l.length cap) l) := FL8.out.below HT2.out
          have FD30 : Hid (Rd r2 (.slice aD X2.length cD) X2) := HD2.out
          clear HT1 HM1 HT2 HD2 ht1 ht2 ht3 ht4 ht5 hqq hw33 hw34
          by_cases hw : Sw = l
          · have dw : decide (Sw = l) = true := decide_eq_true hw
            clear hw
            go_wp2_with (first
              | (at_builtin; clear ta1; refine append_rdc rfl _ _ 22 rfl r2.heap.size 3 1 _ 8 Try.underlying22 Try.info3 rfl (by decide) (by decide) _ 0 [] rfl (World.ownsRow_made (base := r2.heap.size) (e := 3) (size := 1) r2 #[] 0 (Nat.le_refl _) (by omega) rfl) _ l.length _ rfl (FL30.out.below ((Below.refl _ _).alloc (Nat.le_refl _) _)) (ints_one _) (by omega) (by simp) ?_; intro v31 w31 o31 g31; have hbw : Below r2.heap.size r2 w31 := ((Below.refl _ _).alloc (Nat.le_refl _) _).grown g31 (by simp) (by intro q hq; cases hq; exact Nat.le_refl _); have O31 : OwnI w31 r2.heap.size v31 l := own_ints (xs := []) o31; obtain ⟨aO, cO, rfl⟩ := O31.form; obtain ⟨gO, rfl, hgO, hgl, hcf, hset⟩ := O31.put hpl; have HOs : Hid (OwnI (w31.setCell ⟨gO, pn, none⟩ (.int .i64 r)) r2.heap.size (.slice (some ⟨gO, 0, none⟩) l.length cO) (l.set pn r)) := (hset r); obtain ⟨cO1, fO1⟩ := hcf; have HBs : Hid (Below r2.heap.size r2 (w31.setCell ⟨gO, pn, none⟩ (.int .i64 r))) := hbw.setCell (p := ⟨gO, pn, none⟩) hgO _; clear o31 g31 hbw O31 hset; have HB40 : Hid (Below w.heap.size w (w31.setCell ⟨gO, pn, none⟩ (.int .i64 r))) := bstep HB30.out HBs.out; have FL40 : Hid (Rd (w31.setCell ⟨gO, pn, none⟩ (.int .i64 r)) (.slice a l.length cap) l) := FL30.out.below HBs.out; have FD40 : Hid (Rd (w31.setCell ⟨gO, pn, none⟩ (.int .i64 r)) (.slice aD X2.length cD) X2) := FD30.out.below HBs.out; have FO40 : Hid (Rd (w31.setCell ⟨gO, pn, none⟩ (.int .i64 r)) (.slice (some ⟨gO, 0, none⟩) l.length cO) (l.set pn r)) := HOs.out.rd (by rw [List.length_set]; omega); clear HOs HBs)
              | (go_at_call 22; clear ts2; refine (slots_any _ X2 16 _ FD40.out).mono ?_; rintro e w41 ⟨vw, rfl, R, hbw⟩; rw [HSw.out] at R; have HB41 : Hid (Below w.heap.size w w41) := bstep HB40.out hbw; have FL41 : Hid (Rd w41 (.slice a l.length cap) l) := FL40.out.below hbw; have FD41 : Hid (Rd w41 (.slice aD X2.length cD) X2) := FD40.out.below hbw; have FO41 : Hid (Rd w41 (.slice (some ⟨gO, 0, none⟩) l.length cO) (l.set pn r)) := FO40.out.below hbw; have FW41 : Hid (Rd w41 vw Sw) := R; clear HB40 FL40 FD40 FO40; clear hbw; clear R)
              | (go_at_call 21; clear tn2; refine (numbers_any _ _ Sw l _ FW41.out FL41.out).mono ?_; rintro e w42 ⟨rfl, hbw⟩; rw [dw]; have HB42 : Hid (Below w.heap.size w w42) := bstep HB41.out hbw; have FL42 : Hid (Rd w42 (.slice a l.length cap) l) := FL41.out.below hbw; have FD42 : Hid (Rd w42 (.slice aD X2.length cD) X2) := FD41.out.below hbw; have FO42 : Hid (Rd w42 (.slice (some ⟨gO, 0, none⟩) l.length cO) (l.set pn r)) := FO41.out.below hbw; have FW42 : Hid (Rd w42 vw Sw) := FW41.out.below hbw; clear HB41 FL41 FD41 FO41 FW41; clear hbw))
            go_ret
            exact ⟨rfl, HB42.out⟩
          · have dw : decide (Sw = l) = false := decide_eq_false hw
            have dw2 : decide (Sw = l.set pn r) = true := decide_eq_true (HsA.out.resolve_left hw)
            clear hw
            go_wp2_with (first
              | (at_builtin; clear ta1; refine append_rdc rfl _ _ 22 rfl r2.heap.size 3 1 _ 8 Try.underlying22 Try.info3 rfl (by decide) (by decide) _ 0 [] rfl (World.ownsRow_made (base := r2.heap.size) (e := 3) (size := 1) r2 #[] 0 (Nat.le_refl _) (by omega) rfl) _ l.length _ rfl (FL30.out.below ((Below.refl _ _).alloc (Nat.le_refl _) _)) (ints_one _) (by omega) (by simp) ?_; intro v31 w31 o31 g31; have hbw : Below r2.heap.size r2 w31 := ((Below.refl _ _).alloc (Nat.le_refl _) _).grown g31 (by simp) (by intro q hq; cases hq; exact Nat.le_refl _); have O31 : OwnI w31 r2.heap.size v31 l := own_ints (xs := []) o31; obtain ⟨aO, cO, rfl⟩ := O31.form; obtain ⟨gO, rfl, hgO, hgl, hcf, hset⟩ := O31.put hpl; have HOs : Hid (OwnI (w31.setCell ⟨gO, pn, none⟩ (.int .i64 r)) r2.heap.size (.slice (some ⟨gO, 0, none⟩) l.length cO) (l.set pn r)) := (hset r); obtain ⟨cO1, fO1⟩ := hcf; have HBs : Hid (Below r2.heap.size r2 (w31.setCell ⟨gO, pn, none⟩ (.int .i64 r))) := hbw.setCell (p := ⟨gO, pn, none⟩) hgO _; clear o31 g31 hbw O31 hset; have HB40 : Hid (Below w.heap.size w (w31.setCell ⟨gO, pn, none⟩ (.int .i64 r))) := bstep HB30.out HBs.out; have FL40 : Hid (Rd (w31.setCell ⟨gO, pn, none⟩ (.int .i64 r)) (.slice a l.length cap) l) := FL30.out.below HBs.out; have FD40 : Hid (Rd (w31.setCell ⟨gO, pn, none⟩ (.int .i64 r)) (.slice aD X2.length cD) X2) := FD30.out.below HBs.out; have FO40 : Hid (Rd (w31.setCell ⟨gO, pn, none⟩ (.int .i64 r)) (.slice (some ⟨gO, 0, none⟩) l.length cO) (l.set pn r)) := HOs.out.rd (by rw [List.length_set]; omega); clear HOs HBs)
              | (go_at_call 22; clear ts2; refine (slots_any _ X2 16 _ FD40.out).mono ?_; rintro e w41 ⟨vw, rfl, R, hbw⟩; rw [HSw.out] at R; have HB41 : Hid (Below w.heap.size w w41) := bstep HB40.out hbw; have FL41 : Hid (Rd w41 (.slice a l.length cap) l) := FL40.out.below hbw; have FD41 : Hid (Rd w41 (.slice aD X2.length cD) X2) := FD40.out.below hbw; have FO41 : Hid (Rd w41 (.slice (some ⟨gO, 0, none⟩) l.length cO) (l.set pn r)) := FO40.out.below hbw; have FW41 : Hid (Rd w41 vw Sw) := R; clear HB40 FL40 FD40 FO40; clear hbw; clear R)
              | (go_at_call 21; clear tn2; refine (numbers_any _ _ Sw l _ FW41.out FL41.out).mono ?_; rintro e w42 ⟨rfl, hbw⟩; rw [dw]; have HB42 : Hid (Below w.heap.size w w42) := bstep HB41.out hbw; have FL42 : Hid (Rd w42 (.slice a l.length cap) l) := FL41.out.below hbw; have FD42 : Hid (Rd w42 (.slice aD X2.length cD) X2) := FD41.out.below hbw; have FO42 : Hid (Rd w42 (.slice (some ⟨gO, 0, none⟩) l.length cO) (l.set pn r)) := FO41.out.below hbw; have FW42 : Hid (Rd w42 vw Sw) := FW41.out.below hbw; clear HB41 FL41 FD41 FO41 FW41; clear hbw)
              | (go_at_call 21; clear tn3; refine (numbers_any _ _ Sw (l.set pn r) _ FW42.out FO42.out).mono ?_; rintro e w43 ⟨rfl, hbw⟩; rw [dw2]; have HB43 : Hid (Below w.heap.size w w43) := bstep HB42.out hbw; have FL43 : Hid (Rd w43 (.slice a l.length cap) l) := FL42.out.below hbw; have FD43 : Hid (Rd w43 (.slice aD X2.length cD) X2) := FD42.out.below hbw; have FO43 : Hid (Rd w43 (.slice (some ⟨gO, 0, none⟩) l.length cO) (l.set pn r)) := FO42.out.below hbw; have FW43 : Hid (Rd w43 vw Sw) := FW42.out.below hbw; clear HB42 FL42 FD42 FO42 FW42; clear hbw))
            go_ret
            exact ⟨rfl, HB43.out⟩
      · have dk : ((k : Int) == (S.length : Int)) = false := beq_eq_false_iff_ne.2 (by omega)
        clear hkS
        go_enter Try.func6, Try.ntmps6
        go_upto_region 15 with (first
          | (go_at_call 9; refine (awake_any _).mono ?_; rintro e w1 ⟨rfl, hbw⟩; have HB1 : Hid (Below w.heap.size w w1) := bstep HB0.out hbw; have FL1 : Hid (Rd w1 (.slice a l.length cap) l) := FL0.out.below hbw; have FK1 : Hid (Rd w1 (.slice ak keep.length ck) keep) := FK0.out.below hbw; clear HB0 FL0 FK0; clear hbw)
          | (go_at_call 26; refine (unlike_any _ l r _ FL1.out).mono ?_; rintro e w2 ⟨rfl, hbw⟩; rw [eU]; have HB2 : Hid (Below w.heap.size w w2) := bstep HB1.out hbw; have FL2 : Hid (Rd w2 (.slice a l.length cap) l) := FL1.out.below hbw; have FK2 : Hid (Rd w2 (.slice ak keep.length ck) keep) := FK1.out.below hbw; clear HB1 FL1 FK1; clear hbw)
          | (go_at_call 16; refine (cut_any 16 _ l (pn : Int) _ FL2.out).mono ?_; rintro e w3 ⟨vA, rfl, R, hbw⟩; rw [HiS.out] at R; obtain ⟨-, aA, cA, rfl⟩ := R.form; have HB3 : Hid (Below w.heap.size w w3) := bstep HB2.out hbw; have FL3 : Hid (Rd w3 (.slice a l.length cap) l) := FL2.out.below hbw; have FK3 : Hid (Rd w3 (.slice ak keep.length ck) keep) := FK2.out.below hbw; have FA3 : Hid (RdS w3 (.slice aA S.length cA) S) := R; clear HB2 FL2 FK2; clear hbw; clear R)
          | (go_at_call 14; refine (swap_any 16 _ l (pn : Int) r _ FL3.out).mono ?_; rintro e w4 ⟨vB, rfl, R, hbw⟩; rw [HsS.out] at R; obtain ⟨aB, cB, rfl⟩ := R.form2; have HB4 : Hid (Below w.heap.size w w4) := bstep HB3.out hbw; have FL4 : Hid (Rd w4 (.slice a l.length cap) l) := FL3.out.below hbw; have FK4 : Hid (Rd w4 (.slice ak keep.length ck) keep) := FK3.out.below hbw; have FA4 : Hid (RdS w4 (.slice aA S.length cA) S) := FA3.out.below hbw; have FB4 : Hid (RdS w4 (.slice aB 2 cB) (putS 16 [⟨(pn : Int), r⟩])) := R; clear HB3 FL3 FK3 FA3; clear hbw; clear R)
          | (go_at_call 29; clear tl1; refine (laid_any _ l _ FL4.out h13).mono ?_; rintro e w5 ⟨x1, y1, z1, rfl, R, hbw⟩; obtain ⟨a1, c1, a2, c2, a3, c3, rfl, rfl, rfl⟩ := R.formsA; have HB5 : Hid (Below w.heap.size w w5) := bstep HB4.out hbw; have FL5 : Hid (Rd w5 (.slice a l.length cap) l) := FL4.out.below hbw; have FK5 : Hid (Rd w5 (.slice ak keep.length ck) keep) := FK4.out.below hbw; have FA5 : Hid (RdS w5 (.slice aA S.length cA) S) := FA4.out.below hbw; have FB5 : Hid (RdS w5 (.slice aB 2 cB) (putS 16 [⟨(pn : Int), r⟩])) := FB4.out.below hbw; have FM5 : Hid (RdM w5 (.slice a1 (laidW l).length c1) (.slice a2 (laidW l).length c2) (.slice a3 0 c3) (allM (laidW l))) := R; clear HB4 FL4 FK4 FA4 FB4; clear hbw; clear R)
          | (go_at_call 28; clear tc1; refine (crashS_any _ _ _ _ _ (allM (laidW l)) S (k : Int) keep _ FM5.out FA5.out FK5.out hBd hrn).mono ?_; rintro e w6 ⟨vC, rfl, R, hbw⟩; rw [HX.out] at R; rw [HE1.out]; obtain ⟨-, aC, cC, rfl⟩ := R.form; have HB6 : Hid (Below w.heap.size w w6) := bstep HB5.out hbw; have FL6 : Hid (Rd w6 (.slice a l.length cap) l) := FL5.out.below hbw; have FK6 : Hid (Rd w6 (.slice ak keep.length ck) keep) := FK5.out.below hbw; have FA6 : Hid (RdS w6 (.slice aA S.length cA) S) := FA5.out.below hbw; have FB6 : Hid (RdS w6 (.slice aB 2 cB) (putS 16 [⟨(pn : Int), r⟩])) := FB5.out.below hbw; have FC6 : Hid (Rd w6 (.slice aC X.length cC) X) := R; clear HB5 FL5 FK5 FA5 FB5 FM5; clear hbw; clear R)
          | (go_at_call 22; clear ts1; refine (slots_any _ X 16 _ FC6.out).mono ?_; rintro e w7 ⟨vs, rfl, R, hbw⟩; rw [HKp.out] at R; obtain ⟨-, aK, cK, rfl⟩ := R.form; have HB7 : Hid (Below w.heap.size w w7) := bstep HB6.out hbw; have FL7 : Hid (Rd w7 (.slice a l.length cap) l) := FL6.out.below hbw; have FK7 : Hid (Rd w7 (.slice ak keep.length ck) keep) := FK6.out.below hbw; have FA7 : Hid (RdS w7 (.slice aA S.length cA) S) := FA6.out.below hbw; have FB7 : Hid (RdS w7 (.slice aB 2 cB) (putS 16 [⟨(pn : Int), r⟩])) := FB6.out.below hbw; have FS7 : Hid (Rd w7 (.slice aK Kp.length cK) Kp) := R; clear HB6 FL6 FK6 FA6 FB6 FC6; clear hbw; clear R)
          | (go_at_call 21; clear tn1; refine (numbers_any _ _ Kp (l.take Kp.length) _ FS7.out (FL7.out.takeI hKl)).mono ?_; rintro e w8 ⟨rfl, hbw⟩; rw [dK.out]; have HB8 : Hid (Below w.heap.size w w8) := bstep HB7.out hbw; have FL8 : Hid (Rd w8 (.slice a l.length cap) l) := FL7.out.below hbw; have FK8 : Hid (Rd w8 (.slice ak keep.length ck) keep) := FK7.out.below hbw; have FA8 : Hid (RdS w8 (.slice aA S.length cA) S) := FA7.out.below hbw; have FB8 : Hid (RdS w8 (.slice aB 2 cB) (putS 16 [⟨(pn : Int), r⟩])) := FB7.out.below hbw; have FS8 : Hid (Rd w8 (.slice aK Kp.length cK) Kp) := FS7.out.below hbw; clear HB7 FL7 FK7 FA7 FB7 FS7; clear hbw))
        obtain ⟨ht1, ht2, ht3, ht4, ht5⟩ := HT3.out
        have hqq := Hqq.out
        have hw33 : IntKind.i64.wrap 3 = 3 := by rw [IntKind.wrap_i64]; rfl
        have hw34 : wrap64 3 = 3 := by unfold wrap64; rfl
        go_region_held3 (fun _ => True) (exact trivial)
          (first
          | (go_at_call 29; refine (laid_any _ l _ (FL8.out.below (by ((repeat (first | exact Below.refl _ _ | exact HT2.out | exact HT1.out | with_reducible refine Below.dr ?_ | with_reducible refine Below.al _ ?_)); all_goals fail))) h13).mono ?_; rintro e r1 ⟨x2, y2, z2, rfl, R, hb1⟩; obtain ⟨d1, e1, d2, e2, d3, e3, rfl, rfl, rfl⟩ := R.formsA; have HT1 : Hid (Below w8.heap.size w8 r1) := bstep (by ((repeat (first | exact Below.refl _ _ | exact HT2.out | exact HT1.out | with_reducible refine Below.dr ?_ | with_reducible refine Below.al _ ?_)); all_goals fail)) hb1; have HM1 : Hid (RdM r1 (.slice d1 (laidW l).length e1) (.slice d2 (laidW l).length e2) (.slice d3 0 e3) (allM (laidW l))) := R; clear R hb1)
          | (go_at_call 28; refine (crashS_any _ _ _ _ _ (allM (laidW l)) (putS 16 [⟨(pn : Int), r⟩]) (k2 : Int) keep _ (HM1.out.below (by ((repeat (first | exact Below.refl _ _ | with_reducible refine Below.dr ?_ | with_reducible refine Below.al _ ?_)); all_goals fail))) (FB8.out.below (by ((repeat (first | exact Below.refl _ _ | exact HT2.out | exact HT1.out | with_reducible refine Below.dr ?_ | with_reducible refine Below.al _ ?_)); all_goals fail))) (FK8.out.below (by ((repeat (first | exact Below.refl _ _ | exact HT2.out | exact HT1.out | with_reducible refine Below.dr ?_ | with_reducible refine Below.al _ ?_)); all_goals fail))) hBd hrn2).mono ?_; rintro e r2 ⟨vD, rfl, R, hb2⟩; rw [HE3.out]; rw [HX2.out] at R; obtain ⟨-, aD, cD, rfl⟩ := R.form; have HT2 : Hid (Below w8.heap.size w8 r2) := bstep (by ((repeat (first | exact Below.refl _ _ | exact HT2.out | exact HT1.out | with_reducible refine Below.dr ?_ | with_reducible refine Below.al _ ?_)); all_goals fail)) hb2; have HD2 : Hid (Rd r2 (.slice aD X2.length cD) X2) := R; clear R hb2))
        all_goals
          have HB30 : Hid (Below w.heap.size w r2) := bstep HB8.out HT2.out
          have FL30 : Hid (Rd r2 (.slice a l.length cap) l) := FL8.out.below HT2.out
          have FD30 : Hid (Rd r2 (.slice aD X2.length cD) X2) := HD2.out
          clear HT1 HM1 HT2 HD2 ht1 ht2 ht3 ht4 ht5 hqq hw33 hw34
          by_cases hw : Sw = l
          · have dw : decide (Sw = l) = true := decide_eq_true hw
            clear hw
            go_wp2_with (first
              | (at_builtin; clear ta1; refine append_rdc rfl _ _ 22 rfl r2.heap.size 3 1 _ 8 Try.underlying22 Try.info3 rfl (by decide) (by decide) _ 0 [] rfl (World.ownsRow_made (base := r2.heap.size) (e := 3) (size := 1) r2 #[] 0 (Nat.le_refl _) (by omega) rfl) _ l.length _ rfl (FL30.out.below ((Below.refl _ _).alloc (Nat.le_refl _) _)) (ints_one _) (by omega) (by simp) ?_; intro v31 w31 o31 g31; have hbw : Below r2.heap.size r2 w31 := ((Below.refl _ _).alloc (Nat.le_refl _) _).grown g31 (by simp) (by intro q hq; cases hq; exact Nat.le_refl _); have O31 : OwnI w31 r2.heap.size v31 l := own_ints (xs := []) o31; obtain ⟨aO, cO, rfl⟩ := O31.form; obtain ⟨gO, rfl, hgO, hgl, hcf, hset⟩ := O31.put hpl; have HOs : Hid (OwnI (w31.setCell ⟨gO, pn, none⟩ (.int .i64 r)) r2.heap.size (.slice (some ⟨gO, 0, none⟩) l.length cO) (l.set pn r)) := (hset r); obtain ⟨cO1, fO1⟩ := hcf; have HBs : Hid (Below r2.heap.size r2 (w31.setCell ⟨gO, pn, none⟩ (.int .i64 r))) := hbw.setCell (p := ⟨gO, pn, none⟩) hgO _; clear o31 g31 hbw O31 hset; have HB40 : Hid (Below w.heap.size w (w31.setCell ⟨gO, pn, none⟩ (.int .i64 r))) := bstep HB30.out HBs.out; have FL40 : Hid (Rd (w31.setCell ⟨gO, pn, none⟩ (.int .i64 r)) (.slice a l.length cap) l) := FL30.out.below HBs.out; have FD40 : Hid (Rd (w31.setCell ⟨gO, pn, none⟩ (.int .i64 r)) (.slice aD X2.length cD) X2) := FD30.out.below HBs.out; have FO40 : Hid (Rd (w31.setCell ⟨gO, pn, none⟩ (.int .i64 r)) (.slice (some ⟨gO, 0, none⟩) l.length cO) (l.set pn r)) := HOs.out.rd (by rw [List.length_set]; omega); clear HOs HBs)
              | (go_at_call 22; clear ts2; refine (slots_any _ X2 16 _ FD40.out).mono ?_; rintro e w41 ⟨vw, rfl, R, hbw⟩; rw [HSw.out] at R; have HB41 : Hid (Below w.heap.size w w41) := bstep HB40.out hbw; have FL41 : Hid (Rd w41 (.slice a l.length cap) l) := FL40.out.below hbw; have FD41 : Hid (Rd w41 (.slice aD X2.length cD) X2) := FD40.out.below hbw; have FO41 : Hid (Rd w41 (.slice (some ⟨gO, 0, none⟩) l.length cO) (l.set pn r)) := FO40.out.below hbw; have FW41 : Hid (Rd w41 vw Sw) := R; clear HB40 FL40 FD40 FO40; clear hbw; clear R)
              | (go_at_call 21; clear tn2; refine (numbers_any _ _ Sw l _ FW41.out FL41.out).mono ?_; rintro e w42 ⟨rfl, hbw⟩; rw [dw]; have HB42 : Hid (Below w.heap.size w w42) := bstep HB41.out hbw; have FL42 : Hid (Rd w42 (.slice a l.length cap) l) := FL41.out.below hbw; have FD42 : Hid (Rd w42 (.slice aD X2.length cD) X2) := FD41.out.below hbw; have FO42 : Hid (Rd w42 (.slice (some ⟨gO, 0, none⟩) l.length cO) (l.set pn r)) := FO41.out.below hbw; have FW42 : Hid (Rd w42 vw Sw) := FW41.out.below hbw; clear HB41 FL41 FD41 FO41 FW41; clear hbw))
            go_ret
            exact ⟨rfl, HB42.out⟩
          · have dw : decide (Sw = l) = false := decide_eq_false hw
            have dw2 : decide (Sw = l.set pn r) = true := decide_eq_true (HsA.out.resolve_left hw)
            clear hw
            go_wp2_with (first
              | (at_builtin; clear ta1; refine append_rdc rfl _ _ 22 rfl r2.heap.size 3 1 _ 8 Try.underlying22 Try.info3 rfl (by decide) (by decide) _ 0 [] rfl (World.ownsRow_made (base := r2.heap.size) (e := 3) (size := 1) r2 #[] 0 (Nat.le_refl _) (by omega) rfl) _ l.length _ rfl (FL30.out.below ((Below.refl _ _).alloc (Nat.le_refl _) _)) (ints_one _) (by omega) (by simp) ?_; intro v31 w31 o31 g31; have hbw : Below r2.heap.size r2 w31 := ((Below.refl _ _).alloc (Nat.le_refl _) _).grown g31 (by simp) (by intro q hq; cases hq; exact Nat.le_refl _); have O31 : OwnI w31 r2.heap.size v31 l := own_ints (xs := []) o31; obtain ⟨aO, cO, rfl⟩ := O31.form; obtain ⟨gO, rfl, hgO, hgl, hcf, hset⟩ := O31.put hpl; have HOs : Hid (OwnI (w31.setCell ⟨gO, pn, none⟩ (.int .i64 r)) r2.heap.size (.slice (some ⟨gO, 0, none⟩) l.length cO) (l.set pn r)) := (hset r); obtain ⟨cO1, fO1⟩ := hcf; have HBs : Hid (Below r2.heap.size r2 (w31.setCell ⟨gO, pn, none⟩ (.int .i64 r))) := hbw.setCell (p := ⟨gO, pn, none⟩) hgO _; clear o31 g31 hbw O31 hset; have HB40 : Hid (Below w.heap.size w (w31.setCell ⟨gO, pn, none⟩ (.int .i64 r))) := bstep HB30.out HBs.out; have FL40 : Hid (Rd (w31.setCell ⟨gO, pn, none⟩ (.int .i64 r)) (.slice a l.length cap) l) := FL30.out.below HBs.out; have FD40 : Hid (Rd (w31.setCell ⟨gO, pn, none⟩ (.int .i64 r)) (.slice aD X2.length cD) X2) := FD30.out.below HBs.out; have FO40 : Hid (Rd (w31.setCell ⟨gO, pn, none⟩ (.int .i64 r)) (.slice (some ⟨gO, 0, none⟩) l.length cO) (l.set pn r)) := HOs.out.rd (by rw [List.length_set]; omega); clear HOs HBs)
              | (go_at_call 22; clear ts2; refine (slots_any _ X2 16 _ FD40.out).mono ?_; rintro e w41 ⟨vw, rfl, R, hbw⟩; rw [HSw.out] at R; have HB41 : Hid (Below w.heap.size w w41) := bstep HB40.out hbw; have FL41 : Hid (Rd w41 (.slice a l.length cap) l) := FL40.out.below hbw; have FD41 : Hid (Rd w41 (.slice aD X2.length cD) X2) := FD40.out.below hbw; have FO41 : Hid (Rd w41 (.slice (some ⟨gO, 0, none⟩) l.length cO) (l.set pn r)) := FO40.out.below hbw; have FW41 : Hid (Rd w41 vw Sw) := R; clear HB40 FL40 FD40 FO40; clear hbw; clear R)
              | (go_at_call 21; clear tn2; refine (numbers_any _ _ Sw l _ FW41.out FL41.out).mono ?_; rintro e w42 ⟨rfl, hbw⟩; rw [dw]; have HB42 : Hid (Below w.heap.size w w42) := bstep HB41.out hbw; have FL42 : Hid (Rd w42 (.slice a l.length cap) l) := FL41.out.below hbw; have FD42 : Hid (Rd w42 (.slice aD X2.length cD) X2) := FD41.out.below hbw; have FO42 : Hid (Rd w42 (.slice (some ⟨gO, 0, none⟩) l.length cO) (l.set pn r)) := FO41.out.below hbw; have FW42 : Hid (Rd w42 vw Sw) := FW41.out.below hbw; clear HB41 FL41 FD41 FO41 FW41; clear hbw)
              | (go_at_call 21; clear tn3; refine (numbers_any _ _ Sw (l.set pn r) _ FW42.out FO42.out).mono ?_; rintro e w43 ⟨rfl, hbw⟩; rw [dw2]; have HB43 : Hid (Below w.heap.size w w43) := bstep HB42.out hbw; have FL43 : Hid (Rd w43 (.slice a l.length cap) l) := FL42.out.below hbw; have FD43 : Hid (Rd w43 (.slice aD X2.length cD) X2) := FD42.out.below hbw; have FO43 : Hid (Rd w43 (.slice (some ⟨gO, 0, none⟩) l.length cO) (l.set pn r)) := FO42.out.below hbw; have FW43 : Hid (Rd w43 vw Sw) := FW42.out.below hbw; clear HB42 FL42 FD42 FO42 FW42; clear hbw))
            go_ret
            exact ⟨rfl, HB43.out⟩
  · obtain ⟨hz0, hz1⟩ := cut_none (r := r) hE
    have hE2 : (cutE 16 l p != 0) = true := by simpa using hE
    have hz : (cutS 16 l p).length = 0 := by rw [hz0]; rfl
    clear hE hz0
    go_enter Try.func6, Try.ntmps6
    go_wp2_with (first
      | (go_at_call 9; refine (awake_any _).mono ?_; rintro e w1 ⟨rfl, hbw⟩; have HB1 : Hid (Below w.heap.size w w1) := bstep HB0.out hbw; have FL1 : Hid (Rd w1 (.slice a l.length cap) l) := FL0.out.below hbw; clear HB0 FL0; clear hbw)
      | (go_at_call 26; refine (unlike_any _ l r _ FL1.out).mono ?_; rintro e w2 ⟨rfl, hbw⟩; rw [eU]; have HB2 : Hid (Below w.heap.size w w2) := bstep HB1.out hbw; have FL2 : Hid (Rd w2 (.slice a l.length cap) l) := FL1.out.below hbw; clear HB1 FL1; clear hbw)
      | (go_at_call 16; refine (cut_any 16 _ l p _ FL2.out).mono ?_; rintro e w3 ⟨vA, rfl, R, hbw⟩; obtain ⟨-, aA, cA, rfl⟩ := R.form; have HB3 : Hid (Below w.heap.size w w3) := bstep HB2.out hbw; have FL3 : Hid (Rd w3 (.slice a l.length cap) l) := FL2.out.below hbw; clear HB2 FL2; clear hbw; clear R)
      | (go_at_call 14; refine (swap_any 16 _ l p r _ FL3.out).mono ?_; rintro e w4 ⟨vB, rfl, R, hbw⟩; obtain ⟨-, aB, cB, rfl⟩ := R.form; have HB4 : Hid (Below w.heap.size w w4) := bstep HB3.out hbw; have FL4 : Hid (Rd w4 (.slice a l.length cap) l) := FL3.out.below hbw; clear HB3 FL3; clear hbw; clear R))
    go_ret
    exact ⟨rfl, HB4.out⟩
end Go.Proofs.Ytoboiahknapddaa
