/- Layer 7: RecTells, walked. -/
import Derived.Test.YtmhojhpfkieioaaRecw
import Derived.Test.YtmhojhpfkieioaaLawa
namespace Go.Proofs.Ytmhojhpfkieioaa
open Go.RowKit Go.Shelf Classical
set_option linter.unusedVariables false

set_option maxRecDepth 100000 in
set_option maxHeartbeats 8000000 in
theorem walk_RecTells (x : Rc) (a : Option Addr) (len cap : Nat) (z : Int) (w : World) (hK : KeepIn w a len cap) (fz : (Lit.int .i64 z).wf = true) : Calls Try.prog 3 #[.agg #[.int .i64 x.k, .string x.key, .string x.val, .int .i64 x.ch], .slice a len cap, .int .i64 z] w fun e w' => e = .returned (.bool true) ∧ Below w.heap.size w w' := by
  have hz := wf_i64 fz
  have HX0 : Hid (RcAt (w.alloc (.cells #[.int .i64 x.k, .string x.key, .string x.val, .int .i64 x.ch] 23)) w.heap.size x) := rc_new w x
  have H0 : Hid (Below w.heap.size w (w.alloc (.cells #[.int .i64 x.k, .string x.key, .string x.val, .int .i64 x.ch] 23))) := (Below.refl _ _).alloc (Nat.le_refl _) _
  clear fz
  by_cases g0 : (x.key.size : Int) > 100
  · go_enter Try.func3, Try.ntmps3
    go_wp2_with (go_at_call 8; refine (awake_any _).mono ?_; rintro e w1 ⟨rfl, b1⟩; have H1 : Hid (Below (w.alloc (.cells #[.int .i64 x.k, .string x.key, .string x.val, .int .i64 x.ch] 23)).heap.size (w.alloc (.cells #[.int .i64 x.k, .string x.key, .string x.val, .int .i64 x.ch] 23)) w1) := b1; obtain ⟨c0, c1, c2, c3⟩ := (HX0.out.below b1).c; clear b1)
    go_ret
    exact ⟨rfl, bstep H0.out H1.out⟩
  · by_cases g1 : (x.val.size : Int) > 100
    · go_enter Try.func3, Try.ntmps3
      go_wp2_with (go_at_call 8; refine (awake_any _).mono ?_; rintro e w1 ⟨rfl, b1⟩; have H1 : Hid (Below (w.alloc (.cells #[.int .i64 x.k, .string x.key, .string x.val, .int .i64 x.ch] 23)).heap.size (w.alloc (.cells #[.int .i64 x.k, .string x.key, .string x.val, .int .i64 x.ch] 23)) w1) := b1; obtain ⟨c0, c1, c2, c3⟩ := (HX0.out.below b1).c; clear b1)
      go_ret
      exact ⟨rfl, bstep H0.out H1.out⟩
    · by_cases g2 : (len : Int) > 300
      · go_enter Try.func3, Try.ntmps3
        go_wp2_with (go_at_call 8; refine (awake_any _).mono ?_; rintro e w1 ⟨rfl, b1⟩; have H1 : Hid (Below (w.alloc (.cells #[.int .i64 x.k, .string x.key, .string x.val, .int .i64 x.ch] 23)).heap.size (w.alloc (.cells #[.int .i64 x.k, .string x.key, .string x.val, .int .i64 x.ch] 23)) w1) := b1; obtain ⟨c0, c1, c2, c3⟩ := (HX0.out.below b1).c; clear b1)
        go_ret
        exact ⟨rfl, bstep H0.out H1.out⟩
      · obtain ⟨zs, rfl, R0, F0⟩ := hK (by omega)
        have F0 : Fits zs := F0
        have HR0 : Hid (Rd w (.slice a zs.length cap) zs) := R0
        have hl : zs.length ≤ 300 := by omega
        have k11 : Hid (∀ w', Below w.heap.size w w' → Calls Try.prog 11 #[.slice a zs.length cap, .int .i64 z] w' fun e w'' => e = .returned (.tuple #[.agg #[.int .i64 (rdX zs z).k, .string (rdX zs z).key, .string (rdX zs z).val, .int .i64 (rdX zs z).ch], .int .i64 (rdE zs z)]) ∧ Below w'.heap.size w' w'') := fun w' hb => read_any _ zs z w' (R0.below hb) F0 hz
        have k12 : Hid (∀ w', Below w.heap.size w w' → Calls Try.prog 12 #[.slice a zs.length cap, .int .i64 z] w' fun e w'' => e = .returned (.tuple #[.agg #[.int .i64 (rdX zs z).k, .string (rdX zs z).key, .string (rdX zs z).val, .int .i64 (rdX zs z).ch], .int .i64 (rdE zs z)]) ∧ Below w'.heap.size w' w'') := fun w' hb => readR_any _ zs z w' (R0.below hb) F0 hl
        have k13 : Hid (∀ w', Below w.heap.size w w' → Calls Try.prog 13 #[.int .i64 z, .slice a zs.length cap] w' fun e w'' => ∃ v', e = .returned (.tuple #[v', .int .i64 (stpE z zs)]) ∧ RdS w'' v' (stpS z zs) ∧ Below w'.heap.size w' w'') := fun w' hb => stepsr_any z _ zs w' (R0.below hb)
        have k14 : Hid (∀ w', Below w.heap.size w w' → Calls Try.prog 14 #[.int .i64 z, .slice a zs.length cap] w' fun e w'' => ∃ v', e = .returned (.tuple #[v', .int .i64 (stpE z zs)]) ∧ RdS w'' v' (stpS z zs) ∧ Below w'.heap.size w' w'') := fun w' hb => stepsR_any z _ zs w' (R0.below hb)
        generalize rdX zs z = R at k11 k12
        generalize rdE zs z = E at k11 k12
        generalize stpS z zs = S at k13 k14
        generalize stpE z zs = T at k13 k14
        clear R0 hK F0 HR0 hz
        have t1 : Hid (0 = 0) := rfl
        go_enter Try.func3, Try.ntmps3
        go_wp2_with (first
          | (go_at_call 8; refine (awake_any _).mono ?_; rintro e w1 ⟨rfl, b1⟩; have H1 : Hid (Below (w.alloc (.cells #[.int .i64 x.k, .string x.key, .string x.val, .int .i64 x.ch] 23)).heap.size (w.alloc (.cells #[.int .i64 x.k, .string x.key, .string x.val, .int .i64 x.ch] 23)) w1) := b1; obtain ⟨c0, c1, c2, c3⟩ := (HX0.out.below b1).c; clear b1)
          | (go_at_call 9; refine (wordsr_any x _).mono ?_; rintro e w2 ⟨v2, rfl, R2, b2⟩; have HP2 : Hid (Rd w2 v2 (wLs x)) := R2; have H2 : Hid (Below w1.heap.size w1 w2) := b2; obtain ⟨d0, d1, d2, d3⟩ := (HX0.out.below (bstep H1.out H2.out)).c; clear R2 b2)
          | (go_at_call 10; refine (wordsRr_any x _).mono ?_; rintro e w3 ⟨v3, rfl, R3, b3⟩; have HQ3 : Hid (Rd w3 v3 (wLs x)) := R3; have H3 : Hid (Below w2.heap.size w2 w3) := b3; clear R3 b3)
          | (go_at_call 11; refine (k11.out _ (bstep H0.out (bstep (bstep H1.out H2.out) H3.out))).mono ?_; rintro e w4 ⟨rfl, b4⟩; have H4 : Hid (Below w3.heap.size w3 w4) := b4; have K5 : Hid (RcAt (w4.alloc (.cells #[.int .i64 R.k, .string R.key, .string R.val, .int .i64 R.ch] 23)) w4.heap.size R) := rc_new w4 R; have H5 : Hid (Below w4.heap.size w4 (w4.alloc (.cells #[.int .i64 R.k, .string R.key, .string R.val, .int .i64 R.ch] 23))) := (Below.refl _ _).alloc (Nat.le_refl _) _; clear b4)
          | (go_at_call 12; refine (k12.out _ (bstep H0.out (bstep (bstep (bstep (bstep H1.out H2.out) H3.out) H4.out) H5.out))).mono ?_; rintro e w5 ⟨rfl, b5⟩; have H6 : Hid (Below (w4.alloc (.cells #[.int .i64 R.k, .string R.key, .string R.val, .int .i64 R.ch] 23)).heap.size (w4.alloc (.cells #[.int .i64 R.k, .string R.key, .string R.val, .int .i64 R.ch] 23)) w5) := b5; have K7 : Hid (RcAt (w5.alloc (.cells #[.int .i64 R.k, .string R.key, .string R.val, .int .i64 R.ch] 23)) w5.heap.size R) := rc_new w5 R; have H7 : Hid (Below w5.heap.size w5 (w5.alloc (.cells #[.int .i64 R.k, .string R.key, .string R.val, .int .i64 R.ch] 23))) := (Below.refl _ _).alloc (Nat.le_refl _) _; clear b5)
          | (go_at_call 13; refine (k13.out _ (bstep H0.out (bstep (bstep (bstep (bstep (bstep (bstep H1.out H2.out) H3.out) H4.out) H5.out) H6.out) H7.out))).mono ?_; rintro e w6 ⟨v6, rfl, R6, b6⟩; have HS8 : Hid (RdS w6 v6 S) := R6; have H8 : Hid (Below (w5.alloc (.cells #[.int .i64 R.k, .string R.key, .string R.val, .int .i64 R.ch] 23)).heap.size (w5.alloc (.cells #[.int .i64 R.k, .string R.key, .string R.val, .int .i64 R.ch] 23)) w6) := b6; clear R6 b6)
          | (go_at_call 14; refine (k14.out _ (bstep H0.out (bstep (bstep (bstep (bstep (bstep (bstep (bstep H1.out H2.out) H3.out) H4.out) H5.out) H6.out) H7.out) H8.out))).mono ?_; rintro e w7 ⟨v7, rfl, R7, b7⟩; have HS9 : Hid (RdS w7 v7 S) := R7; have H9 : Hid (Below w6.heap.size w6 w7) := b7; clear R7 b7))
        have A1 : Hid (RcAt w7 w.heap.size x) := HX0.out.below (bstep (bstep (bstep (bstep (bstep (bstep (bstep (bstep H1.out H2.out) H3.out) H4.out) H5.out) H6.out) H7.out) H8.out) H9.out)
        have A2 : Hid (RcAt w7 w4.heap.size R) := K5.out.below (bstep (bstep (bstep H6.out H7.out) H8.out) H9.out)
        have A3 : Hid (RcAt w7 w5.heap.size R) := K7.out.below (bstep H8.out H9.out)
        have A4 : Hid (Rd w7 v2 (wLs x)) := HP2.out.below (bstep (bstep (bstep (bstep (bstep (bstep H3.out H4.out) H5.out) H6.out) H7.out) H8.out) H9.out)
        have A5 : Hid (Rd w7 v3 (wLs x)) := HQ3.out.below (bstep (bstep (bstep (bstep (bstep H4.out H5.out) H6.out) H7.out) H8.out) H9.out)
        have A6 : Hid (RdS w7 v6 S) := HS8.out.below H9.out
        have A7 : Hid (Below w.heap.size w w7) := bstep H0.out (bstep (bstep (bstep (bstep (bstep (bstep (bstep (bstep H1.out H2.out) H3.out) H4.out) H5.out) H6.out) H7.out) H8.out) H9.out)
        clear H0 H1 H2 H3 H4 H5 H6 H7 H8 H9 HX0 K5 K7 HP2 HQ3 HS8 k11 k12 k13 k14 c0 c1 c2 c3 d0 d1 d2 d3
        generalize w4.heap.size = b4 at *
        generalize w5.heap.size = b5 at *
        have c0 : ∀ p : BW w7, p.w.cell? ⟨w.heap.size, 0, none⟩ = some (.int .i64 x.k) := fun p => (A1.out.below p.b).c.1
        have c1 : ∀ p : BW w7, p.w.cell? ⟨w.heap.size, 1, none⟩ = some (.string x.key) := fun p => (A1.out.below p.b).c.2.1
        have c2 : ∀ p : BW w7, p.w.cell? ⟨w.heap.size, 2, none⟩ = some (.string x.val) := fun p => (A1.out.below p.b).c.2.2.1
        have c3 : ∀ p : BW w7, p.w.cell? ⟨w.heap.size, 3, none⟩ = some (.int .i64 x.ch) := fun p => (A1.out.below p.b).c.2.2.2
        have d0 : ∀ p : BW w7, p.w.cell? ⟨b4, 0, none⟩ = some (.int .i64 R.k) := fun p => (A2.out.below p.b).c.1
        have d1 : ∀ p : BW w7, p.w.cell? ⟨b4, 1, none⟩ = some (.string R.key) := fun p => (A2.out.below p.b).c.2.1
        have d2 : ∀ p : BW w7, p.w.cell? ⟨b4, 2, none⟩ = some (.string R.val) := fun p => (A2.out.below p.b).c.2.2.1
        have d3 : ∀ p : BW w7, p.w.cell? ⟨b4, 3, none⟩ = some (.int .i64 R.ch) := fun p => (A2.out.below p.b).c.2.2.2
        have f0 : ∀ p : BW w7, p.w.cell? ⟨b5, 0, none⟩ = some (.int .i64 R.k) := fun p => (A3.out.below p.b).c.1
        have f1 : ∀ p : BW w7, p.w.cell? ⟨b5, 1, none⟩ = some (.string R.key) := fun p => (A3.out.below p.b).c.2.1
        have f2 : ∀ p : BW w7, p.w.cell? ⟨b5, 2, none⟩ = some (.string R.val) := fun p => (A3.out.below p.b).c.2.2.1
        have f3 : ∀ p : BW w7, p.w.cell? ⟨b5, 3, none⟩ = some (.int .i64 R.ch) := fun p => (A3.out.below p.b).c.2.2.2
        have k15 := fun w => rcheck_any x w
        have k16 := fun w => rcheckR_any x w
        have qR := fun w => eq23 R R w
        simp only [decide_eq_true] at qR
        have k17 : Hid (∀ p : BW w7, Calls Try.prog 17 #[v2, v3] p.w fun e w' => e = .returned (.bool true) ∧ Below p.w.heap.size p.w w') := fun p => by
          have := numbers_any v2 v3 (wLs x) (wLs x) p.w (A4.out.below p.b) (A5.out.below p.b)
          rw [decide_eq_true rfl] at this
          exact this
        have k18 : Hid (∀ p : BW w7, Calls Try.prog 18 #[v6, v7] p.w fun e w' => e = .returned (.bool true) ∧ Below p.w.heap.size p.w w') := fun p => by
          have := sameS_any v6 v7 S S p.w (A6.out.below p.b) (HS9.out.below p.b)
          rw [decide_eq_true rfl] at this
          exact this
        generalize rcB x = rb at k15 k16
        refine wp_region_bw (by kernel_rfl) (by kernel_rfl) (fun hbw0 => ?_)
        repeat (refine QW.step (fun K hK => ?_); go_simp; first | (refine hK _ ?_; clear hK K) | (apply Exists.intro; refine ⟨fun _ => ?_, hK _ ?_⟩; (first | exact Calls.bw_of (k15 _) | exact Calls.bw_of (k16 _) | exact Calls.bw_of (k17.out _) | exact Calls.bw_of (k18.out _)); clear hK K))
        refine QW.nil ?_
        rintro ⟨w8, hb8⟩
        dsimp only
        clear c0 c1 c2 c3 d0 d1 d2 d3 f0 f1 f2 f3
        go_wp2
        go_ret
        exact ⟨rfl, bstep A7.out hb8⟩
end Go.Proofs.Ytmhojhpfkieioaa
