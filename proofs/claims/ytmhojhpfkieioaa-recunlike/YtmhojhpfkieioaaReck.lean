/- Layer 7: RecUnlike, walked. -/
import Derived.Test.YtmhojhpfkieioaaRecj
namespace Go.Proofs.Ytmhojhpfkieioaa
open Go.RowKit Go.Shelf Classical
set_option linter.unusedVariables false

theorem unlike_start (x y : Rc) (w W : World) (hW : W = (w.alloc (.cells #[.int .i64 x.k, .string x.key, .string x.val, .int .i64 x.ch] 23)).alloc (.cells #[.int .i64 y.k, .string y.key, .string y.val, .int .i64 y.ch] 23)) :
    RcAt W w.heap.size x ∧ RcAt W (w.heap.size + 1) y ∧ Below w.heap.size w W := by
  subst hW
  refine ⟨?_, ?_, ?_⟩
  · show ((w.alloc _).alloc _).heap[w.heap.size]? = _
    rw [Go.heap_alloc_old _ _ (by simp), Go.heap_alloc_new]
  · show ((w.alloc _).alloc _).heap[w.heap.size + 1]? = _
    rw [show w.heap.size + 1 = (w.alloc (.cells #[.int .i64 x.k, .string x.key, .string x.val, .int .i64 x.ch] 23)).heap.size by simp, Go.heap_alloc_new]
  · exact ((Below.refl _ w).alloc (Nat.le_refl _) _).alloc (by simp) _
theorem wEs_01 (x : Rc) : (rcB x = true ∧ wEs x = 0) ∨ (rcB x = false ∧ wEs x = 70) := by
  unfold wEs
  cases rcB x
  · exact .inr ⟨rfl, rfl⟩
  · exact .inl ⟨rfl, rfl⟩
theorem wLs_ok {x : Rc} (h : rcB x = true) : wLs x = imL x := by unfold wLs; rw [h]; rfl

set_option maxRecDepth 100000 in
set_option maxHeartbeats 4000000 in
theorem walk_RecUnlike (x y : Rc) (w : World) : Calls Try.prog 6 #[.agg #[.int .i64 x.k, .string x.key, .string x.val, .int .i64 x.ch], .agg #[.int .i64 y.k, .string y.key, .string y.val, .int .i64 y.ch]] w fun e w' => e = .returned (.bool true) ∧ Below w.heap.size w w' := by
  obtain ⟨X0, Y0, B0⟩ := unlike_start x y w _ rfl
  by_cases hbig : x.key.size > 100 ∨ x.val.size > 100 ∨ y.key.size > 100 ∨ y.val.size > 100
  · have HX : Hid (RcAt _ w.heap.size x) := X0
    have HY : Hid (RcAt _ (w.heap.size + 1) y) := Y0
    have HB : Hid (Below w.heap.size w _) := B0
    clear X0 Y0 B0
    have done : ∀ w1, Below ((w.alloc (.cells #[.int .i64 x.k, .string x.key, .string x.val, .int .i64 x.ch] 23)).alloc (.cells #[.int .i64 y.k, .string y.key, .string y.val, .int .i64 y.ch] 23)).heap.size ((w.alloc (.cells #[.int .i64 x.k, .string x.key, .string x.val, .int .i64 x.ch] 23)).alloc (.cells #[.int .i64 y.k, .string y.key, .string y.val, .int .i64 y.ch] 23)) w1 → Below w.heap.size w w1 := fun w1 h => bstep HB.out h
    by_cases h1 : (x.key.size : Int) > 100
    · clear hbig
      go_enter Try.func6, Try.ntmps6
      go_wp2_with (go_at_call 8; refine (awake_any _).mono ?_; rintro e w1 ⟨rfl, b1⟩; obtain ⟨c0, c1, c2, c3⟩ := (HX.out.below b1).c; obtain ⟨d0, d1, d2, d3⟩ := (HY.out.below b1).c)
      go_ret
      exact ⟨rfl, done _ b1⟩
    · by_cases h2 : (x.val.size : Int) > 100
      · clear hbig
        go_enter Try.func6, Try.ntmps6
        go_wp2_with (go_at_call 8; refine (awake_any _).mono ?_; rintro e w1 ⟨rfl, b1⟩; obtain ⟨c0, c1, c2, c3⟩ := (HX.out.below b1).c; obtain ⟨d0, d1, d2, d3⟩ := (HY.out.below b1).c)
        go_ret
        exact ⟨rfl, done _ b1⟩
      · by_cases h3 : (y.key.size : Int) > 100
        · clear hbig
          go_enter Try.func6, Try.ntmps6
          go_wp2_with (go_at_call 8; refine (awake_any _).mono ?_; rintro e w1 ⟨rfl, b1⟩; obtain ⟨c0, c1, c2, c3⟩ := (HX.out.below b1).c; obtain ⟨d0, d1, d2, d3⟩ := (HY.out.below b1).c)
          go_ret
          exact ⟨rfl, done _ b1⟩
        · have h4 : (y.val.size : Int) > 100 := by omega
          clear hbig
          go_enter Try.func6, Try.ntmps6
          go_wp2_with (go_at_call 8; refine (awake_any _).mono ?_; rintro e w1 ⟨rfl, b1⟩; obtain ⟨c0, c1, c2, c3⟩ := (HX.out.below b1).c; obtain ⟨d0, d1, d2, d3⟩ := (HY.out.below b1).c)
          go_ret
          exact ⟨rfl, done _ b1⟩
  · have h1 : ¬ (x.key.size : Int) > 100 := by omega
    have h2 : ¬ (x.val.size : Int) > 100 := by omega
    have h3 : ¬ (y.key.size : Int) > 100 := by omega
    have h4 : ¬ (y.val.size : Int) > 100 := by omega
    clear hbig
    have HX : Hid (RcAt _ w.heap.size x) := X0
    have HY : Hid (RcAt _ (w.heap.size + 1) y) := Y0
    have HB : Hid (Below w.heap.size w _) := B0
    clear X0 Y0 B0
    have t1 : Hid (0 = 0) := rfl
    go_enter Try.func6, Try.ntmps6
    go_wp2_with (first
      | (go_at_call 8; refine (awake_any _).mono ?_; rintro e w1 ⟨rfl, b1⟩; obtain ⟨c0, c1, c2, c3⟩ := (HX.out.below b1).c; obtain ⟨d0, d1, d2, d3⟩ := (HY.out.below b1).c; have HB1 : Hid (Below w.heap.size w w1) := bstep HB.out b1; have HX1 : Hid (RcAt w1 w.heap.size x) := HX.out.below b1; have HY1 : Hid (RcAt w1 (w.heap.size + 1) y) := HY.out.below b1; clear HX HY HB b1)
      | (go_at_call 9; clear t1; refine (wordsr_any x _).mono ?_; rintro e w2 ⟨v2, rfl, R2, b2⟩; obtain ⟨_, a2, k2, rfl⟩ := R2.form; clear c0 c1 c2 c3 d0 d1 d2 d3; obtain ⟨d0, d1, d2, d3⟩ := (HY1.out.below b2).c; have HR2 : Hid (Rd w2 (.slice a2 (wLs x).length k2) (wLs x)) := R2; have HB2 : Hid (Below w.heap.size w w2) := bstep HB1.out b2; have HX2 : Hid (RcAt w2 w.heap.size x) := HX1.out.below b2; have HY2 : Hid (RcAt w2 (w.heap.size + 1) y) := HY1.out.below b2; clear HX1 HY1 HB1 b2 R2)
      | (go_at_call 9; refine (wordsr_any y _).mono ?_; rintro e w3 ⟨v3, rfl, R3, b3⟩; obtain ⟨_, a3, k3, rfl⟩ := R3.form; clear d0 d1 d2 d3; have HR3 : Hid (Rd w3 (.slice a3 (wLs y).length k3) (wLs y)) := R3; have HR2' : Hid (Rd w3 (.slice a2 (wLs x).length k2) (wLs x)) := HR2.out.below b3; have HB3 : Hid (Below w.heap.size w w3) := bstep HB2.out b3; have HX3 : Hid (RcAt w3 w.heap.size x) := HX2.out.below b3; have HY3 : Hid (RcAt w3 (w.heap.size + 1) y) := HY2.out.below b3; clear HX2 HY2 HB2 HR2 b3 R3))
    have c0 : ∀ p : BW w3, p.w.cell? ⟨w.heap.size, 0, none⟩ = some (.int .i64 x.k) := fun p => (HX3.out.below p.b).c.1
    have c1 : ∀ p : BW w3, p.w.cell? ⟨w.heap.size, 1, none⟩ = some (.string x.key) := fun p => (HX3.out.below p.b).c.2.1
    have c2 : ∀ p : BW w3, p.w.cell? ⟨w.heap.size, 2, none⟩ = some (.string x.val) := fun p => (HX3.out.below p.b).c.2.2.1
    have c3 : ∀ p : BW w3, p.w.cell? ⟨w.heap.size, 3, none⟩ = some (.int .i64 x.ch) := fun p => (HX3.out.below p.b).c.2.2.2
    have d0 : ∀ p : BW w3, p.w.cell? ⟨w.heap.size + 1, 0, none⟩ = some (.int .i64 y.k) := fun p => (HY3.out.below p.b).c.1
    have d1 : ∀ p : BW w3, p.w.cell? ⟨w.heap.size + 1, 1, none⟩ = some (.string y.key) := fun p => (HY3.out.below p.b).c.2.1
    have d2 : ∀ p : BW w3, p.w.cell? ⟨w.heap.size + 1, 2, none⟩ = some (.string y.val) := fun p => (HY3.out.below p.b).c.2.2.1
    have d3 : ∀ p : BW w3, p.w.cell? ⟨w.heap.size + 1, 3, none⟩ = some (.int .i64 y.ch) := fun p => (HY3.out.below p.b).c.2.2.2
    have k15 := fun w => rcheck_any x w
    have q23 := fun w => eq23 x y w
    have k17 : Hid (∀ p : BW w3, Calls Try.prog 17 #[.slice a2 (wLs x).length k2, .slice a3 (wLs y).length k3] p.w fun e w' => e = .returned (.bool (decide (wLs x = wLs y))) ∧ Below p.w.heap.size p.w w') := fun p => numbers_any _ _ _ _ _ (HR2'.out.below p.b) (HR3.out.below p.b)
    rcases wEs_01 x with ⟨ex, fx⟩ | ⟨ex, fx⟩
    · rcases wEs_01 y with ⟨ey, fy⟩ | ⟨ey, fy⟩
      · have hxy : Hid (decide (wLs x = wLs y) = decide (x = y)) := show _ = _ by
          rw [wLs_ok ex, wLs_ok ey]
          by_cases h : x = y
          · simp [h]
          · rw [decide_eq_false h, decide_eq_false (fun e => h (imL_inj (rcB_iff.1 ex) (rcB_iff.1 ey) e))]
        rw [hxy.out] at k17
        rw [fx, fy]
        rw [ex] at k15
        refine wp_region_bw (by kernel_rfl) (by kernel_rfl) (fun hbw0 => ?_)
        repeat (refine QW.step (fun K hK => ?_); go_simp; first | (refine hK _ ?_; clear hK K) | (apply Exists.intro; refine ⟨fun _ => ?_, hK _ ?_⟩; (first | exact Calls.bw_of (k15 _) | exact Calls.bw_of (k17.out _)); clear hK K))
        refine QW.nil ?_
        rintro ⟨w4, hb4⟩
        dsimp only
        clear c0 c1 c2 c3 d0 d1 d2 d3
        go_wp2
        go_ret
        exact ⟨by simp, bstep HB3.out hb4⟩
      · rw [fx, fy]
        rw [ex] at k15
        refine wp_region_bw (by kernel_rfl) (by kernel_rfl) (fun hbw0 => ?_)
        repeat (refine QW.step (fun K hK => ?_); go_simp; first | (refine hK _ ?_; clear hK K) | (apply Exists.intro; refine ⟨fun _ => ?_, hK _ ?_⟩; (first | exact Calls.bw_of (k15 _) | exact Calls.bw_of (k17.out _)); clear hK K))
        refine QW.nil ?_
        rintro ⟨w4, hb4⟩
        dsimp only
        clear c0 c1 c2 c3 d0 d1 d2 d3
        go_wp2
        go_ret
        exact ⟨by simp, bstep HB3.out hb4⟩
    · rw [fx]
      rw [ex] at k15
      refine wp_region_bw (by kernel_rfl) (by kernel_rfl) (fun hbw0 => ?_)
      repeat (refine QW.step (fun K hK => ?_); go_simp; first | (refine hK _ ?_; clear hK K) | (apply Exists.intro; refine ⟨fun _ => ?_, hK _ ?_⟩; (first | exact Calls.bw_of (k15 _) | exact Calls.bw_of (k17.out _)); clear hK K))
      refine QW.nil ?_
      rintro ⟨w4, hb4⟩
      dsimp only
      clear c0 c1 c2 c3 d0 d1 d2 d3
      go_wp2
      go_ret
      exact ⟨by simp, bstep HB3.out hb4⟩
end Go.Proofs.Ytmhojhpfkieioaa
