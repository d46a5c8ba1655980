/- Layer 9: NodeBack, walked. -/
import Derived.Test.YtbnlekheadmecaaNodTells
namespace Go.Proofs.Ytbnlekheadmecaa
open Go.RowKit Go.Shelf Classical
set_option linter.unusedVariables false

set_option maxRecDepth 100000 in
set_option maxHeartbeats 4000000 in
theorem back_yy (lv tu nx lo : Int) (sl : List Int) (a : Option Addr) (len cap : Nat) (zs : List Int) (aw : Option Addr) (lw cw : Nat) (m : Nat) (w : World) (hls : sl.length = len) (hlz : zs.length = lw) (hR : Rd w (.slice a len cap) sl) (hZ : Rd w (.slice aw lw cw) zs) (hm : m < 256) (h1 : ¬ (len : Int) > 100) (h2 : ¬ (lw : Int) > 300) (hc : nnB ⟨lv, tu, nx, lo, sl⟩ = true) (hg : rnE zs (m : Int) = 0) :
    Calls Try.prog 4 #[.agg #[.int .i64 lv, .int .i64 tu, .int .i64 nx, .int .i64 lo, .slice a len cap], .slice aw lw cw, .int .u8 (m : Int)] w fun e w' => e = .returned (.bool true) ∧ Below w.heap.size w w' := by
  have N0 : Hid (Nb (w.alloc (.cells #[.int .i64 lv, .int .i64 tu, .int .i64 nx, .int .i64 lo, .slice a len cap] 24)) w.heap.size lv tu nx lo (.slice a len cap)) := nb_new w lv tu nx lo _
  have H0 : Hid (Below w.heap.size w (w.alloc (.cells #[.int .i64 lv, .int .i64 tu, .int .i64 nx, .int .i64 lo, .slice a len cap] 24))) := (Below.refl _ _).alloc (Nat.le_refl _) _
  have HR : Hid (Rd w (.slice a len cap) sl) := hR
  have HZ : Hid (Rd w (.slice aw lw cw) zs) := hZ
  obtain ⟨L1, hL1⟩ : ∃ L1, imN ⟨lv, tu, nx, lo, sl⟩ = L1 := ⟨_, rfl⟩
  obtain ⟨y, hy⟩ : ∃ y, rnN zs (m : Int) = y := ⟨_, rfl⟩
  have hM := nnB_iff.1 hc
  have hK : rnK zs (m : Int) = true := (by cases e : rnK zs (m : Int) with
    | true => rfl
    | false => rw [(rn_out e).1] at hg; cases hg)
  have hO : okB (bkL zs (m : Int)) = true := (by cases e : okB (bkL zs (m : Int)) with
    | true => rfl
    | false => rw [(rn_bad hK e).1] at hg; cases hg)
  have hyg : y = guN (bkL zs (m : Int)) := (by rw [← hy]; exact (rn_ok hK hO).2)
  have hym : nnB y = true := (by rw [hyg]; exact nnB_iff.2 (okB_out hO).1)
  obtain ⟨L2, hL2⟩ : ∃ L2, imN y = L2 := ⟨_, rfl⟩
  have hB2 : L2 = bkL zs (m : Int) := (by rw [← hL2, hyg]; exact (okB_out hO).2)
  have hE : rnE zs (m : Int) = 0 := hg
  obtain ⟨kk1, kk2⟩ := rnK_iff.1 hK
  rw [hlz] at kk2
  obtain ⟨bw, off, rfl, -⟩ := hZ.base (by omega)
  have hcw : lw ≤ cw := (by obtain ⟨_, _, _, _, e, h, _⟩ := hZ; cases e; rw [hlz] at h; exact h)
  have RB : Hid (Rd w (.slice (some ⟨bw, off + 16 * m, none⟩) 16 (cw - 16 * m)) L2) := (by show Rd _ _ _; rw [hB2]; exact hZ.part (16 * m) 16 (cw - 16 * m) (by omega) (by omega))
  have i3 : (0 : Int) ≤ 16 * (m : Int) := by omega
  have i4 : 16 * (m : Int) + 16 ≤ (cw : Int) := by omega
  have i5 : (16 * (m : Int)).toNat = 16 * m := by omega
  have i6 : (16 * (m : Int) + 16).toNat = 16 * m + 16 := by omega
  have i7 : 16 * m + 16 - 16 * m = 16 := by omega
  have i8 : ¬ cw = 16 * m := by omega
  have hw : IntKind.i64.wrap (m : Int) = (m : Int) := by rw [IntKind.wrap_i64]; omega
  have k8 : Hid (∀ W, Below w.heap.size w W → Calls Try.prog 8 #[.agg #[.int .i64 lv, .int .i64 tu, .int .i64 nx, .int .i64 lo, .slice a len cap]] W fun e w' => ∃ v', e = .returned (.tuple #[v', .int .i64 0]) ∧ Rd w' v' L1 ∧ Below W.heap.size W w') := fun W hb => (by have := words_node ⟨lv, tu, nx, lo, sl⟩ _ W (HR.out.below hb); rw [(wn_yes hc).1, (wn_yes hc).2, hL1] at this; exact this)
  have k10 : Hid (∀ v W, Rd W v L1 → Calls Try.prog 10 #[v, .int .i64 0] W fun e w' => ∃ a c, e = .returned (.tuple #[.agg #[.int .i64 lv, .int .i64 tu, .int .i64 nx, .int .i64 lo, .slice a len c], .int .i64 0]) ∧ Rd w' (.slice a len c) sl ∧ Below W.heap.size W w') := fun v W h => (by refine (read_any v L1 0 W h).mono ?_; rw [← hL1, (rn_im hM).1, (rn_im hM).2]; rintro e w' ⟨v', rfl, r, hb⟩; obtain ⟨_, a, c, rfl⟩ := r.form; dsimp only at r ⊢; rw [hls] at r ⊢; exact ⟨a, c, rfl, r, hb⟩)
  have ks : Hid (∀ (v v' : Value) W, Rd W v sl → Rd W v' sl → Calls Try.prog 15 #[.agg #[.int .i64 lv, .int .i64 tu, .int .i64 nx, .int .i64 lo, v], .agg #[.int .i64 lv, .int .i64 tu, .int .i64 nx, .int .i64 lo, v']] W fun e w' => e = .returned (.bool true) ∧ Below W.heap.size W w') := fun v v' W h h' => (by have := same_any ⟨lv, tu, nx, lo, sl⟩ ⟨lv, tu, nx, lo, sl⟩ v v' W h h'; rwa [decide_eq_true rfl] at this)
  have k10b : Hid (∀ W, Below w.heap.size w W → Calls Try.prog 10 #[.slice (some ⟨bw, off, none⟩) lw cw, .int .i64 (m : Int)] W fun e w' => ∃ v', e = .returned (.tuple #[.agg #[.int .i64 y.lv, .int .i64 y.tu, .int .i64 y.nx, .int .i64 y.lo, v'], .int .i64 0]) ∧ Rd w' v' y.sl ∧ Below W.heap.size W w') := fun W hb => (by have := read_any _ zs (m : Int) W (HZ.out.below hb); rw [hy, hE] at this; exact this)
  have k8b : Hid (∀ v W, Rd W v y.sl → Calls Try.prog 8 #[.agg #[.int .i64 y.lv, .int .i64 y.tu, .int .i64 y.nx, .int .i64 y.lo, v]] W fun e w' => ∃ v', e = .returned (.tuple #[v', .int .i64 0]) ∧ Rd w' v' L2 ∧ Below W.heap.size W w') := fun v W h => (by have := words_node y v W h; rw [(wn_yes hym).1, (wn_yes hym).2, hL2] at this; exact this)
  have t1 : Hid (0 = 0) := rfl
  have t2 : Hid (0 = 0) := rfl
  have t3 : Hid (0 = 0) := rfl
  have t4 : Hid (0 = 0) := rfl
  clear hR hZ hc hg hL1 hy hE hls hlz hM hK hO hyg hym hL2 hB2 kk1 kk2 hcw
  go_enter Try.func4, Try.ntmps4
  go_wp2_with (first
    | (go_at_call 7; refine (awake_any _).mono ?_; rintro e w1 ⟨rfl, hb1⟩; have H1 : Hid (Below (w.alloc (.cells #[.int .i64 lv, .int .i64 tu, .int .i64 nx, .int .i64 lo, .slice a len cap] 24)).heap.size (w.alloc (.cells #[.int .i64 lv, .int .i64 tu, .int .i64 nx, .int .i64 lo, .slice a len cap] 24)) w1) := hb1; obtain ⟨x0, x1, x2, x3, x4⟩ := (N0.out.below H1.out).c; clear hb1)
    | (clear t1; go_at_call 8; refine (k8.out _ (bstep H0.out H1.out)).mono ?_; rintro e w2 ⟨v2, rfl, r2, hb2⟩; have R2 : Hid (Rd w2 v2 L1) := r2; have H2 : Hid (Below (w.alloc (.cells #[.int .i64 lv, .int .i64 tu, .int .i64 nx, .int .i64 lo, .slice a len cap] 24)).heap.size (w.alloc (.cells #[.int .i64 lv, .int .i64 tu, .int .i64 nx, .int .i64 lo, .slice a len cap] 24)) w2) := bstep H1.out hb2; clear hb2 r2 x0 x1 x2 x3 x4; obtain ⟨x0, x1, x2, x3, x4⟩ := (N0.out.below H2.out).c)
    | (clear t2; go_at_call 10; refine (k10.out _ _ R2.out).mono ?_; rintro e w3 ⟨a3, c3, rfl, r3, hb3⟩; have H3 : Hid (Below (w.alloc (.cells #[.int .i64 lv, .int .i64 tu, .int .i64 nx, .int .i64 lo, .slice a len cap] 24)).heap.size (w.alloc (.cells #[.int .i64 lv, .int .i64 tu, .int .i64 nx, .int .i64 lo, .slice a len cap] 24)) (w3.alloc (.cells #[.int .i64 lv, .int .i64 tu, .int .i64 nx, .int .i64 lo, .slice a3 len c3] 24))) := (bstep H2.out hb3).alloc (bstep H2.out hb3).size _; have X3 : Hid (Nb (w3.alloc (.cells #[.int .i64 lv, .int .i64 tu, .int .i64 nx, .int .i64 lo, .slice a3 len c3] 24)) w3.heap.size lv tu nx lo (.slice a3 len c3)) := nb_new w3 _ _ _ _ _; have R3 : Hid (Rd (w3.alloc (.cells #[.int .i64 lv, .int .i64 tu, .int .i64 nx, .int .i64 lo, .slice a3 len c3] 24)) (.slice a3 len c3) sl) := r3.below ((Below.refl _ _).alloc (Nat.le_refl _) _); clear hb3 r3 x0 x1 x2 x3 x4)
    | (clear t3; go_at_call 10; refine (k10b.out _ (bstep H0.out H3.out)).mono ?_; rintro e w4 ⟨v4, rfl, r4, hb4⟩; obtain ⟨_, a4, c4, rfl⟩ := r4.form; have J4 : Hid (Below (w3.alloc (.cells #[.int .i64 lv, .int .i64 tu, .int .i64 nx, .int .i64 lo, .slice a3 len c3] 24)).heap.size (w3.alloc (.cells #[.int .i64 lv, .int .i64 tu, .int .i64 nx, .int .i64 lo, .slice a3 len c3] 24)) (w4.alloc (.cells #[.int .i64 y.lv, .int .i64 y.tu, .int .i64 y.nx, .int .i64 y.lo, .slice a4 y.sl.length c4] 24))) := hb4.alloc hb4.size _; have X4 : Hid (Nb (w4.alloc (.cells #[.int .i64 y.lv, .int .i64 y.tu, .int .i64 y.nx, .int .i64 y.lo, .slice a4 y.sl.length c4] 24)) w4.heap.size y.lv y.tu y.nx y.lo (.slice a4 y.sl.length c4)) := nb_new w4 _ _ _ _ _; have R4 : Hid (Rd (w4.alloc (.cells #[.int .i64 y.lv, .int .i64 y.tu, .int .i64 y.nx, .int .i64 y.lo, .slice a4 y.sl.length c4] 24)) (.slice a4 y.sl.length c4) y.sl) := r4.below ((Below.refl _ _).alloc (Nat.le_refl _) _); have H4 : Hid (Below (w.alloc (.cells #[.int .i64 lv, .int .i64 tu, .int .i64 nx, .int .i64 lo, .slice a len cap] 24)).heap.size (w.alloc (.cells #[.int .i64 lv, .int .i64 tu, .int .i64 nx, .int .i64 lo, .slice a len cap] 24)) (w4.alloc (.cells #[.int .i64 y.lv, .int .i64 y.tu, .int .i64 y.nx, .int .i64 y.lo, .slice a4 y.sl.length c4] 24))) := bstep H3.out J4.out; clear hb4 r4)
    | (clear t4; go_at_call 8; refine (k8b.out _ _ R4.out).mono ?_; rintro e w5 ⟨v5, rfl, r5, hb5⟩; have R5 : Hid (Rd w5 v5 L2) := r5; have J5 : Hid (Below (w3.alloc (.cells #[.int .i64 lv, .int .i64 tu, .int .i64 nx, .int .i64 lo, .slice a3 len c3] 24)).heap.size (w3.alloc (.cells #[.int .i64 lv, .int .i64 tu, .int .i64 nx, .int .i64 lo, .slice a3 len c3] 24)) w5) := bstep J4.out hb5; have H5 : Hid (Below (w.alloc (.cells #[.int .i64 lv, .int .i64 tu, .int .i64 nx, .int .i64 lo, .slice a len cap] 24)).heap.size (w.alloc (.cells #[.int .i64 lv, .int .i64 tu, .int .i64 nx, .int .i64 lo, .slice a len cap] 24)) w5) := bstep H4.out hb5; obtain ⟨x0, x1, x2, x3, x4⟩ := (N0.out.below H5.out).c; obtain ⟨z0, z1, z2, z3, z4⟩ := (X3.out.below J5.out).c; clear hb5 r5)
    | (go_at_call 15; refine (ks.out _ _ _ (R3.out.below J5.out) (HR.out.below (bstep H0.out H5.out))).mono ?_; rintro e w6 ⟨rfl, hb6⟩; have H6 : Hid (Below (w.alloc (.cells #[.int .i64 lv, .int .i64 tu, .int .i64 nx, .int .i64 lo, .slice a len cap] 24)).heap.size (w.alloc (.cells #[.int .i64 lv, .int .i64 tu, .int .i64 nx, .int .i64 lo, .slice a len cap] 24)) w6) := bstep H5.out hb6; have L6 : Hid (Below w5.heap.size w5 w6) := hb6; clear hb6)
    | (go_at_call 14; refine (numbers_any _ _ L2 L2 _ (R5.out.below L6.out) (RB.out.below (bstep H0.out H6.out))).mono ?_; rintro e w7 ⟨rfl, hb7⟩; rw [decide_eq_true rfl]; have H7 : Hid (Below (w.alloc (.cells #[.int .i64 lv, .int .i64 tu, .int .i64 nx, .int .i64 lo, .slice a len cap] 24)).heap.size (w.alloc (.cells #[.int .i64 lv, .int .i64 tu, .int .i64 nx, .int .i64 lo, .slice a len cap] 24)) w7) := bstep H6.out hb7; clear hb7))
  go_ret
  exact ⟨ret_bool rfl, bstep H0.out H7.out⟩
set_option maxRecDepth 100000 in
set_option maxHeartbeats 4000000 in
theorem back_yn (lv tu nx lo : Int) (sl : List Int) (a : Option Addr) (len cap : Nat) (zs : List Int) (aw : Option Addr) (lw cw : Nat) (m : Nat) (w : World) (hls : sl.length = len) (hlz : zs.length = lw) (hR : Rd w (.slice a len cap) sl) (hZ : Rd w (.slice aw lw cw) zs) (hm : m < 256) (h1 : ¬ (len : Int) > 100) (h2 : ¬ (lw : Int) > 300) (hc : nnB ⟨lv, tu, nx, lo, sl⟩ = true) (hg : rnE zs (m : Int) ≠ 0) :
    Calls Try.prog 4 #[.agg #[.int .i64 lv, .int .i64 tu, .int .i64 nx, .int .i64 lo, .slice a len cap], .slice aw lw cw, .int .u8 (m : Int)] w fun e w' => e = .returned (.bool true) ∧ Below w.heap.size w w' := by
  have N0 : Hid (Nb (w.alloc (.cells #[.int .i64 lv, .int .i64 tu, .int .i64 nx, .int .i64 lo, .slice a len cap] 24)) w.heap.size lv tu nx lo (.slice a len cap)) := nb_new w lv tu nx lo _
  have H0 : Hid (Below w.heap.size w (w.alloc (.cells #[.int .i64 lv, .int .i64 tu, .int .i64 nx, .int .i64 lo, .slice a len cap] 24))) := (Below.refl _ _).alloc (Nat.le_refl _) _
  have HR : Hid (Rd w (.slice a len cap) sl) := hR
  have HZ : Hid (Rd w (.slice aw lw cw) zs) := hZ
  obtain ⟨L1, hL1⟩ : ∃ L1, imN ⟨lv, tu, nx, lo, sl⟩ = L1 := ⟨_, rfl⟩
  obtain ⟨y, hy⟩ : ∃ y, rnN zs (m : Int) = y := ⟨_, rfl⟩
  have hM := nnB_iff.1 hc
  obtain ⟨E2, hE⟩ : ∃ E2, rnE zs (m : Int) = E2 := ⟨_, rfl⟩
  have hne : (E2 != 0) = true := (by rw [hE] at hg; simpa using hg)
  have hw : IntKind.i64.wrap (m : Int) = (m : Int) := by rw [IntKind.wrap_i64]; omega
  have k8 : Hid (∀ W, Below w.heap.size w W → Calls Try.prog 8 #[.agg #[.int .i64 lv, .int .i64 tu, .int .i64 nx, .int .i64 lo, .slice a len cap]] W fun e w' => ∃ v', e = .returned (.tuple #[v', .int .i64 0]) ∧ Rd w' v' L1 ∧ Below W.heap.size W w') := fun W hb => (by have := words_node ⟨lv, tu, nx, lo, sl⟩ _ W (HR.out.below hb); rw [(wn_yes hc).1, (wn_yes hc).2, hL1] at this; exact this)
  have k10 : Hid (∀ v W, Rd W v L1 → Calls Try.prog 10 #[v, .int .i64 0] W fun e w' => ∃ a c, e = .returned (.tuple #[.agg #[.int .i64 lv, .int .i64 tu, .int .i64 nx, .int .i64 lo, .slice a len c], .int .i64 0]) ∧ Rd w' (.slice a len c) sl ∧ Below W.heap.size W w') := fun v W h => (by refine (read_any v L1 0 W h).mono ?_; rw [← hL1, (rn_im hM).1, (rn_im hM).2]; rintro e w' ⟨v', rfl, r, hb⟩; obtain ⟨_, a, c, rfl⟩ := r.form; dsimp only at r ⊢; rw [hls] at r ⊢; exact ⟨a, c, rfl, r, hb⟩)
  have ks : Hid (∀ (v v' : Value) W, Rd W v sl → Rd W v' sl → Calls Try.prog 15 #[.agg #[.int .i64 lv, .int .i64 tu, .int .i64 nx, .int .i64 lo, v], .agg #[.int .i64 lv, .int .i64 tu, .int .i64 nx, .int .i64 lo, v']] W fun e w' => e = .returned (.bool true) ∧ Below W.heap.size W w') := fun v v' W h h' => (by have := same_any ⟨lv, tu, nx, lo, sl⟩ ⟨lv, tu, nx, lo, sl⟩ v v' W h h'; rwa [decide_eq_true rfl] at this)
  have k10b : Hid (∀ W, Below w.heap.size w W → Calls Try.prog 10 #[.slice aw lw cw, .int .i64 (m : Int)] W fun e w' => ∃ v', e = .returned (.tuple #[.agg #[.int .i64 y.lv, .int .i64 y.tu, .int .i64 y.nx, .int .i64 y.lo, v'], .int .i64 E2]) ∧ Rd w' v' y.sl ∧ Below W.heap.size W w') := fun W hb => (by have := read_any _ zs (m : Int) W (HZ.out.below hb); rw [hy, hE] at this; exact this)
  have k8b : Hid (∀ v W, Rd W v y.sl → Calls Try.prog 8 #[.agg #[.int .i64 y.lv, .int .i64 y.tu, .int .i64 y.nx, .int .i64 y.lo, v]] W fun e w' => ∃ v', e = .returned (.tuple #[v', .int .i64 (wnE y)]) ∧ Rd w' v' (wnL y) ∧ Below W.heap.size W w') := fun v W h => (by have := words_node y v W h; exact this)
  have t1 : Hid (0 = 0) := rfl
  have t2 : Hid (0 = 0) := rfl
  have t3 : Hid (0 = 0) := rfl
  have t4 : Hid (0 = 0) := rfl
  clear hR hZ hc hg hL1 hy hE hls hlz hM
  go_enter Try.func4, Try.ntmps4
  go_wp2_with (first
    | (go_at_call 7; refine (awake_any _).mono ?_; rintro e w1 ⟨rfl, hb1⟩; have H1 : Hid (Below (w.alloc (.cells #[.int .i64 lv, .int .i64 tu, .int .i64 nx, .int .i64 lo, .slice a len cap] 24)).heap.size (w.alloc (.cells #[.int .i64 lv, .int .i64 tu, .int .i64 nx, .int .i64 lo, .slice a len cap] 24)) w1) := hb1; obtain ⟨x0, x1, x2, x3, x4⟩ := (N0.out.below H1.out).c; clear hb1)
    | (clear t1; go_at_call 8; refine (k8.out _ (bstep H0.out H1.out)).mono ?_; rintro e w2 ⟨v2, rfl, r2, hb2⟩; have R2 : Hid (Rd w2 v2 L1) := r2; have H2 : Hid (Below (w.alloc (.cells #[.int .i64 lv, .int .i64 tu, .int .i64 nx, .int .i64 lo, .slice a len cap] 24)).heap.size (w.alloc (.cells #[.int .i64 lv, .int .i64 tu, .int .i64 nx, .int .i64 lo, .slice a len cap] 24)) w2) := bstep H1.out hb2; clear hb2 r2 x0 x1 x2 x3 x4; obtain ⟨x0, x1, x2, x3, x4⟩ := (N0.out.below H2.out).c)
    | (clear t2; go_at_call 10; refine (k10.out _ _ R2.out).mono ?_; rintro e w3 ⟨a3, c3, rfl, r3, hb3⟩; have H3 : Hid (Below (w.alloc (.cells #[.int .i64 lv, .int .i64 tu, .int .i64 nx, .int .i64 lo, .slice a len cap] 24)).heap.size (w.alloc (.cells #[.int .i64 lv, .int .i64 tu, .int .i64 nx, .int .i64 lo, .slice a len cap] 24)) (w3.alloc (.cells #[.int .i64 lv, .int .i64 tu, .int .i64 nx, .int .i64 lo, .slice a3 len c3] 24))) := (bstep H2.out hb3).alloc (bstep H2.out hb3).size _; have X3 : Hid (Nb (w3.alloc (.cells #[.int .i64 lv, .int .i64 tu, .int .i64 nx, .int .i64 lo, .slice a3 len c3] 24)) w3.heap.size lv tu nx lo (.slice a3 len c3)) := nb_new w3 _ _ _ _ _; have R3 : Hid (Rd (w3.alloc (.cells #[.int .i64 lv, .int .i64 tu, .int .i64 nx, .int .i64 lo, .slice a3 len c3] 24)) (.slice a3 len c3) sl) := r3.below ((Below.refl _ _).alloc (Nat.le_refl _) _); clear hb3 r3 x0 x1 x2 x3 x4)
    | (clear t3; go_at_call 10; refine (k10b.out _ (bstep H0.out H3.out)).mono ?_; rintro e w4 ⟨v4, rfl, r4, hb4⟩; obtain ⟨_, a4, c4, rfl⟩ := r4.form; have J4 : Hid (Below (w3.alloc (.cells #[.int .i64 lv, .int .i64 tu, .int .i64 nx, .int .i64 lo, .slice a3 len c3] 24)).heap.size (w3.alloc (.cells #[.int .i64 lv, .int .i64 tu, .int .i64 nx, .int .i64 lo, .slice a3 len c3] 24)) (w4.alloc (.cells #[.int .i64 y.lv, .int .i64 y.tu, .int .i64 y.nx, .int .i64 y.lo, .slice a4 y.sl.length c4] 24))) := hb4.alloc hb4.size _; have X4 : Hid (Nb (w4.alloc (.cells #[.int .i64 y.lv, .int .i64 y.tu, .int .i64 y.nx, .int .i64 y.lo, .slice a4 y.sl.length c4] 24)) w4.heap.size y.lv y.tu y.nx y.lo (.slice a4 y.sl.length c4)) := nb_new w4 _ _ _ _ _; have R4 : Hid (Rd (w4.alloc (.cells #[.int .i64 y.lv, .int .i64 y.tu, .int .i64 y.nx, .int .i64 y.lo, .slice a4 y.sl.length c4] 24)) (.slice a4 y.sl.length c4) y.sl) := r4.below ((Below.refl _ _).alloc (Nat.le_refl _) _); have H4 : Hid (Below (w.alloc (.cells #[.int .i64 lv, .int .i64 tu, .int .i64 nx, .int .i64 lo, .slice a len cap] 24)).heap.size (w.alloc (.cells #[.int .i64 lv, .int .i64 tu, .int .i64 nx, .int .i64 lo, .slice a len cap] 24)) (w4.alloc (.cells #[.int .i64 y.lv, .int .i64 y.tu, .int .i64 y.nx, .int .i64 y.lo, .slice a4 y.sl.length c4] 24))) := bstep H3.out J4.out; clear hb4 r4)
    | (clear t4; go_at_call 8; refine (k8b.out _ _ R4.out).mono ?_; rintro e w5 ⟨v5, rfl, r5, hb5⟩; have R5 : Hid (Rd w5 v5 (wnL y)) := r5; have J5 : Hid (Below (w3.alloc (.cells #[.int .i64 lv, .int .i64 tu, .int .i64 nx, .int .i64 lo, .slice a3 len c3] 24)).heap.size (w3.alloc (.cells #[.int .i64 lv, .int .i64 tu, .int .i64 nx, .int .i64 lo, .slice a3 len c3] 24)) w5) := bstep J4.out hb5; have H5 : Hid (Below (w.alloc (.cells #[.int .i64 lv, .int .i64 tu, .int .i64 nx, .int .i64 lo, .slice a len cap] 24)).heap.size (w.alloc (.cells #[.int .i64 lv, .int .i64 tu, .int .i64 nx, .int .i64 lo, .slice a len cap] 24)) w5) := bstep H4.out hb5; obtain ⟨x0, x1, x2, x3, x4⟩ := (N0.out.below H5.out).c; obtain ⟨z0, z1, z2, z3, z4⟩ := (X3.out.below J5.out).c; clear hb5 r5)
    | (go_at_call 15; refine (ks.out _ _ _ (R3.out.below J5.out) (HR.out.below (bstep H0.out H5.out))).mono ?_; rintro e w6 ⟨rfl, hb6⟩; have H6 : Hid (Below (w.alloc (.cells #[.int .i64 lv, .int .i64 tu, .int .i64 nx, .int .i64 lo, .slice a len cap] 24)).heap.size (w.alloc (.cells #[.int .i64 lv, .int .i64 tu, .int .i64 nx, .int .i64 lo, .slice a len cap] 24)) w6) := bstep H5.out hb6; have L6 : Hid (Below w5.heap.size w5 w6) := hb6; clear hb6))
  go_ret
  exact ⟨ret_bool rfl, bstep H0.out H6.out⟩
set_option maxRecDepth 100000 in
set_option maxHeartbeats 4000000 in
theorem back_ny (lv tu nx lo : Int) (sl : List Int) (a : Option Addr) (len cap : Nat) (zs : List Int) (aw : Option Addr) (lw cw : Nat) (m : Nat) (w : World) (hls : sl.length = len) (hlz : zs.length = lw) (hR : Rd w (.slice a len cap) sl) (hZ : Rd w (.slice aw lw cw) zs) (hm : m < 256) (h1 : ¬ (len : Int) > 100) (h2 : ¬ (lw : Int) > 300) (hc : nnB ⟨lv, tu, nx, lo, sl⟩ = false) (hg : rnE zs (m : Int) = 0) :
    Calls Try.prog 4 #[.agg #[.int .i64 lv, .int .i64 tu, .int .i64 nx, .int .i64 lo, .slice a len cap], .slice aw lw cw, .int .u8 (m : Int)] w fun e w' => e = .returned (.bool true) ∧ Below w.heap.size w w' := by
  have N0 : Hid (Nb (w.alloc (.cells #[.int .i64 lv, .int .i64 tu, .int .i64 nx, .int .i64 lo, .slice a len cap] 24)) w.heap.size lv tu nx lo (.slice a len cap)) := nb_new w lv tu nx lo _
  have H0 : Hid (Below w.heap.size w (w.alloc (.cells #[.int .i64 lv, .int .i64 tu, .int .i64 nx, .int .i64 lo, .slice a len cap] 24))) := (Below.refl _ _).alloc (Nat.le_refl _) _
  have HR : Hid (Rd w (.slice a len cap) sl) := hR
  have HZ : Hid (Rd w (.slice aw lw cw) zs) := hZ
  obtain ⟨L1, hL1⟩ : ∃ L1, ([] : List Int) = L1 := ⟨_, rfl⟩
  obtain ⟨y, hy⟩ : ∃ y, rnN zs (m : Int) = y := ⟨_, rfl⟩
  have hK : rnK zs (m : Int) = true := (by cases e : rnK zs (m : Int) with
    | true => rfl
    | false => rw [(rn_out e).1] at hg; cases hg)
  have hO : okB (bkL zs (m : Int)) = true := (by cases e : okB (bkL zs (m : Int)) with
    | true => rfl
    | false => rw [(rn_bad hK e).1] at hg; cases hg)
  have hyg : y = guN (bkL zs (m : Int)) := (by rw [← hy]; exact (rn_ok hK hO).2)
  have hym : nnB y = true := (by rw [hyg]; exact nnB_iff.2 (okB_out hO).1)
  obtain ⟨L2, hL2⟩ : ∃ L2, imN y = L2 := ⟨_, rfl⟩
  have hB2 : L2 = bkL zs (m : Int) := (by rw [← hL2, hyg]; exact (okB_out hO).2)
  have hE : rnE zs (m : Int) = 0 := hg
  obtain ⟨kk1, kk2⟩ := rnK_iff.1 hK
  rw [hlz] at kk2
  obtain ⟨bw, off, rfl, -⟩ := hZ.base (by omega)
  have hcw : lw ≤ cw := (by obtain ⟨_, _, _, _, e, h, _⟩ := hZ; cases e; rw [hlz] at h; exact h)
  have RB : Hid (Rd w (.slice (some ⟨bw, off + 16 * m, none⟩) 16 (cw - 16 * m)) L2) := (by show Rd _ _ _; rw [hB2]; exact hZ.part (16 * m) 16 (cw - 16 * m) (by omega) (by omega))
  have i3 : (0 : Int) ≤ 16 * (m : Int) := by omega
  have i4 : 16 * (m : Int) + 16 ≤ (cw : Int) := by omega
  have i5 : (16 * (m : Int)).toNat = 16 * m := by omega
  have i6 : (16 * (m : Int) + 16).toNat = 16 * m + 16 := by omega
  have i7 : 16 * m + 16 - 16 * m = 16 := by omega
  have i8 : ¬ cw = 16 * m := by omega
  have hw : IntKind.i64.wrap (m : Int) = (m : Int) := by rw [IntKind.wrap_i64]; omega
  have k8 : Hid (∀ W, Below w.heap.size w W → Calls Try.prog 8 #[.agg #[.int .i64 lv, .int .i64 tu, .int .i64 nx, .int .i64 lo, .slice a len cap]] W fun e w' => ∃ v', e = .returned (.tuple #[v', .int .i64 90]) ∧ Rd w' v' L1 ∧ Below W.heap.size W w') := fun W hb => (by have := words_node ⟨lv, tu, nx, lo, sl⟩ _ W (HR.out.below hb); rw [(wn_no hc).1, (wn_no hc).2, hL1] at this; exact this)
  have k10 : Hid (∀ v W, Rd W v L1 → Calls Try.prog 10 #[v, .int .i64 0] W fun e w' => e = .returned (.tuple #[.agg #[.int .i64 0, .int .i64 0, .int .i64 0, .int .i64 0, .slice none 0 0], .int .i64 1]) ∧ Below W.heap.size W w') := fun v W h => (by rw [← hL1] at h; exact read_out v [] 0 W h (by decide))
  have k17 : Hid (∀ W, Below w.heap.size w W → Calls Try.prog 17 #[.agg #[.int .i64 lv, .int .i64 tu, .int .i64 nx, .int .i64 lo, .slice a len cap]] W fun e w' => e = .returned (.bool false) ∧ Below W.heap.size W w') := fun W hb => (by have := check_node ⟨lv, tu, nx, lo, sl⟩ _ W (HR.out.below hb); rwa [hc] at this)
  have k10b : Hid (∀ W, Below w.heap.size w W → Calls Try.prog 10 #[.slice (some ⟨bw, off, none⟩) lw cw, .int .i64 (m : Int)] W fun e w' => ∃ v', e = .returned (.tuple #[.agg #[.int .i64 y.lv, .int .i64 y.tu, .int .i64 y.nx, .int .i64 y.lo, v'], .int .i64 0]) ∧ Rd w' v' y.sl ∧ Below W.heap.size W w') := fun W hb => (by have := read_any _ zs (m : Int) W (HZ.out.below hb); rw [hy, hE] at this; exact this)
  have k8b : Hid (∀ v W, Rd W v y.sl → Calls Try.prog 8 #[.agg #[.int .i64 y.lv, .int .i64 y.tu, .int .i64 y.nx, .int .i64 y.lo, v]] W fun e w' => ∃ v', e = .returned (.tuple #[v', .int .i64 0]) ∧ Rd w' v' L2 ∧ Below W.heap.size W w') := fun v W h => (by have := words_node y v W h; rw [(wn_yes hym).1, (wn_yes hym).2, hL2] at this; exact this)
  have t1 : Hid (0 = 0) := rfl
  have t2 : Hid (0 = 0) := rfl
  have t3 : Hid (0 = 0) := rfl
  have t4 : Hid (0 = 0) := rfl
  clear hR hZ hc hg hL1 hy hE hls hlz hK hO hyg hym hL2 hB2 kk1 kk2 hcw
  go_enter Try.func4, Try.ntmps4
  go_wp2_with (first
    | (go_at_call 7; refine (awake_any _).mono ?_; rintro e w1 ⟨rfl, hb1⟩; have H1 : Hid (Below (w.alloc (.cells #[.int .i64 lv, .int .i64 tu, .int .i64 nx, .int .i64 lo, .slice a len cap] 24)).heap.size (w.alloc (.cells #[.int .i64 lv, .int .i64 tu, .int .i64 nx, .int .i64 lo, .slice a len cap] 24)) w1) := hb1; obtain ⟨x0, x1, x2, x3, x4⟩ := (N0.out.below H1.out).c; clear hb1)
    | (clear t1; go_at_call 8; refine (k8.out _ (bstep H0.out H1.out)).mono ?_; rintro e w2 ⟨v2, rfl, r2, hb2⟩; have R2 : Hid (Rd w2 v2 L1) := r2; have H2 : Hid (Below (w.alloc (.cells #[.int .i64 lv, .int .i64 tu, .int .i64 nx, .int .i64 lo, .slice a len cap] 24)).heap.size (w.alloc (.cells #[.int .i64 lv, .int .i64 tu, .int .i64 nx, .int .i64 lo, .slice a len cap] 24)) w2) := bstep H1.out hb2; clear hb2 r2 x0 x1 x2 x3 x4; obtain ⟨x0, x1, x2, x3, x4⟩ := (N0.out.below H2.out).c)
    | (clear t2; go_at_call 10; refine (k10.out _ _ R2.out).mono ?_; rintro e w3 ⟨rfl, hb3⟩; have H3 : Hid (Below (w.alloc (.cells #[.int .i64 lv, .int .i64 tu, .int .i64 nx, .int .i64 lo, .slice a len cap] 24)).heap.size (w.alloc (.cells #[.int .i64 lv, .int .i64 tu, .int .i64 nx, .int .i64 lo, .slice a len cap] 24)) (w3.alloc (.cells #[.int .i64 0, .int .i64 0, .int .i64 0, .int .i64 0, .slice none 0 0] 24))) := (bstep H2.out hb3).alloc (bstep H2.out hb3).size _; clear hb3 x0 x1 x2 x3 x4)
    | (clear t3; go_at_call 10; refine (k10b.out _ (bstep H0.out H3.out)).mono ?_; rintro e w4 ⟨v4, rfl, r4, hb4⟩; obtain ⟨_, a4, c4, rfl⟩ := r4.form; have J4 : Hid (Below (w3.alloc (.cells #[.int .i64 0, .int .i64 0, .int .i64 0, .int .i64 0, .slice none 0 0] 24)).heap.size (w3.alloc (.cells #[.int .i64 0, .int .i64 0, .int .i64 0, .int .i64 0, .slice none 0 0] 24)) (w4.alloc (.cells #[.int .i64 y.lv, .int .i64 y.tu, .int .i64 y.nx, .int .i64 y.lo, .slice a4 y.sl.length c4] 24))) := hb4.alloc hb4.size _; have X4 : Hid (Nb (w4.alloc (.cells #[.int .i64 y.lv, .int .i64 y.tu, .int .i64 y.nx, .int .i64 y.lo, .slice a4 y.sl.length c4] 24)) w4.heap.size y.lv y.tu y.nx y.lo (.slice a4 y.sl.length c4)) := nb_new w4 _ _ _ _ _; have R4 : Hid (Rd (w4.alloc (.cells #[.int .i64 y.lv, .int .i64 y.tu, .int .i64 y.nx, .int .i64 y.lo, .slice a4 y.sl.length c4] 24)) (.slice a4 y.sl.length c4) y.sl) := r4.below ((Below.refl _ _).alloc (Nat.le_refl _) _); have H4 : Hid (Below (w.alloc (.cells #[.int .i64 lv, .int .i64 tu, .int .i64 nx, .int .i64 lo, .slice a len cap] 24)).heap.size (w.alloc (.cells #[.int .i64 lv, .int .i64 tu, .int .i64 nx, .int .i64 lo, .slice a len cap] 24)) (w4.alloc (.cells #[.int .i64 y.lv, .int .i64 y.tu, .int .i64 y.nx, .int .i64 y.lo, .slice a4 y.sl.length c4] 24))) := bstep H3.out J4.out; clear hb4 r4)
    | (clear t4; go_at_call 8; refine (k8b.out _ _ R4.out).mono ?_; rintro e w5 ⟨v5, rfl, r5, hb5⟩; have R5 : Hid (Rd w5 v5 L2) := r5; have J5 : Hid (Below (w3.alloc (.cells #[.int .i64 0, .int .i64 0, .int .i64 0, .int .i64 0, .slice none 0 0] 24)).heap.size (w3.alloc (.cells #[.int .i64 0, .int .i64 0, .int .i64 0, .int .i64 0, .slice none 0 0] 24)) w5) := bstep J4.out hb5; have H5 : Hid (Below (w.alloc (.cells #[.int .i64 lv, .int .i64 tu, .int .i64 nx, .int .i64 lo, .slice a len cap] 24)).heap.size (w.alloc (.cells #[.int .i64 lv, .int .i64 tu, .int .i64 nx, .int .i64 lo, .slice a len cap] 24)) w5) := bstep H4.out hb5; obtain ⟨x0, x1, x2, x3, x4⟩ := (N0.out.below H5.out).c; clear hb5 r5)
    | (go_at_call 17; refine (k17.out _ (bstep H0.out H5.out)).mono ?_; rintro e w6 ⟨rfl, hb6⟩; have H6 : Hid (Below (w.alloc (.cells #[.int .i64 lv, .int .i64 tu, .int .i64 nx, .int .i64 lo, .slice a len cap] 24)).heap.size (w.alloc (.cells #[.int .i64 lv, .int .i64 tu, .int .i64 nx, .int .i64 lo, .slice a len cap] 24)) w6) := bstep H5.out hb6; have L6 : Hid (Below w5.heap.size w5 w6) := hb6; clear hb6)
    | (go_at_call 14; refine (numbers_any _ _ L2 L2 _ (R5.out.below L6.out) (RB.out.below (bstep H0.out H6.out))).mono ?_; rintro e w7 ⟨rfl, hb7⟩; rw [decide_eq_true rfl]; have H7 : Hid (Below (w.alloc (.cells #[.int .i64 lv, .int .i64 tu, .int .i64 nx, .int .i64 lo, .slice a len cap] 24)).heap.size (w.alloc (.cells #[.int .i64 lv, .int .i64 tu, .int .i64 nx, .int .i64 lo, .slice a len cap] 24)) w7) := bstep H6.out hb7; clear hb7))
  go_ret
  exact ⟨ret_bool rfl, bstep H0.out H7.out⟩
set_option maxRecDepth 100000 in
set_option maxHeartbeats 4000000 in
theorem back_nn (lv tu nx lo : Int) (sl : List Int) (a : Option Addr) (len cap : Nat) (zs : List Int) (aw : Option Addr) (lw cw : Nat) (m : Nat) (w : World) (hls : sl.length = len) (hlz : zs.length = lw) (hR : Rd w (.slice a len cap) sl) (hZ : Rd w (.slice aw lw cw) zs) (hm : m < 256) (h1 : ¬ (len : Int) > 100) (h2 : ¬ (lw : Int) > 300) (hc : nnB ⟨lv, tu, nx, lo, sl⟩ = false) (hg : rnE zs (m : Int) ≠ 0) :
    Calls Try.prog 4 #[.agg #[.int .i64 lv, .int .i64 tu, .int .i64 nx, .int .i64 lo, .slice a len cap], .slice aw lw cw, .int .u8 (m : Int)] w fun e w' => e = .returned (.bool true) ∧ Below w.heap.size w w' := by
  have N0 : Hid (Nb (w.alloc (.cells #[.int .i64 lv, .int .i64 tu, .int .i64 nx, .int .i64 lo, .slice a len cap] 24)) w.heap.size lv tu nx lo (.slice a len cap)) := nb_new w lv tu nx lo _
  have H0 : Hid (Below w.heap.size w (w.alloc (.cells #[.int .i64 lv, .int .i64 tu, .int .i64 nx, .int .i64 lo, .slice a len cap] 24))) := (Below.refl _ _).alloc (Nat.le_refl _) _
  have HR : Hid (Rd w (.slice a len cap) sl) := hR
  have HZ : Hid (Rd w (.slice aw lw cw) zs) := hZ
  obtain ⟨L1, hL1⟩ : ∃ L1, ([] : List Int) = L1 := ⟨_, rfl⟩
  obtain ⟨y, hy⟩ : ∃ y, rnN zs (m : Int) = y := ⟨_, rfl⟩
  obtain ⟨E2, hE⟩ : ∃ E2, rnE zs (m : Int) = E2 := ⟨_, rfl⟩
  have hne : (E2 != 0) = true := (by rw [hE] at hg; simpa using hg)
  have hw : IntKind.i64.wrap (m : Int) = (m : Int) := by rw [IntKind.wrap_i64]; omega
  have k8 : Hid (∀ W, Below w.heap.size w W → Calls Try.prog 8 #[.agg #[.int .i64 lv, .int .i64 tu, .int .i64 nx, .int .i64 lo, .slice a len cap]] W fun e w' => ∃ v', e = .returned (.tuple #[v', .int .i64 90]) ∧ Rd w' v' L1 ∧ Below W.heap.size W w') := fun W hb => (by have := words_node ⟨lv, tu, nx, lo, sl⟩ _ W (HR.out.below hb); rw [(wn_no hc).1, (wn_no hc).2, hL1] at this; exact this)
  have k10 : Hid (∀ v W, Rd W v L1 → Calls Try.prog 10 #[v, .int .i64 0] W fun e w' => e = .returned (.tuple #[.agg #[.int .i64 0, .int .i64 0, .int .i64 0, .int .i64 0, .slice none 0 0], .int .i64 1]) ∧ Below W.heap.size W w') := fun v W h => (by rw [← hL1] at h; exact read_out v [] 0 W h (by decide))
  have k17 : Hid (∀ W, Below w.heap.size w W → Calls Try.prog 17 #[.agg #[.int .i64 lv, .int .i64 tu, .int .i64 nx, .int .i64 lo, .slice a len cap]] W fun e w' => e = .returned (.bool false) ∧ Below W.heap.size W w') := fun W hb => (by have := check_node ⟨lv, tu, nx, lo, sl⟩ _ W (HR.out.below hb); rwa [hc] at this)
  have k10b : Hid (∀ W, Below w.heap.size w W → Calls Try.prog 10 #[.slice aw lw cw, .int .i64 (m : Int)] W fun e w' => ∃ v', e = .returned (.tuple #[.agg #[.int .i64 y.lv, .int .i64 y.tu, .int .i64 y.nx, .int .i64 y.lo, v'], .int .i64 E2]) ∧ Rd w' v' y.sl ∧ Below W.heap.size W w') := fun W hb => (by have := read_any _ zs (m : Int) W (HZ.out.below hb); rw [hy, hE] at this; exact this)
  have k8b : Hid (∀ v W, Rd W v y.sl → Calls Try.prog 8 #[.agg #[.int .i64 y.lv, .int .i64 y.tu, .int .i64 y.nx, .int .i64 y.lo, v]] W fun e w' => ∃ v', e = .returned (.tuple #[v', .int .i64 (wnE y)]) ∧ Rd w' v' (wnL y) ∧ Below W.heap.size W w') := fun v W h => (by have := words_node y v W h; exact this)
  have t1 : Hid (0 = 0) := rfl
  have t2 : Hid (0 = 0) := rfl
  have t3 : Hid (0 = 0) := rfl
  have t4 : Hid (0 = 0) := rfl
  clear hR hZ hc hg hL1 hy hE hls hlz
  go_enter Try.func4, Try.ntmps4
  go_wp2_with (first
    | (go_at_call 7; refine (awake_any _).mono ?_; rintro e w1 ⟨rfl, hb1⟩; have H1 : Hid (Below (w.alloc (.cells #[.int .i64 lv, .int .i64 tu, .int .i64 nx, .int .i64 lo, .slice a len cap] 24)).heap.size (w.alloc (.cells #[.int .i64 lv, .int .i64 tu, .int .i64 nx, .int .i64 lo, .slice a len cap] 24)) w1) := hb1; obtain ⟨x0, x1, x2, x3, x4⟩ := (N0.out.below H1.out).c; clear hb1)
    | (clear t1; go_at_call 8; refine (k8.out _ (bstep H0.out H1.out)).mono ?_; rintro e w2 ⟨v2, rfl, r2, hb2⟩; have R2 : Hid (Rd w2 v2 L1) := r2; have H2 : Hid (Below (w.alloc (.cells #[.int .i64 lv, .int .i64 tu, .int .i64 nx, .int .i64 lo, .slice a len cap] 24)).heap.size (w.alloc (.cells #[.int .i64 lv, .int .i64 tu, .int .i64 nx, .int .i64 lo, .slice a len cap] 24)) w2) := bstep H1.out hb2; clear hb2 r2 x0 x1 x2 x3 x4; obtain ⟨x0, x1, x2, x3, x4⟩ := (N0.out.below H2.out).c)
    | (clear t2; go_at_call 10; refine (k10.out _ _ R2.out).mono ?_; rintro e w3 ⟨rfl, hb3⟩; have H3 : Hid (Below (w.alloc (.cells #[.int .i64 lv, .int .i64 tu, .int .i64 nx, .int .i64 lo, .slice a len cap] 24)).heap.size (w.alloc (.cells #[.int .i64 lv, .int .i64 tu, .int .i64 nx, .int .i64 lo, .slice a len cap] 24)) (w3.alloc (.cells #[.int .i64 0, .int .i64 0, .int .i64 0, .int .i64 0, .slice none 0 0] 24))) := (bstep H2.out hb3).alloc (bstep H2.out hb3).size _; clear hb3 x0 x1 x2 x3 x4)
    | (clear t3; go_at_call 10; refine (k10b.out _ (bstep H0.out H3.out)).mono ?_; rintro e w4 ⟨v4, rfl, r4, hb4⟩; obtain ⟨_, a4, c4, rfl⟩ := r4.form; have J4 : Hid (Below (w3.alloc (.cells #[.int .i64 0, .int .i64 0, .int .i64 0, .int .i64 0, .slice none 0 0] 24)).heap.size (w3.alloc (.cells #[.int .i64 0, .int .i64 0, .int .i64 0, .int .i64 0, .slice none 0 0] 24)) (w4.alloc (.cells #[.int .i64 y.lv, .int .i64 y.tu, .int .i64 y.nx, .int .i64 y.lo, .slice a4 y.sl.length c4] 24))) := hb4.alloc hb4.size _; have X4 : Hid (Nb (w4.alloc (.cells #[.int .i64 y.lv, .int .i64 y.tu, .int .i64 y.nx, .int .i64 y.lo, .slice a4 y.sl.length c4] 24)) w4.heap.size y.lv y.tu y.nx y.lo (.slice a4 y.sl.length c4)) := nb_new w4 _ _ _ _ _; have R4 : Hid (Rd (w4.alloc (.cells #[.int .i64 y.lv, .int .i64 y.tu, .int .i64 y.nx, .int .i64 y.lo, .slice a4 y.sl.length c4] 24)) (.slice a4 y.sl.length c4) y.sl) := r4.below ((Below.refl _ _).alloc (Nat.le_refl _) _); have H4 : Hid (Below (w.alloc (.cells #[.int .i64 lv, .int .i64 tu, .int .i64 nx, .int .i64 lo, .slice a len cap] 24)).heap.size (w.alloc (.cells #[.int .i64 lv, .int .i64 tu, .int .i64 nx, .int .i64 lo, .slice a len cap] 24)) (w4.alloc (.cells #[.int .i64 y.lv, .int .i64 y.tu, .int .i64 y.nx, .int .i64 y.lo, .slice a4 y.sl.length c4] 24))) := bstep H3.out J4.out; clear hb4 r4)
    | (clear t4; go_at_call 8; refine (k8b.out _ _ R4.out).mono ?_; rintro e w5 ⟨v5, rfl, r5, hb5⟩; have R5 : Hid (Rd w5 v5 (wnL y)) := r5; have J5 : Hid (Below (w3.alloc (.cells #[.int .i64 0, .int .i64 0, .int .i64 0, .int .i64 0, .slice none 0 0] 24)).heap.size (w3.alloc (.cells #[.int .i64 0, .int .i64 0, .int .i64 0, .int .i64 0, .slice none 0 0] 24)) w5) := bstep J4.out hb5; have H5 : Hid (Below (w.alloc (.cells #[.int .i64 lv, .int .i64 tu, .int .i64 nx, .int .i64 lo, .slice a len cap] 24)).heap.size (w.alloc (.cells #[.int .i64 lv, .int .i64 tu, .int .i64 nx, .int .i64 lo, .slice a len cap] 24)) w5) := bstep H4.out hb5; obtain ⟨x0, x1, x2, x3, x4⟩ := (N0.out.below H5.out).c; clear hb5 r5)
    | (go_at_call 17; refine (k17.out _ (bstep H0.out H5.out)).mono ?_; rintro e w6 ⟨rfl, hb6⟩; have H6 : Hid (Below (w.alloc (.cells #[.int .i64 lv, .int .i64 tu, .int .i64 nx, .int .i64 lo, .slice a len cap] 24)).heap.size (w.alloc (.cells #[.int .i64 lv, .int .i64 tu, .int .i64 nx, .int .i64 lo, .slice a len cap] 24)) w6) := bstep H5.out hb6; have L6 : Hid (Below w5.heap.size w5 w6) := hb6; clear hb6))
  go_ret
  exact ⟨ret_bool rfl, bstep H0.out H6.out⟩
set_option maxRecDepth 100000 in
set_option maxHeartbeats 1000000 in
theorem walk_NodeBack (lv tu nx lo : Int) (a : Option Addr) (len cap : Nat) (aw : Option Addr) (lw cw : Nat) (z : Int) (w : World) (hN : RowIn w a len cap) (hK : RowIn w aw lw cw) (hz : (Lit.int .u8 z).wf = true) :
    Calls Try.prog 4 #[.agg #[.int .i64 lv, .int .i64 tu, .int .i64 nx, .int .i64 lo, .slice a len cap], .slice aw lw cw, .int .u8 z] w fun e w' => e = .returned (.bool true) ∧ Below w.heap.size w w' := by
  obtain ⟨m, rfl, hm⟩ := wf_u8 hz
  have N0 : Hid (Nb (w.alloc (.cells #[.int .i64 lv, .int .i64 tu, .int .i64 nx, .int .i64 lo, .slice a len cap] 24)) w.heap.size lv tu nx lo (.slice a len cap)) := nb_new w lv tu nx lo _
  have H0 : Hid (Below w.heap.size w (w.alloc (.cells #[.int .i64 lv, .int .i64 tu, .int .i64 nx, .int .i64 lo, .slice a len cap] 24))) := (Below.refl _ _).alloc (Nat.le_refl _) _
  by_cases h1 : (len : Int) > 100
  · clear hN hK
    go_enter Try.func4, Try.ntmps4
    go_wp2_with (go_at_call 7; refine (awake_any _).mono ?_; rintro e w1 ⟨rfl, hb1⟩; obtain ⟨x0, x1, x2, x3, x4⟩ := (N0.out.below hb1).c)
    go_ret
    exact ⟨ret_bool rfl, bstep H0.out hb1⟩
  by_cases h2 : (lw : Int) > 300
  · clear hN hK
    go_enter Try.func4, Try.ntmps4
    go_wp2_with (go_at_call 7; refine (awake_any _).mono ?_; rintro e w1 ⟨rfl, hb1⟩; obtain ⟨x0, x1, x2, x3, x4⟩ := (N0.out.below hb1).c)
    go_ret
    exact ⟨ret_bool rfl, bstep H0.out hb1⟩
  obtain ⟨sl, hl, hR, -⟩ := hN (by omega)
  obtain ⟨zs, hlz, hZ, -⟩ := hK (by omega)
  have hR := hR.rd (by omega)
  have hZ := hZ.rd (by omega)
  cases hc : nnB ⟨lv, tu, nx, lo, sl⟩ with
  | true =>
    by_cases hg : rnE zs (m : Int) = 0
    · exact back_yy lv tu nx lo sl a len cap zs aw lw cw m w hl hlz hR hZ hm h1 h2 hc hg
    · exact back_yn lv tu nx lo sl a len cap zs aw lw cw m w hl hlz hR hZ hm h1 h2 hc hg
  | false =>
    by_cases hg : rnE zs (m : Int) = 0
    · exact back_ny lv tu nx lo sl a len cap zs aw lw cw m w hl hlz hR hZ hm h1 h2 hc hg
    · exact back_nn lv tu nx lo sl a len cap zs aw lw cw m w hl hlz hR hZ hm h1 h2 hc hg
end Go.Proofs.Ytbnlekheadmecaa
