/- Layer 9: NodeTells, walked. -/
import Derived.Test.YtbnlekheadmecaaNody
import Derived.Test.YtbnlekheadmecaaNodz
namespace Go.Proofs.Ytbnlekheadmecaa
open Go.RowKit Go.Shelf Classical
set_option linter.unusedVariables false

theorem Rl.rd {W : World} {v : Value} {zs : List Int} (h : Rl W v zs) (hl : zs.length ≤ 1000) : Rd W v zs := by
  obtain ⟨_, a, cap, rfl, h0, h3⟩ := h
  exact ⟨by simp, hl, a, cap, rfl, h0, h3⟩

set_option maxRecDepth 100000 in
set_option maxHeartbeats 4000000 in
theorem walk_NodeTells (lv tu nx lo : Int) (a : Option Addr) (len cap : Nat) (aw : Option Addr) (lw cw : Nat) (b x : Int) (d : Bool) (w : World) (hN : RowIn w a len cap) (hK : RowIn w aw lw cw) :
    Calls Try.prog 3 #[.agg #[.int .i64 lv, .int .i64 tu, .int .i64 nx, .int .i64 lo, .slice a len cap], .slice aw lw cw, .int .i64 b, .int .i64 x, .bool d] w fun e w' => e = .returned (.bool true) ∧ Below w.heap.size w w' := by
  have N0 : Hid (Nb (w.alloc (.cells #[.int .i64 lv, .int .i64 tu, .int .i64 nx, .int .i64 lo, .slice a len cap] 24)) w.heap.size lv tu nx lo (.slice a len cap)) := nb_new w lv tu nx lo _
  have H0 : Hid (Below w.heap.size w (w.alloc (.cells #[.int .i64 lv, .int .i64 tu, .int .i64 nx, .int .i64 lo, .slice a len cap] 24))) := (Below.refl _ _).alloc (Nat.le_refl _) _
  by_cases h1 : (len : Int) > 100
  · clear hN hK
    go_enter Try.func3, Try.ntmps3
    go_wp2_with (go_at_call 7; refine (awake_any _).mono ?_; rintro e w1 ⟨rfl, hb1⟩; obtain ⟨x0, x1, x2, x3, x4⟩ := (N0.out.below hb1).c)
    go_ret
    exact ⟨ret_bool rfl, bstep H0.out hb1⟩
  by_cases h2 : (lw : Int) > 300
  · clear hN hK
    go_enter Try.func3, Try.ntmps3
    go_wp2_with (go_at_call 7; refine (awake_any _).mono ?_; rintro e w1 ⟨rfl, hb1⟩; obtain ⟨x0, x1, x2, x3, x4⟩ := (N0.out.below hb1).c)
    go_ret
    exact ⟨ret_bool rfl, bstep H0.out hb1⟩
  obtain ⟨sl, hl, hR, -⟩ := hN (by omega)
  obtain ⟨zs, hlz, hZ, -⟩ := hK (by omega)
  have HR : Hid (Rd w (.slice a len cap) sl) := hR.rd (by omega)
  have HZ : Hid (Rd w (.slice aw lw cw) zs) := hZ.rd (by omega)
  clear hN hK hR hZ
  have k8 : Hid (∀ W, Below w.heap.size w W → Calls Try.prog 8 #[.agg #[.int .i64 lv, .int .i64 tu, .int .i64 nx, .int .i64 lo, .slice a len cap]] W fun e w' => ∃ v', e = .returned (.tuple #[v', .int .i64 (wnE ⟨lv, tu, nx, lo, sl⟩)]) ∧ Rd w' v' (wnL ⟨lv, tu, nx, lo, sl⟩) ∧ Below W.heap.size W w') := fun W hb => words_node ⟨lv, tu, nx, lo, sl⟩ _ W (HR.out.below hb)
  have k9 : Hid (∀ W, Below w.heap.size w W → Calls Try.prog 9 #[.agg #[.int .i64 lv, .int .i64 tu, .int .i64 nx, .int .i64 lo, .slice a len cap]] W fun e w' => ∃ v', e = .returned (.tuple #[v', .int .i64 (wnE ⟨lv, tu, nx, lo, sl⟩)]) ∧ Rd w' v' (wnL ⟨lv, tu, nx, lo, sl⟩) ∧ Below W.heap.size W w') := fun W hb => wordsR_node ⟨lv, tu, nx, lo, sl⟩ _ W (HR.out.below hb)
  have k10 : Hid (∀ W, Below w.heap.size w W → Calls Try.prog 10 #[.slice aw lw cw, .int .i64 b] W fun e w' => ∃ v', e = .returned (.tuple #[.agg #[.int .i64 (rnN zs b).lv, .int .i64 (rnN zs b).tu, .int .i64 (rnN zs b).nx, .int .i64 (rnN zs b).lo, v'], .int .i64 (rnE zs b)]) ∧ Rd w' v' (rnN zs b).sl ∧ Below W.heap.size W w') := fun W hb => read_any _ zs b W (HZ.out.below hb)
  have k11 : Hid (∀ W, Below w.heap.size w W → Calls Try.prog 11 #[.slice aw lw cw, .int .i64 b] W fun e w' => ∃ v', e = .returned (.tuple #[.agg #[.int .i64 (rnN zs b).lv, .int .i64 (rnN zs b).tu, .int .i64 (rnN zs b).nx, .int .i64 (rnN zs b).lo, v'], .int .i64 (rnE zs b)]) ∧ Rd w' v' (rnN zs b).sl ∧ Below W.heap.size W w') := fun W hb => readR_any _ zs b W (HZ.out.below hb)
  have k12 : Hid (∀ W, Calls Try.prog 12 #[.int .i64 b, .int .i64 x] W fun e w' => ∃ v, e = .returned (.tuple #[v, .int .i64 (nxE b x)]) ∧ RdS w' v (nxL b x) ∧ Below W.heap.size W w') := fun W => next_any b x W
  have k13 : Hid (∀ W, Calls Try.prog 13 #[.int .i64 b, .int .i64 x] W fun e w' => ∃ v, e = .returned (.tuple #[v, .int .i64 (nxE b x)]) ∧ RdS w' v (nxL b x) ∧ Below W.heap.size W w') := fun W => nextR_any b x W
  have k17 : Hid (∀ W, Below w.heap.size w W → Calls Try.prog 17 #[.agg #[.int .i64 lv, .int .i64 tu, .int .i64 nx, .int .i64 lo, .slice a len cap]] W fun e w' => e = .returned (.bool (nnB ⟨lv, tu, nx, lo, sl⟩)) ∧ Below W.heap.size W w') := fun W hb => check_node ⟨lv, tu, nx, lo, sl⟩ _ W (HR.out.below hb)
  have k18 : Hid (∀ W, Below w.heap.size w W → Calls Try.prog 18 #[.agg #[.int .i64 lv, .int .i64 tu, .int .i64 nx, .int .i64 lo, .slice a len cap]] W fun e w' => e = .returned (.bool (nnB ⟨lv, tu, nx, lo, sl⟩)) ∧ Below W.heap.size W w') := fun W hb => checkR_node ⟨lv, tu, nx, lo, sl⟩ _ W (HR.out.below hb)
  have k19 : Hid (∀ W, Below w.heap.size w W → Calls Try.prog 19 #[.int .i64 b, .agg #[.int .i64 lv, .int .i64 tu, .int .i64 nx, .int .i64 lo, .slice a len cap], .bool d] W fun e w' => ∃ v', e = .returned v' ∧ RdS w' v' (tnL b ⟨lv, tu, nx, lo, sl⟩ d) ∧ Below W.heap.size W w') := fun W hb => turn_any b ⟨lv, tu, nx, lo, sl⟩ d _ W (HR.out.below hb)
  have k20 : Hid (∀ W, Below w.heap.size w W → Calls Try.prog 20 #[.int .i64 b, .agg #[.int .i64 lv, .int .i64 tu, .int .i64 nx, .int .i64 lo, .slice a len cap], .bool d] W fun e w' => ∃ v', e = .returned v' ∧ RdS w' v' (tnL b ⟨lv, tu, nx, lo, sl⟩ d) ∧ Below W.heap.size W w') := fun W hb => turnR_any b ⟨lv, tu, nx, lo, sl⟩ d _ W (HR.out.below hb)
  generalize wnE ⟨lv, tu, nx, lo, sl⟩ = E1 at k8 k9
  generalize wnL ⟨lv, tu, nx, lo, sl⟩ = L1 at k8 k9
  generalize rnE zs b = E2 at k10 k11
  generalize rnN zs b = y at k10 k11
  generalize nxE b x = E3 at k12 k13
  generalize nxL b x = L3 at k12 k13
  generalize nnB ⟨lv, tu, nx, lo, sl⟩ = B1 at k17 k18
  generalize tnL b ⟨lv, tu, nx, lo, sl⟩ d = L4 at k19 k20
  have ks : Hid (∀ (v v' : Value) W, Rd W v y.sl → Rd W v' y.sl → Calls Try.prog 15 #[.agg #[.int .i64 y.lv, .int .i64 y.tu, .int .i64 y.nx, .int .i64 y.lo, v], .agg #[.int .i64 y.lv, .int .i64 y.tu, .int .i64 y.nx, .int .i64 y.lo, v']] W fun e w' => e = .returned (.bool true) ∧ Below W.heap.size W w') := fun v v' W h h' => (by have := same_any y y v v' W h h'; rwa [decide_eq_true rfl] at this)
  have hbb : (B1 == B1) = true := by simp
  clear HR HZ hl hlz
  go_enter Try.func3, Try.ntmps3
  go_wp2_with (first
    | (go_at_call 7; refine (awake_any _).mono ?_; rintro e w1 ⟨rfl, hb1⟩; have H1 : Hid (Below (w.alloc (.cells #[.int .i64 lv, .int .i64 tu, .int .i64 nx, .int .i64 lo, .slice a len cap] 24)).heap.size (w.alloc (.cells #[.int .i64 lv, .int .i64 tu, .int .i64 nx, .int .i64 lo, .slice a len cap] 24)) w1) := hb1; obtain ⟨x0, x1, x2, x3, x4⟩ := (N0.out.below H1.out).c; clear hb1)
    | (go_at_call 8; refine (k8.out _ (bstep H0.out H1.out)).mono ?_; rintro e w2 ⟨v2, rfl, r2, hb2⟩; have R2 : Hid (Rd w2 v2 L1) := r2; have H2 : Hid (Below (w.alloc (.cells #[.int .i64 lv, .int .i64 tu, .int .i64 nx, .int .i64 lo, .slice a len cap] 24)).heap.size (w.alloc (.cells #[.int .i64 lv, .int .i64 tu, .int .i64 nx, .int .i64 lo, .slice a len cap] 24)) w2) := bstep H1.out hb2; clear x0 x1 x2 x3 x4; obtain ⟨x0, x1, x2, x3, x4⟩ := (N0.out.below H2.out).c; clear hb2 r2)
    | (go_at_call 9; refine (k9.out _ (bstep H0.out H2.out)).mono ?_; rintro e w3 ⟨v3, rfl, r3, hb3⟩; have R3 : Hid (Rd w3 v3 L1) := r3; have R23 : Hid (Rd w3 v2 L1) := R2.out.below hb3; have H3 : Hid (Below (w.alloc (.cells #[.int .i64 lv, .int .i64 tu, .int .i64 nx, .int .i64 lo, .slice a len cap] 24)).heap.size (w.alloc (.cells #[.int .i64 lv, .int .i64 tu, .int .i64 nx, .int .i64 lo, .slice a len cap] 24)) w3) := bstep H2.out hb3; clear x0 x1 x2 x3 x4 hb3 r3)
    | (go_at_call 10; refine (k10.out _ (bstep H0.out H3.out)).mono ?_; rintro e w4 ⟨v4, rfl, r4, hb4⟩; obtain ⟨_, a4, c4, rfl⟩ := r4.form; have J4 : Hid (Below w3.heap.size w3 (w4.alloc (.cells #[.int .i64 y.lv, .int .i64 y.tu, .int .i64 y.nx, .int .i64 y.lo, .slice a4 y.sl.length c4] 24))) := hb4.alloc hb4.size _; have X4 : Hid (Nb (w4.alloc (.cells #[.int .i64 y.lv, .int .i64 y.tu, .int .i64 y.nx, .int .i64 y.lo, .slice a4 y.sl.length c4] 24)) w4.heap.size y.lv y.tu y.nx y.lo (.slice a4 y.sl.length c4)) := nb_new w4 _ _ _ _ _; have R4 : Hid (Rd (w4.alloc (.cells #[.int .i64 y.lv, .int .i64 y.tu, .int .i64 y.nx, .int .i64 y.lo, .slice a4 y.sl.length c4] 24)) (.slice a4 y.sl.length c4) y.sl) := r4.below ((Below.refl _ _).alloc (Nat.le_refl _) _); have H4 : Hid (Below (w.alloc (.cells #[.int .i64 lv, .int .i64 tu, .int .i64 nx, .int .i64 lo, .slice a len cap] 24)).heap.size (w.alloc (.cells #[.int .i64 lv, .int .i64 tu, .int .i64 nx, .int .i64 lo, .slice a len cap] 24)) (w4.alloc (.cells #[.int .i64 y.lv, .int .i64 y.tu, .int .i64 y.nx, .int .i64 y.lo, .slice a4 y.sl.length c4] 24))) := bstep H3.out J4.out; clear hb4 r4)
    | (go_at_call 11; refine (k11.out _ (bstep H0.out H4.out)).mono ?_; rintro e w5 ⟨v5, rfl, r5, hb5⟩; obtain ⟨_, a5, c5, rfl⟩ := r5.form; have K5 : Hid (Below (w4.alloc (.cells #[.int .i64 y.lv, .int .i64 y.tu, .int .i64 y.nx, .int .i64 y.lo, .slice a4 y.sl.length c4] 24)).heap.size (w4.alloc (.cells #[.int .i64 y.lv, .int .i64 y.tu, .int .i64 y.nx, .int .i64 y.lo, .slice a4 y.sl.length c4] 24)) (w5.alloc (.cells #[.int .i64 y.lv, .int .i64 y.tu, .int .i64 y.nx, .int .i64 y.lo, .slice a5 y.sl.length c5] 24))) := hb5.alloc hb5.size _; have X5 : Hid (Nb (w5.alloc (.cells #[.int .i64 y.lv, .int .i64 y.tu, .int .i64 y.nx, .int .i64 y.lo, .slice a5 y.sl.length c5] 24)) w5.heap.size y.lv y.tu y.nx y.lo (.slice a5 y.sl.length c5)) := nb_new w5 _ _ _ _ _; have R5 : Hid (Rd (w5.alloc (.cells #[.int .i64 y.lv, .int .i64 y.tu, .int .i64 y.nx, .int .i64 y.lo, .slice a5 y.sl.length c5] 24)) (.slice a5 y.sl.length c5) y.sl) := r5.below ((Below.refl _ _).alloc (Nat.le_refl _) _); have H5 : Hid (Below (w.alloc (.cells #[.int .i64 lv, .int .i64 tu, .int .i64 nx, .int .i64 lo, .slice a len cap] 24)).heap.size (w.alloc (.cells #[.int .i64 lv, .int .i64 tu, .int .i64 nx, .int .i64 lo, .slice a len cap] 24)) (w5.alloc (.cells #[.int .i64 y.lv, .int .i64 y.tu, .int .i64 y.nx, .int .i64 y.lo, .slice a5 y.sl.length c5] 24))) := bstep H4.out K5.out; clear hb5 r5)
    | (go_at_call 12; refine (k12.out _).mono ?_; rintro e w6 ⟨v6, rfl, r6, hb6⟩; have R6 : Hid (RdS w6 v6 L3) := r6; have M6 : Hid (Below (w5.alloc (.cells #[.int .i64 y.lv, .int .i64 y.tu, .int .i64 y.nx, .int .i64 y.lo, .slice a5 y.sl.length c5] 24)).heap.size (w5.alloc (.cells #[.int .i64 y.lv, .int .i64 y.tu, .int .i64 y.nx, .int .i64 y.lo, .slice a5 y.sl.length c5] 24)) w6) := hb6; clear hb6 r6)
    | (go_at_call 13; refine (k13.out _).mono ?_; rintro e w7 ⟨v7, rfl, r7, hb7⟩; have R7 : Hid (RdS w7 v7 L3) := r7; have R67 : Hid (RdS w7 v6 L3) := R6.out.below hb7; have M7 : Hid (Below (w5.alloc (.cells #[.int .i64 y.lv, .int .i64 y.tu, .int .i64 y.nx, .int .i64 y.lo, .slice a5 y.sl.length c5] 24)).heap.size (w5.alloc (.cells #[.int .i64 y.lv, .int .i64 y.tu, .int .i64 y.nx, .int .i64 y.lo, .slice a5 y.sl.length c5] 24)) w7) := bstep M6.out hb7; have K7 : Hid (Below (w4.alloc (.cells #[.int .i64 y.lv, .int .i64 y.tu, .int .i64 y.nx, .int .i64 y.lo, .slice a4 y.sl.length c4] 24)).heap.size (w4.alloc (.cells #[.int .i64 y.lv, .int .i64 y.tu, .int .i64 y.nx, .int .i64 y.lo, .slice a4 y.sl.length c4] 24)) w7) := bstep K5.out M7.out; clear hb7 r7)
    | (go_at_call 14; refine (numbers_any _ _ L1 L1 _ ((R23.out.below J4.out).below K7.out) ((R3.out.below J4.out).below K7.out)).mono ?_; rintro e w8 ⟨rfl, hb8⟩; rw [decide_eq_true rfl]; have N8 : Hid (Below w7.heap.size w7 w8) := hb8; obtain ⟨y0, y1, y2, y3, y4⟩ := (X4.out.below (bstep K7.out hb8)).c; obtain ⟨z0, z1, z2, z3, z4⟩ := (X5.out.below (bstep M7.out hb8)).c; clear hb8)
    | (go_at_call 15; refine (ks.out _ _ _ (R4.out.below (bstep K7.out N8.out)) (R5.out.below (bstep M7.out N8.out))).mono ?_; rintro e w9 ⟨rfl, hb9⟩; have N9 : Hid (Below w7.heap.size w7 w9) := bstep N8.out hb9; clear hb9 y0 y1 y2 y3 y4 z0 z1 z2 z3 z4)
    | (go_at_call 16; refine (sameS_any _ _ L3 L3 _ (R67.out.below N9.out) (R7.out.below N9.out)).mono ?_; rintro e w10 ⟨rfl, hb10⟩; rw [decide_eq_true rfl]; have H10 : Hid (Below (w.alloc (.cells #[.int .i64 lv, .int .i64 tu, .int .i64 nx, .int .i64 lo, .slice a len cap] 24)).heap.size (w.alloc (.cells #[.int .i64 lv, .int .i64 tu, .int .i64 nx, .int .i64 lo, .slice a len cap] 24)) w10) := bstep (bstep (bstep H4.out K7.out) N9.out) hb10; clear hb10))
  have H11 : Hid (Below (w.alloc (.cells #[.int .i64 lv, .int .i64 tu, .int .i64 nx, .int .i64 lo, .slice a len cap] 24)).heap.size (w.alloc (.cells #[.int .i64 lv, .int .i64 tu, .int .i64 nx, .int .i64 lo, .slice a len cap] 24)) w10.drew) := H10.out.drew
  have S0 : Hid (SN w10.drew w.heap.size lv tu nx lo (.slice a len cap)) := SN.below N0.out H11.out
  go_region_held3 (fun W2 => W2.cell? ⟨w.heap.size, 0, none⟩ = some (.int .i64 lv) ∧ W2.cell? ⟨w.heap.size, 1, none⟩ = some (.int .i64 tu) ∧ W2.cell? ⟨w.heap.size, 2, none⟩ = some (.int .i64 nx) ∧ W2.cell? ⟨w.heap.size, 3, none⟩ = some (.int .i64 lo) ∧ W2.cell? ⟨w.heap.size, 4, none⟩ = some (.slice a len cap))
    (first | with_reducible exact S0.out | with_reducible exact S1.out | with_reducible exact S2.out | with_reducible exact S3.out | with_reducible exact S4.out | with_reducible exact S5.out)
    (first
      | (go_at_call 17; refine (k17.out _ (bstep H0.out H11.out)).mono ?_; rintro e w12 ⟨rfl, hb⟩; have H12 : Hid (Below (w.alloc (.cells #[.int .i64 lv, .int .i64 tu, .int .i64 nx, .int .i64 lo, .slice a len cap] 24)).heap.size (w.alloc (.cells #[.int .i64 lv, .int .i64 tu, .int .i64 nx, .int .i64 lo, .slice a len cap] 24)) w12) := bstep H11.out hb; have S1 : Hid (SN w12 w.heap.size lv tu nx lo (.slice a len cap)) := SN.below N0.out H12.out; clear hb)
      | (go_at_call 18; refine (k18.out _ (bstep H0.out H12.out)).mono ?_; rintro e w13 ⟨rfl, hb⟩; have H13 : Hid (Below (w.alloc (.cells #[.int .i64 lv, .int .i64 tu, .int .i64 nx, .int .i64 lo, .slice a len cap] 24)).heap.size (w.alloc (.cells #[.int .i64 lv, .int .i64 tu, .int .i64 nx, .int .i64 lo, .slice a len cap] 24)) w13) := bstep H12.out hb; have S2 : Hid (SN w13 w.heap.size lv tu nx lo (.slice a len cap)) := SN.below N0.out H13.out; clear hb)
      | (go_at_call 19; refine (k19.out _ (bstep H0.out H13.out)).mono ?_; rintro e w14 ⟨v14, rfl, r14, hb⟩; have R14 : Hid (RdS w14 v14 L4) := r14; have H14 : Hid (Below (w.alloc (.cells #[.int .i64 lv, .int .i64 tu, .int .i64 nx, .int .i64 lo, .slice a len cap] 24)).heap.size (w.alloc (.cells #[.int .i64 lv, .int .i64 tu, .int .i64 nx, .int .i64 lo, .slice a len cap] 24)) w14) := bstep H13.out hb; have S3 : Hid (SN w14 w.heap.size lv tu nx lo (.slice a len cap)) := SN.below N0.out H14.out; clear hb r14)
      | (go_at_call 20; refine (k20.out _ (bstep H0.out H14.out)).mono ?_; rintro e w15 ⟨v15, rfl, r15, hb⟩; have R15 : Hid (RdS w15 v15 L4) := r15; have RR : Hid (RdS w15 v14 L4) := R14.out.below hb; have H15 : Hid (Below (w.alloc (.cells #[.int .i64 lv, .int .i64 tu, .int .i64 nx, .int .i64 lo, .slice a len cap] 24)).heap.size (w.alloc (.cells #[.int .i64 lv, .int .i64 tu, .int .i64 nx, .int .i64 lo, .slice a len cap] 24)) w15) := bstep H14.out hb; have S4 : Hid (SN w15 w.heap.size lv tu nx lo (.slice a len cap)) := SN.below N0.out H15.out; clear hb r15)
      | (go_at_call 16; refine (sameS_any _ _ L4 L4 _ RR.out R15.out).mono ?_; rintro e w16 ⟨rfl, hb⟩; rw [decide_eq_true rfl]; have H16 : Hid (Below (w.alloc (.cells #[.int .i64 lv, .int .i64 tu, .int .i64 nx, .int .i64 lo, .slice a len cap] 24)).heap.size (w.alloc (.cells #[.int .i64 lv, .int .i64 tu, .int .i64 nx, .int .i64 lo, .slice a len cap] 24)) w16) := bstep H15.out hb; have S5 : Hid (SN w16 w.heap.size lv tu nx lo (.slice a len cap)) := SN.below N0.out H16.out; clear hb))
  all_goals
    go_wp2
    go_ret
    exact ⟨ret_bool rfl, bstep H0.out H16.out⟩
end Go.Proofs.Ytbnlekheadmecaa
