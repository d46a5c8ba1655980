/- Layer 9: NodeTurns, walked. -/
import Derived.Test.YtbnlekheadmecaaNodTells
import Derived.Test.YtbnlekheadmecaaNodq
namespace Go.Proofs.Ytbnlekheadmecaa
open Go.RowKit Go.Shelf Classical
set_option linter.unusedVariables false

set_option maxRecDepth 100000 in
theorem check_long (lv tu nx lo : Int) (a : Option Addr) (len cap : Nat) (w : World) (h : (len : Int) > 13) : Calls Try.prog 17 #[.agg #[.int .i64 lv, .int .i64 tu, .int .i64 nx, .int .i64 lo, .slice a len cap]] w fun e w' => e = .returned (.bool false) ∧ Below w.heap.size w w' := by
  go_enter Try.func17, Try.ntmps17
  go_wp2
  go_ret
  exact ⟨ret_bool rfl, (Below.refl _ _).alloc (Nat.le_refl _) _⟩
set_option maxRecDepth 100000 in
theorem words_long (lv tu nx lo : Int) (a : Option Addr) (len cap : Nat) (w : World) (h : (len : Int) > 13) : Calls Try.prog 8 #[.agg #[.int .i64 lv, .int .i64 tu, .int .i64 nx, .int .i64 lo, .slice a len cap]] w fun e w' => ∃ v', e = .returned (.tuple #[v', .int .i64 90]) ∧ Below w.heap.size w w' := by
  have HB : Hid (Below w.heap.size w (w.alloc (.cells #[.int .i64 lv, .int .i64 tu, .int .i64 nx, .int .i64 lo, .slice a len cap] 24))) := (Below.refl _ _).alloc (Nat.le_refl _) _
  go_enter Try.func8, Try.ntmps8
  go_wp2_with (first
    | (go_at_call 17; refine (check_long lv tu nx lo a len cap _ h).mono ?_; rintro e w1 ⟨rfl, hb1⟩))
  refine bodyPost_ret (results_tmp2 Try.results8 _ _ _) rfl ?_
  exact ⟨_, rfl, bstep HB.out hb1⟩

set_option maxRecDepth 100000 in
set_option maxHeartbeats 1000000 in
theorem turns_e1 (lv tu nx lo : Int) (a : Option Addr) (len cap : Nat) (m1 : Nat) (d : Bool) (m2 : Nat) (ak : Option Addr) (nk ck : Nat) (w : World) (E : Int) (c1 : (len : Int) > 100)
    (k8 : ∀ W, Below w.heap.size w W → Calls Try.prog 8 #[.agg #[.int .i64 lv, .int .i64 tu, .int .i64 nx, .int .i64 lo, .slice a len cap]] W fun e w' => ∃ v', e = .returned (.tuple #[v', .int .i64 E]) ∧ Below W.heap.size W w') :
    Calls Try.prog 5 #[.agg #[.int .i64 lv, .int .i64 tu, .int .i64 nx, .int .i64 lo, .slice a len cap], .int .u8 (m1 : Int), .bool d, .int .u8 (m2 : Int), .slice ak nk ck] w fun e w' => e = .returned (.bool true) ∧ Below w.heap.size w w' := by
  have N0 : Hid (Nb (w.alloc (.cells #[.int .i64 lv, .int .i64 tu, .int .i64 nx, .int .i64 lo, .slice a len cap] 24)) w.heap.size lv tu nx lo (.slice a len cap)) := nb_new w lv tu nx lo _
  have H0 : Hid (Below w.heap.size w (w.alloc (.cells #[.int .i64 lv, .int .i64 tu, .int .i64 nx, .int .i64 lo, .slice a len cap] 24))) := (Below.refl _ _).alloc (Nat.le_refl _) _
  have k8 : Hid (∀ W, Below w.heap.size w W → Calls Try.prog 8 #[.agg #[.int .i64 lv, .int .i64 tu, .int .i64 nx, .int .i64 lo, .slice a len cap]] W fun e w' => ∃ v', e = .returned (.tuple #[v', .int .i64 E]) ∧ Below W.heap.size W w') := k8
  go_enter Try.func5, Try.ntmps5
  go_wp2_with (first
    | (go_at_call 7; refine (awake_any _).mono ?_; rintro e w1 ⟨rfl, hb1⟩; have H1 : Hid (Below (w.alloc (.cells #[.int .i64 lv, .int .i64 tu, .int .i64 nx, .int .i64 lo, .slice a len cap] 24)).heap.size (w.alloc (.cells #[.int .i64 lv, .int .i64 tu, .int .i64 nx, .int .i64 lo, .slice a len cap] 24)) w1) := hb1; obtain ⟨x0, x1, x2, x3, x4⟩ := (N0.out.below hb1).c; clear hb1)
    | (go_at_call 8; refine (k8.out _ (bstep H0.out H1.out)).mono ?_; rintro e w2 ⟨v2, rfl, hb2⟩; have H2 : Hid (Below (w.alloc (.cells #[.int .i64 lv, .int .i64 tu, .int .i64 nx, .int .i64 lo, .slice a len cap] 24)).heap.size (w.alloc (.cells #[.int .i64 lv, .int .i64 tu, .int .i64 nx, .int .i64 lo, .slice a len cap] 24)) w2) := bstep H1.out hb2; clear x0 x1 x2 x3 x4; obtain ⟨x0, x1, x2, x3, x4⟩ := (N0.out.below H2.out).c; clear hb2))
  go_ret
  exact ⟨ret_bool rfl, bstep H0.out H2.out⟩
set_option maxRecDepth 100000 in
set_option maxHeartbeats 1000000 in
theorem turns_e2 (lv tu nx lo : Int) (a : Option Addr) (len cap : Nat) (m1 : Nat) (d : Bool) (m2 : Nat) (ak : Option Addr) (nk ck : Nat) (w : World) (E : Int) (c1 : ¬ (len : Int) > 100) (c2 : (nk : Int) > 20)
    (k8 : ∀ W, Below w.heap.size w W → Calls Try.prog 8 #[.agg #[.int .i64 lv, .int .i64 tu, .int .i64 nx, .int .i64 lo, .slice a len cap]] W fun e w' => ∃ v', e = .returned (.tuple #[v', .int .i64 E]) ∧ Below W.heap.size W w') :
    Calls Try.prog 5 #[.agg #[.int .i64 lv, .int .i64 tu, .int .i64 nx, .int .i64 lo, .slice a len cap], .int .u8 (m1 : Int), .bool d, .int .u8 (m2 : Int), .slice ak nk ck] w fun e w' => e = .returned (.bool true) ∧ Below w.heap.size w w' := by
  have N0 : Hid (Nb (w.alloc (.cells #[.int .i64 lv, .int .i64 tu, .int .i64 nx, .int .i64 lo, .slice a len cap] 24)) w.heap.size lv tu nx lo (.slice a len cap)) := nb_new w lv tu nx lo _
  have H0 : Hid (Below w.heap.size w (w.alloc (.cells #[.int .i64 lv, .int .i64 tu, .int .i64 nx, .int .i64 lo, .slice a len cap] 24))) := (Below.refl _ _).alloc (Nat.le_refl _) _
  have k8 : Hid (∀ W, Below w.heap.size w W → Calls Try.prog 8 #[.agg #[.int .i64 lv, .int .i64 tu, .int .i64 nx, .int .i64 lo, .slice a len cap]] W fun e w' => ∃ v', e = .returned (.tuple #[v', .int .i64 E]) ∧ Below W.heap.size W w') := k8
  go_enter Try.func5, Try.ntmps5
  go_wp2_with (first
    | (go_at_call 7; refine (awake_any _).mono ?_; rintro e w1 ⟨rfl, hb1⟩; have H1 : Hid (Below (w.alloc (.cells #[.int .i64 lv, .int .i64 tu, .int .i64 nx, .int .i64 lo, .slice a len cap] 24)).heap.size (w.alloc (.cells #[.int .i64 lv, .int .i64 tu, .int .i64 nx, .int .i64 lo, .slice a len cap] 24)) w1) := hb1; obtain ⟨x0, x1, x2, x3, x4⟩ := (N0.out.below hb1).c; clear hb1)
    | (go_at_call 8; refine (k8.out _ (bstep H0.out H1.out)).mono ?_; rintro e w2 ⟨v2, rfl, hb2⟩; have H2 : Hid (Below (w.alloc (.cells #[.int .i64 lv, .int .i64 tu, .int .i64 nx, .int .i64 lo, .slice a len cap] 24)).heap.size (w.alloc (.cells #[.int .i64 lv, .int .i64 tu, .int .i64 nx, .int .i64 lo, .slice a len cap] 24)) w2) := bstep H1.out hb2; clear x0 x1 x2 x3 x4; obtain ⟨x0, x1, x2, x3, x4⟩ := (N0.out.below H2.out).c; clear hb2))
  go_ret
  exact ⟨ret_bool rfl, bstep H0.out H2.out⟩
set_option maxRecDepth 100000 in
set_option maxHeartbeats 1000000 in
theorem turns_e3 (lv tu nx lo : Int) (a : Option Addr) (len cap : Nat) (m1 : Nat) (d : Bool) (m2 : Nat) (ak : Option Addr) (nk ck : Nat) (w : World) (c1 : ¬ (len : Int) > 100) (c2 : ¬ (nk : Int) > 20)
    (k8 : ∀ W, Below w.heap.size w W → Calls Try.prog 8 #[.agg #[.int .i64 lv, .int .i64 tu, .int .i64 nx, .int .i64 lo, .slice a len cap]] W fun e w' => ∃ v', e = .returned (.tuple #[v', .int .i64 90]) ∧ Below W.heap.size W w') :
    Calls Try.prog 5 #[.agg #[.int .i64 lv, .int .i64 tu, .int .i64 nx, .int .i64 lo, .slice a len cap], .int .u8 (m1 : Int), .bool d, .int .u8 (m2 : Int), .slice ak nk ck] w fun e w' => e = .returned (.bool true) ∧ Below w.heap.size w w' := by
  have N0 : Hid (Nb (w.alloc (.cells #[.int .i64 lv, .int .i64 tu, .int .i64 nx, .int .i64 lo, .slice a len cap] 24)) w.heap.size lv tu nx lo (.slice a len cap)) := nb_new w lv tu nx lo _
  have H0 : Hid (Below w.heap.size w (w.alloc (.cells #[.int .i64 lv, .int .i64 tu, .int .i64 nx, .int .i64 lo, .slice a len cap] 24))) := (Below.refl _ _).alloc (Nat.le_refl _) _
  have k8 : Hid (∀ W, Below w.heap.size w W → Calls Try.prog 8 #[.agg #[.int .i64 lv, .int .i64 tu, .int .i64 nx, .int .i64 lo, .slice a len cap]] W fun e w' => ∃ v', e = .returned (.tuple #[v', .int .i64 90]) ∧ Below W.heap.size W w') := k8
  go_enter Try.func5, Try.ntmps5
  go_wp2_with (first
    | (go_at_call 7; refine (awake_any _).mono ?_; rintro e w1 ⟨rfl, hb1⟩; have H1 : Hid (Below (w.alloc (.cells #[.int .i64 lv, .int .i64 tu, .int .i64 nx, .int .i64 lo, .slice a len cap] 24)).heap.size (w.alloc (.cells #[.int .i64 lv, .int .i64 tu, .int .i64 nx, .int .i64 lo, .slice a len cap] 24)) w1) := hb1; obtain ⟨x0, x1, x2, x3, x4⟩ := (N0.out.below hb1).c; clear hb1)
    | (go_at_call 8; refine (k8.out _ (bstep H0.out H1.out)).mono ?_; rintro e w2 ⟨v2, rfl, hb2⟩; have H2 : Hid (Below (w.alloc (.cells #[.int .i64 lv, .int .i64 tu, .int .i64 nx, .int .i64 lo, .slice a len cap] 24)).heap.size (w.alloc (.cells #[.int .i64 lv, .int .i64 tu, .int .i64 nx, .int .i64 lo, .slice a len cap] 24)) w2) := bstep H1.out hb2; clear x0 x1 x2 x3 x4; obtain ⟨x0, x1, x2, x3, x4⟩ := (N0.out.below H2.out).c; clear hb2))
  go_ret
  exact ⟨ret_bool rfl, bstep H0.out H2.out⟩
def Mk (m : Nat) (k : Int) : Prop := (m : Int) % 3 = k ∧ (m : Int).tmod 3 = k ∧ m % 3 = k.toNat ∧ IntKind.i64.wrap (m : Int) = (m : Int) ∧ IntKind.i64.wrap 3 = 3 ∧ IntKind.i64.wrap k = k
theorem mk_cases (m : Nat) (h : m < 256) : ∃ k : Int, (k = 0 ∨ k = 1 ∨ k = 2) ∧ Mk m k := by
  have h3 : m % 3 = 0 ∨ m % 3 = 1 ∨ m % 3 = 2 := by omega
  have e : (m : Int).tmod 3 = (m : Int) % 3 := Int.tmod_eq_emod_of_nonneg (by omega)
  have w1 : IntKind.i64.wrap (m : Int) = (m : Int) := by rw [IntKind.wrap_i64]; omega
  rcases h3 with h | h | h
  · exact ⟨0, .inl rfl, by omega, by rw [e]; omega, by rw [h]; rfl, w1, by rfl, by rfl⟩
  · exact ⟨1, .inr (.inl rfl), by omega, by rw [e]; omega, by rw [h]; rfl, w1, by rfl, by rfl⟩
  · exact ⟨2, .inr (.inr rfl), by omega, by rw [e]; omega, by rw [h]; rfl, w1, by rfl, by rfl⟩
theorem RdM.formsL {W : World} {va vb vc : Value} {X : List Int} {n : Nat} (h : RdM W va vb vc (allM X)) (hn : X.length = n) : ∃ a1 c1 a2 c2 a3 c3, va = .slice a1 n c1 ∧ vb = .slice a2 n c2 ∧ vc = .slice a3 0 c3 := by
  subst hn
  exact h.forms
theorem new_all (va : Value) (l : List Int) (w : World) (hR : Rd w va l) (h : l.length ≤ 4096) (h8 : l.length % 8 = 0) : Calls Try.prog 21 #[va] w fun e w' => ∃ a1 c1 a2 c2 a3 c3, e = .returned (.tuple #[.agg #[.slice a1 l.length c1, .slice a2 l.length c2, .slice a3 0 c3], .int .i64 0]) ∧ RdM w' (.slice a1 l.length c1) (.slice a2 l.length c2) (.slice a3 0 c3) (allM l) ∧ Below w.heap.size w w' := by
  refine (new_any va l w hR).mono ?_
  rintro e w' ⟨v1, v2, v3, rfl, R, b⟩
  have hm : mayB l.length = true := decide_eq_true ⟨h, h8⟩
  have h1 : newM l = allM l := by unfold newM; rw [hm]; rfl
  have h2 : newE l = 0 := by unfold newE; rw [hm]; rfl
  rw [h1] at R
  rw [h2]
  obtain ⟨a1, c1, a2, c2, a3, c3, rfl, rfl, rfl⟩ := R.formsL rfl
  exact ⟨a1, c1, a2, c2, a3, c3, rfl, R, b⟩
theorem len_tn (b : Int) (n : Nd) (d : Bool) : (tnL b n d).length = if tnB b n d then 1 else 0 := by
  unfold tnL
  split <;> rfl
/-- The Turn behind: what is wanted, and what it is for. -/
theorem turn_want {n : Nd} (d : Bool) (h : May n) : (¬ n.tu + ((tnL 1 n d).length : Int) > 1099511627776 → xtI n d = n.tu + ((tnL 1 n d).length : Int)) ∧ (n.tu + ((tnL 1 n d).length : Int) > 1099511627776 → xtI n d = 1) ∧ (tnL 1 n d).length ≤ 1 ∧ 0 ≤ xtI n d ∧ xtI n d ≤ 1099511627776 ∧ decide (xtI n d % 2 = 1) = d := by
  have h0 := h.t0
  have h9 := h.t9
  rw [len_tn]
  have hlk : lkB 1 = true := rfl
  have hx : xtI n d = if tnB 1 n d then tnI n.tu else n.tu := rfl
  rw [hx]
  cases ht : tnB 1 n d with
  | true =>
    have hd : (decide (n.tu % 2 = 1) != d) = true := by
      unfold tnB at ht
      rw [hlk, nnB_iff.2 h] at ht
      simpa using ht
    simp only [if_true]
    unfold tnI
    refine ⟨by omega, by omega, by omega, by omega, by omega, ?_⟩
    by_cases hp : n.tu % 2 = 1
    · rw [decide_eq_true hp] at hd
      cases d
      · exact decide_eq_false (by omega)
      · cases hd
    · rw [decide_eq_false hp] at hd
      cases d
      · cases hd
      · exact decide_eq_true (by omega)
  | false =>
    have hd : (decide (n.tu % 2 = 1) != d) = false := by
      unfold tnB at ht
      rw [hlk, nnB_iff.2 h] at ht
      simpa using ht
    simp only [Bool.false_eq_true, if_false]
    refine ⟨by omega, by omega, by omega, by omega, by omega, ?_⟩
    simpa using hd

set_option maxRecDepth 100000 in
set_option maxHeartbeats 4000000 in
theorem turns_ns (lv tu nx lo : Int) (sl : List Int) (a : Option Addr) (len cap : Nat) (m1 : Nat) (d : Bool) (m2 : Nat) (ak : Option Addr) (nk ck : Nat) (keep : List Int) (kk : Int) (w : World) (hl : sl.length = len) (hR : Rd w (.slice a len cap) sl) (hK : Rd w (.slice ak nk ck) keep) (hBd : Bd keep) (c1 : ¬ (len : Int) > 100) (c2 : ¬ (nk : Int) > 20) (hc : nnB ⟨lv, tu, nx, lo, sl⟩ = true) (h1 : m1 < 256) (hkk : kk = 0 ∨ kk = 1 ∨ kk = 2) (hMk : Mk m2 kk)
    (R : List Int) (hRe : R = mmL ⟨lv, tu, nx, lo, sl⟩) (hcs : csP (allM (mmL ⟨lv, tu, nx, lo, sl⟩)) [⟨1, 17, (m1 : Int)⟩, ⟨2, 2, 0⟩] kk keep = R) (ho : ¬ tu + ((tnL 1 ⟨lv, tu, nx, lo, sl⟩ d).length : Int) > 1099511627776) :
    Calls Try.prog 5 #[.agg #[.int .i64 lv, .int .i64 tu, .int .i64 nx, .int .i64 lo, .slice a len cap], .int .u8 (m1 : Int), .bool d, .int .u8 (m2 : Int), .slice ak nk ck] w fun e w' => e = .returned (.bool true) ∧ Below w.heap.size w w' := by
  obtain ⟨i0, hi, hz0, hz1, hz2⟩ := info_parts Try.info3
  have hM := nnB_iff.1 hc
  obtain ⟨g1, g2, g3, g4, g5, g6⟩ := turn_want d hM
  obtain ⟨tk1, tk2⟩ := turn_kept d hM
  obtain ⟨nk1, -⟩ := next_either ⟨lv, tu, nx, lo, sl⟩ (m1 : Int) keep kk hM hkk
  have hlen := mmL_length hM.len
  obtain ⟨xt, hxt⟩ : ∃ xt, xtI ⟨lv, tu, nx, lo, sl⟩ d = xt := ⟨_, rfl⟩
  rw [hxt] at g1 g2 g4 g5 g6 tk2
  dsimp only at g1 g2 g3 tk2
  have hM2 : May ⟨lv, xt, nx, lo, sl⟩ := ⟨hM.len, hM.l0, hM.l9, g4, g5, hM.x0, hM.x9, hM.w0, hM.w9, hM.sl⟩
  have hM3 : May ⟨lv, tu, nx, lo, sl⟩ := ⟨hM.len, hM.l0, hM.l9, hM.t0, hM.t9, by exact hM.x0, by exact hM.x9, hM.w0, hM.w9, hM.sl⟩
  have t0 := hM.t0
  have t9 := hM.t9
  dsimp only at t0 t9
  have N0 : Hid (Nb (w.alloc (.cells #[.int .i64 lv, .int .i64 tu, .int .i64 nx, .int .i64 lo, .slice a len cap] 24)) w.heap.size lv tu nx lo (.slice a len cap)) := nb_new w lv tu nx lo _
  have H0 : Hid (Below w.heap.size w (w.alloc (.cells #[.int .i64 lv, .int .i64 tu, .int .i64 nx, .int .i64 lo, .slice a len cap] 24))) := (Below.refl _ _).alloc (Nat.le_refl _) _
  have HR : Hid (Rd w (.slice a len cap) sl) := hR
  have HK : Hid (Rd w (.slice ak nk ck) keep) := hK
  have kx : Hid (∀ v W, Rd W v (mmL ⟨lv, xt, nx, lo, sl⟩) → Calls Try.prog 10 #[v, .int .i64 1] W fun e w' => ∃ a c, e = .returned (.tuple #[.agg #[.int .i64 lv, .int .i64 xt, .int .i64 nx, .int .i64 lo, .slice a len c], .int .i64 0]) ∧ Rd w' (.slice a len c) sl ∧ Below W.heap.size W w') := fun v W h => (by refine (read_any v _ 1 W h).mono ?_; rw [mmL, (rn_two hM2).1, (rn_two hM2).2]; rintro e w' ⟨v', rfl, r, hb⟩; obtain ⟨_, a, c, rfl⟩ := r.form; dsimp only at r ⊢; rw [hl] at r ⊢; exact ⟨a, c, rfl, r, hb⟩)
  have ky : Hid (∀ v W, Rd W v R → Calls Try.prog 10 #[v, .int .i64 1] W fun e w' => ∃ a c, e = .returned (.tuple #[.agg #[.int .i64 lv, .int .i64 tu, .int .i64 nx, .int .i64 lo, .slice a len c], .int .i64 0]) ∧ Rd w' (.slice a len c) sl ∧ Below W.heap.size W w') := fun v W h => (by rw [hRe] at h; refine (read_any v _ 1 W h).mono ?_; rw [mmL, (rn_two hM3).1, (rn_two hM3).2]; rintro e w' ⟨v', rfl, r, hb⟩; obtain ⟨_, a, c, rfl⟩ := r.form; dsimp only at r ⊢; rw [hl] at r ⊢; exact ⟨a, c, rfl, r, hb⟩)
  have ks : Hid (∀ (v v' : Value) W, Rd W v sl → Rd W v' sl → Calls Try.prog 15 #[.agg #[.int .i64 lv, .int .i64 tu, .int .i64 nx, .int .i64 lo, v], .agg #[.int .i64 lv, .int .i64 tu, .int .i64 nx, .int .i64 lo, v']] W fun e w' => e = .returned (.bool true) ∧ Below W.heap.size W w') := fun v v' W h h' => (by have := same_any ⟨lv, tu, nx, lo, sl⟩ ⟨lv, tu, nx, lo, sl⟩ v v' W h h'; rwa [decide_eq_true rfl] at this)
  obtain ⟨A, hA⟩ : ∃ A, imN ⟨lv, tu, nx, lo, sl⟩ = A := ⟨_, rfl⟩
  have k8 : Hid (∀ W, Below w.heap.size w W → Calls Try.prog 8 #[.agg #[.int .i64 lv, .int .i64 tu, .int .i64 nx, .int .i64 lo, .slice a len cap]] W fun e w' => ∃ a c, e = .returned (.tuple #[.slice a 16 c, .int .i64 0]) ∧ Rd w' (.slice a 16 c) A ∧ Below W.heap.size W w') := fun W hb => (by have := words_node ⟨lv, tu, nx, lo, sl⟩ _ W (HR.out.below hb); rw [(wn_yes hc).1, (wn_yes hc).2] at this; refine this.mono ?_; rintro e w' ⟨v', rfl, r, hb⟩; obtain ⟨_, a, c, rfl⟩ := r.form; rw [imN_length hM.len] at r ⊢; rw [← hA]; exact ⟨a, c, rfl, r, hb⟩)
  obtain ⟨M, hMM⟩ : ∃ M, mmL ⟨lv, tu, nx, lo, sl⟩ = M := ⟨_, rfl⟩
  rw [hMM] at hlen tk1 tk2 nk1 hcs
  have HM : Hid (List.replicate 16 0 ++ A = M) := (by show _ = _; rw [← hA]; exact hMM)
  have k21 : Hid (∀ v w, Rd w v M → Calls Try.prog 21 #[v] w fun e w' => ∃ a1 c1 a2 c2 a3 c3, e = .returned (.tuple #[.agg #[.slice a1 32 c1, .slice a2 32 c2, .slice a3 0 c3], .int .i64 0]) ∧ RdM w' (.slice a1 32 c1) (.slice a2 32 c2) (.slice a3 0 c3) (allM M) ∧ Below w.heap.size w w') := fun v w hR => (by have := new_all v M w hR (by omega) (by omega); rwa [hlen] at this)
  obtain ⟨T, hT⟩ : ∃ T, tnL 1 ⟨lv, tu, nx, lo, sl⟩ d = T := ⟨_, rfl⟩
  rw [hT] at g1 g2 g3 tk1 tk2 ho
  have k19 : Hid (∀ W, Below w.heap.size w W → Calls Try.prog 19 #[.int .i64 1, .agg #[.int .i64 lv, .int .i64 tu, .int .i64 nx, .int .i64 lo, .slice a len cap], .bool d] W fun e w' => ∃ a c, e = .returned (.slice a T.length c) ∧ RdS w' (.slice a T.length c) T ∧ Below W.heap.size W w') := fun W hb => (by have := turn_any 1 ⟨lv, tu, nx, lo, sl⟩ d _ W (HR.out.below hb); rw [hT] at this; refine this.mono ?_; rintro e w' ⟨v', rfl, r, hb⟩; obtain ⟨_, a, c, rfl⟩ := r.form; exact ⟨a, c, rfl, r, hb⟩)
  have k12 : Hid (∀ W, Calls Try.prog 12 #[.int .i64 1, .int .i64 (m1 : Int)] W fun e w' => ∃ a c, e = .returned (.tuple #[.slice a 2 c, .int .i64 0]) ∧ RdS w' (.slice a 2 c) [⟨1, 17, (m1 : Int)⟩, ⟨2, 2, 0⟩] ∧ Below W.heap.size W w') := fun W => (by have hx := nx_yes (b := 1) (x := (m1 : Int)) (by unfold nxB; rw [lkB_iff.2 (show 0 ≤ (m1 : Int) ∧ (m1 : Int) ≤ 255 by omega)]; rfl); have := next_any 1 (m1 : Int) W; rw [hx.1, hx.2] at this; refine this.mono ?_; rintro e w' ⟨v', rfl, r, hb⟩; obtain ⟨_, a, c, rfl⟩ := r.form; exact ⟨a, c, rfl, r, hb⟩)
  have k22 : Hid (∀ va vb vc v W, RdM W va vb vc (allM M) → RdS W v T → Calls Try.prog 22 #[.agg #[va, vb, vc], v] W fun e w' => ∃ a1 n1 c1 a2 n2 c2 a3 n3 c3, e = .returned (.tuple #[.agg #[.slice a1 n1 c1, .slice a2 n2 c2, .slice a3 n3 c3], .int .i64 0]) ∧ Rd w' (.slice a1 n1 c1) (mmL ⟨lv, xt, nx, lo, sl⟩) ∧ Below W.heap.size W w') := fun va vb vc v W hm hs => (by have := run_any va vb vc v (allM M) T W hm hs (by show 0 + T.length ≤ 900; omega); rw [ruE_yes tk1, ruM_yes tk1] at this; refine this.mono ?_; rintro e w' ⟨u1, u2, u3, rfl, r, hb⟩; obtain ⟨a1, c1, a2, c2, a3, c3, rfl, rfl, rfl⟩ := r.forms; exact ⟨a1, _, c1, a2, _, c2, a3, _, c3, rfl, (by rw [← tk2]; exact r.vol), hb⟩)
  have k23 : Hid (∀ va vb vc v W, Below w.heap.size w W → RdM W va vb vc (allM M) → RdS W v [⟨1, 17, (m1 : Int)⟩, ⟨2, 2, 0⟩] → Calls Try.prog 23 #[.agg #[va, vb, vc], v, .int .i64 kk, .slice ak nk ck] W fun e w' => ∃ v', e = .returned (.tuple #[v', .int .i64 0]) ∧ Rd w' v' R ∧ Below W.heap.size W w') := fun va vb vc v W hW hm hs => (by have := crashS_any va vb vc v _ _ _ kk keep W hm hs (HK.out.below hW) hBd (by show 0 + 2 ≤ 900; omega); rwa [ruE_yes nk1, hcs] at this)
  obtain ⟨r, hr⟩ : ∃ r, xt.tmod 2 = r := ⟨_, rfl⟩
  obtain ⟨e1, he1⟩ : ∃ e1, (r == 1) = e1 := ⟨_, rfl⟩
  have he2 : (e1 == d) = true := (by
    have h2 : r = xt % 2 := by rw [← hr, Int.tmod_eq_emod_of_nonneg g4]
    have h3 : e1 = d := by
      rw [← he1, h2, ← g6]
      by_cases h : xt % 2 = 1 <;> simp [h]
    rw [h3]; simp)
  have hwant : (xt == tu + (T.length : Int)) = true := (by rw [g1 ho]; simp)
  have hm1 : IntKind.i64.wrap (m1 : Int) = (m1 : Int) := by rw [IntKind.wrap_i64]; omega
  
  have HMk : Hid (Mk m2 kk) := hMk
  have Hlen : Hid (M.length = 32) := hlen
  have Hl : Hid (sl.length = len) := hl
  have HT1 : Hid (T.length ≤ 1) := g3
  have hT1 : (T.length : Int) ≤ 1 := by omega
  have y1 : Hid (0 = 0) := rfl
  have y2 : Hid (0 = 0) := rfl
  have y3 : Hid (0 = 0) := rfl
  have y4 : Hid (0 = 0) := rfl
  have y5 : Hid (0 = 0) := rfl
  have y6 : Hid (0 = 0) := rfl
  have y7 : Hid (0 = 0) := rfl
  clear hRe hR hK hBd hc hcs hM hM2 hM3 g1 g2 g3 g4 g5 g6 tk1 tk2 nk1 hlen hxt hA hMM hT hkk hMk hl h1
  go_enter Try.func5, Try.ntmps5
  go_wp2_with (first
    | (go_at_call 7; refine (awake_any _).mono ?_; rintro e w1 ⟨rfl, hb1⟩; have H1 : Hid (Below (w.alloc (.cells #[.int .i64 lv, .int .i64 tu, .int .i64 nx, .int .i64 lo, .slice a len cap] 24)).heap.size (w.alloc (.cells #[.int .i64 lv, .int .i64 tu, .int .i64 nx, .int .i64 lo, .slice a len cap] 24)) w1) := hb1; obtain ⟨x0, x1, x2, x3, x4⟩ := (N0.out.below H1.out).c; clear hb1)
    | (go_at_call 8; refine (k8.out _ (bstep H0.out H1.out)).mono ?_; rintro e w2 ⟨a2, c2', rfl, r2, hb2⟩; have R2 : Hid (Rd w2 (.slice a2 16 c2') A) := r2; have H2 : Hid (Below (w.alloc (.cells #[.int .i64 lv, .int .i64 tu, .int .i64 nx, .int .i64 lo, .slice a len cap] 24)).heap.size (w.alloc (.cells #[.int .i64 lv, .int .i64 tu, .int .i64 nx, .int .i64 lo, .slice a len cap] 24)) w2) := bstep H1.out hb2; clear hb2 r2 x0 x1 x2 x3 x4; obtain ⟨x0, x1, x2, x3, x4⟩ := (N0.out.below H2.out).c)
    | (clear y1; at_make; refine wpList_make_full _ rfl _ _ 22 rfl w2.heap.size 3 i0 (.int .i64 0) 1 Try.underlying22 hi hz0 hz1 .i64 .i64 _ _ 16 rfl rfl rfl rfl (by rw [hz2]; omega) (by unfold maxLen; omega) (Nat.le_refl _) ?_; intro w3 o3 g3; have b3 : Below w2.heap.size w2 w3 := below_grownN g3; have O3 : Hid (OwnI w3 w2.heap.size (.slice (some ⟨w2.heap.size, 0, none⟩) 16 16) (List.replicate 16 0)) := own_zero o3; have B3 : Hid (Below w2.heap.size w2 w3) := b3; clear o3 g3 b3)
    | (clear y2; at_builtin; refine append_own_rd rfl (.tmp 53) (.tmp 54) rfl w2.heap.size (.slice (some ⟨w2.heap.size, 0, none⟩) 16 16) (List.replicate 16 0) rfl O3.out (.slice a2 16 c2') A rfl (R2.out.below B3.out) (by simp) B3.out.size M HM.out ?_; intro a4 c4 w4 o4 b4; have R4 : Hid (Rd w4 (.slice a4 M.length c4) M) := o4.rd (by rw [Hlen.out]; omega); have B4 : Hid (Below w2.heap.size w2 w4) := B3.out.trans b4; clear o4 b4)
    | (go_at_call 21; refine (k21.out _ _ R4.out).mono ?_; rintro e w5 ⟨p1, q1, p2, q2, p3, q3, rfl, r5, hb5⟩; have R5 : Hid (RdM (w5.alloc (.cells #[.slice p1 32 q1, .slice p2 32 q2, .slice p3 0 q3] 43)) (.slice p1 32 q1) (.slice p2 32 q2) (.slice p3 0 q3) (allM M)) := r5.below ((Below.refl _ _).alloc (Nat.le_refl _) _); have X5 : Hid (Bx (w5.alloc (.cells #[.slice p1 32 q1, .slice p2 32 q2, .slice p3 0 q3] 43)) w5.heap.size (.slice p1 32 q1) (.slice p2 32 q2) (.slice p3 0 q3)) := bx_new w5 _ _ _ 43; have H5 : Hid (Below (w.alloc (.cells #[.int .i64 lv, .int .i64 tu, .int .i64 nx, .int .i64 lo, .slice a len cap] 24)).heap.size (w.alloc (.cells #[.int .i64 lv, .int .i64 tu, .int .i64 nx, .int .i64 lo, .slice a len cap] 24)) (w5.alloc (.cells #[.slice p1 32 q1, .slice p2 32 q2, .slice p3 0 q3] 43))) := bstep (bstep H2.out (bstep B4.out hb5)) ((Below.refl _ _).alloc (Nat.le_refl _) _); clear r5 hb5 x0 x1 x2 x3 x4; obtain ⟨x0, x1, x2, x3, x4⟩ := (N0.out.below H5.out).c)
    | (go_at_call 19; refine (k19.out _ (bstep H0.out H5.out)).mono ?_; rintro e w6 ⟨a6, c6, rfl, r6, hb6⟩; have R6 : Hid (RdS w6 (.slice a6 T.length c6) T) := r6; have J6 : Hid (Below (w5.alloc (.cells #[.slice p1 32 q1, .slice p2 32 q2, .slice p3 0 q3] 43)).heap.size (w5.alloc (.cells #[.slice p1 32 q1, .slice p2 32 q2, .slice p3 0 q3] 43)) w6) := hb6; clear hb6 r6 x0 x1 x2 x3 x4)
    | (go_at_call 12; refine (k12.out _).mono ?_; rintro e w7 ⟨a7, c7, rfl, r7, hb7⟩; have R7 : Hid (RdS w7 (.slice a7 2 c7) [⟨1, 17, (m1 : Int)⟩, ⟨2, 2, 0⟩]) := r7; have R67 : Hid (RdS w7 (.slice a6 T.length c6) T) := R6.out.below hb7; have J7 : Hid (Below (w5.alloc (.cells #[.slice p1 32 q1, .slice p2 32 q2, .slice p3 0 q3] 43)).heap.size (w5.alloc (.cells #[.slice p1 32 q1, .slice p2 32 q2, .slice p3 0 q3] 43)) w7) := bstep J6.out hb7; obtain ⟨⟨z0, z1, z2⟩, -⟩ := X5.out.below J7.out; clear hb7 r7)
    | (go_at_call 22; refine (k22.out _ _ _ _ _ (R5.out.below J7.out) R67.out).mono ?_; rintro e w8 ⟨b1, n1, d1, b2, n2, d2, b3, n3, d3, rfl, r8, hb8⟩; have R8 : Hid (Rd (w8.alloc (.cells #[.slice b1 n1 d1, .slice b2 n2 d2, .slice b3 n3 d3] 43)) (.slice b1 n1 d1) (mmL ⟨lv, xt, nx, lo, sl⟩)) := r8.below ((Below.refl _ _).alloc (Nat.le_refl _) _); have L8 : Hid (Below w7.heap.size w7 (w8.alloc (.cells #[.slice b1 n1 d1, .slice b2 n2 d2, .slice b3 n3 d3] 43))) := hb8.alloc hb8.size _; clear r8 hb8 z0 z1 z2)
    | (clear y3; go_at_call 10; refine (kx.out _ _ R8.out).mono ?_; rintro e w9 ⟨a9, c9, rfl, r9, hb9⟩; have R9 : Hid (Rd (w9.alloc (.cells #[.int .i64 lv, .int .i64 xt, .int .i64 nx, .int .i64 lo, .slice a9 len c9] 24)) (.slice a9 len c9) sl) := r9.below ((Below.refl _ _).alloc (Nat.le_refl _) _); have X9 : Hid (Nb (w9.alloc (.cells #[.int .i64 lv, .int .i64 xt, .int .i64 nx, .int .i64 lo, .slice a9 len c9] 24)) w9.heap.size lv xt nx lo (.slice a9 len c9)) := nb_new w9 _ _ _ _ _; have L9 : Hid (Below w7.heap.size w7 (w9.alloc (.cells #[.int .i64 lv, .int .i64 xt, .int .i64 nx, .int .i64 lo, .slice a9 len c9] 24))) := (bstep L8.out hb9).alloc (bstep L8.out hb9).size _; have J9 : Hid (Below (w5.alloc (.cells #[.slice p1 32 q1, .slice p2 32 q2, .slice p3 0 q3] 43)).heap.size (w5.alloc (.cells #[.slice p1 32 q1, .slice p2 32 q2, .slice p3 0 q3] 43)) (w9.alloc (.cells #[.int .i64 lv, .int .i64 xt, .int .i64 nx, .int .i64 lo, .slice a9 len c9] 24))) := bstep J7.out L9.out; have H9 : Hid (Below (w.alloc (.cells #[.int .i64 lv, .int .i64 tu, .int .i64 nx, .int .i64 lo, .slice a len cap] 24)).heap.size (w.alloc (.cells #[.int .i64 lv, .int .i64 tu, .int .i64 nx, .int .i64 lo, .slice a len cap] 24)) (w9.alloc (.cells #[.int .i64 lv, .int .i64 xt, .int .i64 nx, .int .i64 lo, .slice a9 len c9] 24))) := bstep H5.out J9.out; clear r9 hb9))
  have S0 : Hid (((w9.alloc (.cells #[.int .i64 lv, .int .i64 xt, .int .i64 nx, .int .i64 lo, .slice a9 len c9] 24))).drew.cell? ⟨w5.heap.size, 0, none⟩ = some (.slice p1 32 q1) ∧ ((w9.alloc (.cells #[.int .i64 lv, .int .i64 xt, .int .i64 nx, .int .i64 lo, .slice a9 len c9] 24))).drew.cell? ⟨w5.heap.size, 1, none⟩ = some (.slice p2 32 q2) ∧ ((w9.alloc (.cells #[.int .i64 lv, .int .i64 xt, .int .i64 nx, .int .i64 lo, .slice a9 len c9] 24))).drew.cell? ⟨w5.heap.size, 2, none⟩ = some (.slice p3 0 q3)) := (X5.out.below (bstep J9.out (Below.refl _ _).drew)).1
  have J9d : Hid (Below (w5.alloc (.cells #[.slice p1 32 q1, .slice p2 32 q2, .slice p3 0 q3] 43)).heap.size (w5.alloc (.cells #[.slice p1 32 q1, .slice p2 32 q2, .slice p3 0 q3] 43)) ((w9.alloc (.cells #[.int .i64 lv, .int .i64 xt, .int .i64 nx, .int .i64 lo, .slice a9 len c9] 24))).drew) := J9.out.drew
  have L9d : Hid (Below w7.heap.size w7 ((w9.alloc (.cells #[.int .i64 lv, .int .i64 xt, .int .i64 nx, .int .i64 lo, .slice a9 len c9] 24))).drew) := L9.out.drew
  obtain ⟨f1, f2, f3, f4, f5, f6⟩ := HMk.out
  go_region_held3 (fun W2 => W2.cell? ⟨w5.heap.size, 0, none⟩ = some (.slice p1 32 q1) ∧ W2.cell? ⟨w5.heap.size, 1, none⟩ = some (.slice p2 32 q2) ∧ W2.cell? ⟨w5.heap.size, 2, none⟩ = some (.slice p3 0 q3))
    (first | with_reducible exact S0.out | with_reducible exact S1.out)
    (first
      | (go_at_call 23; refine (k23.out _ _ _ _ _ (bstep H0.out (bstep H5.out J9d.out)) (R5.out.below J9d.out) (R7.out.below L9d.out)).mono ?_; rintro e w10 ⟨v10, rfl, r10, hb10⟩; have R10 : Hid (Rd w10 v10 R) := r10; have G10 : Hid (Below (w9.alloc (.cells #[.int .i64 lv, .int .i64 xt, .int .i64 nx, .int .i64 lo, .slice a9 len c9] 24)).heap.size (w9.alloc (.cells #[.int .i64 lv, .int .i64 xt, .int .i64 nx, .int .i64 lo, .slice a9 len c9] 24)) w10) := bstep (Below.refl _ _).drew hb10; have S1 : Hid (w10.cell? ⟨w5.heap.size, 0, none⟩ = some (.slice p1 32 q1) ∧ w10.cell? ⟨w5.heap.size, 1, none⟩ = some (.slice p2 32 q2) ∧ w10.cell? ⟨w5.heap.size, 2, none⟩ = some (.slice p3 0 q3)) := (X5.out.below (bstep J9d.out hb10)).1; clear r10 hb10))
  clear f1 f2 f3 f4 f5 f6
  go_wp2_with (first
    | (clear y4; go_at_call 10; refine (ky.out _ _ R10.out).mono ?_; rintro e w11 ⟨a11, c11, rfl, r11, hb11⟩; have R11 : Hid (Rd (w11.alloc (.cells #[.int .i64 lv, .int .i64 tu, .int .i64 nx, .int .i64 lo, .slice a11 len c11] 24)) (.slice a11 len c11) sl) := r11.below ((Below.refl _ _).alloc (Nat.le_refl _) _); have X11 : Hid (Nb (w11.alloc (.cells #[.int .i64 lv, .int .i64 tu, .int .i64 nx, .int .i64 lo, .slice a11 len c11] 24)) w11.heap.size lv tu nx lo (.slice a11 len c11)) := nb_new w11 _ _ _ _ _; have G11 : Hid (Below (w9.alloc (.cells #[.int .i64 lv, .int .i64 xt, .int .i64 nx, .int .i64 lo, .slice a9 len c9] 24)).heap.size (w9.alloc (.cells #[.int .i64 lv, .int .i64 xt, .int .i64 nx, .int .i64 lo, .slice a9 len c9] 24)) (w11.alloc (.cells #[.int .i64 lv, .int .i64 tu, .int .i64 nx, .int .i64 lo, .slice a11 len c11] 24))) := (bstep G10.out hb11).alloc (bstep G10.out hb11).size _; have R10c : Hid (Rd w11 v10 R) := R10.out.below hb11; have R11c : Hid (Rd w11 (.slice a11 len c11) sl) := r11; have H11c : Hid (Below (w.alloc (.cells #[.int .i64 lv, .int .i64 tu, .int .i64 nx, .int .i64 lo, .slice a len cap] 24)).heap.size (w.alloc (.cells #[.int .i64 lv, .int .i64 tu, .int .i64 nx, .int .i64 lo, .slice a len cap] 24)) w11) := bstep H9.out (bstep G10.out hb11); have H11 : Hid (Below (w.alloc (.cells #[.int .i64 lv, .int .i64 tu, .int .i64 nx, .int .i64 lo, .slice a len cap] 24)).heap.size (w.alloc (.cells #[.int .i64 lv, .int .i64 tu, .int .i64 nx, .int .i64 lo, .slice a len cap] 24)) (w11.alloc (.cells #[.int .i64 lv, .int .i64 tu, .int .i64 nx, .int .i64 lo, .slice a11 len c11] 24))) := bstep H9.out G11.out; obtain ⟨n0, n1, n2, n3, n4⟩ := (N0.out.below H11.out).c; obtain ⟨u0, u1, u2, u3, u4⟩ := (X9.out.below G11.out).c; clear r11 hb11)
    | (go_at_call 14; refine (numbers_any _ _ sl sl _ (R9.out.below G11.out) (HR.out.below (bstep H0.out H11.out))).mono ?_; rintro e w12 ⟨rfl, hb12⟩; rw [decide_eq_true rfl]; have G12 : Hid (Below (w11.alloc (.cells #[.int .i64 lv, .int .i64 tu, .int .i64 nx, .int .i64 lo, .slice a11 len c11] 24)).heap.size (w11.alloc (.cells #[.int .i64 lv, .int .i64 tu, .int .i64 nx, .int .i64 lo, .slice a11 len c11] 24)) w12) := hb12; have H12 : Hid (Below (w.alloc (.cells #[.int .i64 lv, .int .i64 tu, .int .i64 nx, .int .i64 lo, .slice a len cap] 24)).heap.size (w.alloc (.cells #[.int .i64 lv, .int .i64 tu, .int .i64 nx, .int .i64 lo, .slice a len cap] 24)) w12) := bstep H11.out hb12; clear n0 n1 n2 n3 n4 u0 u1 u2 u3 u4; obtain ⟨n0, n1, n2, n3, n4⟩ := (N0.out.below H12.out).c; have X12 : Hid (Nb w12 w11.heap.size lv tu nx lo (.slice a11 len c11)) := X11.out.below hb12; obtain ⟨v0, v1, v2, v3, v4⟩ := X12.out.c; have fz := X12.out.free 2; have X12s : Hid (Nb (w12.setCell ⟨w11.heap.size, 2, none⟩ (.int .i64 nx)) w11.heap.size lv tu nx lo (.slice a11 len c11)) := X12.out.set2 nx; have G12s : Hid (Below w11.heap.size w11 (w12.setCell ⟨w11.heap.size, 2, none⟩ (.int .i64 nx))) := (((Below.refl _ w11).alloc (Nat.le_refl _) _).trans (hb12.mono (by simp))).setCell (p := ⟨w11.heap.size, 2, none⟩) (Nat.le_refl _) _; clear hb12)
    | (clear y5; go_at_call 10; refine (ky.out _ _ (R10c.out.below G12s.out)).mono ?_; rintro e w13 ⟨a13, c13, rfl, r13, hb13⟩; have b13 : Hid (Below (w12.setCell ⟨w11.heap.size, 2, none⟩ (.int .i64 nx)).heap.size (w12.setCell ⟨w11.heap.size, 2, none⟩ (.int .i64 nx)) (w13.alloc (.cells #[.int .i64 lv, .int .i64 tu, .int .i64 nx, .int .i64 lo, .slice a13 len c13] 24))) := hb13.alloc hb13.size _; have X13 : Hid (Nb (w13.alloc (.cells #[.int .i64 lv, .int .i64 tu, .int .i64 nx, .int .i64 lo, .slice a13 len c13] 24)) w13.heap.size lv tu nx lo (.slice a13 len c13)) := nb_new w13 _ _ _ _ _; have H13 : Hid (Below (w.alloc (.cells #[.int .i64 lv, .int .i64 tu, .int .i64 nx, .int .i64 lo, .slice a len cap] 24)).heap.size (w.alloc (.cells #[.int .i64 lv, .int .i64 tu, .int .i64 nx, .int .i64 lo, .slice a len cap] 24)) (w13.alloc (.cells #[.int .i64 lv, .int .i64 tu, .int .i64 nx, .int .i64 lo, .slice a13 len c13] 24))) := bstep H11c.out (bstep G12s.out b13.out); have R13y : Hid (Rd (w13.alloc (.cells #[.int .i64 lv, .int .i64 tu, .int .i64 nx, .int .i64 lo, .slice a13 len c13] 24)) (.slice a11 len c11) sl) := (R11c.out.below G12s.out).below b13.out; clear n0 n1 n2 n3 n4 v0 v1 v2 v3 v4 fz; obtain ⟨n0, n1, n2, n3, n4⟩ := (N0.out.below H13.out).c; obtain ⟨v0, v1, v2, v3, v4⟩ := (X12s.out.below b13.out).c; clear r13 hb13)
    | (go_at_call 15; refine (ks.out _ _ _ R13y.out (HR.out.below (bstep H0.out H13.out))).mono ?_; rintro e w14 ⟨rfl, hb14⟩; have H14 : Hid (Below (w.alloc (.cells #[.int .i64 lv, .int .i64 tu, .int .i64 nx, .int .i64 lo, .slice a len cap] 24)).heap.size (w.alloc (.cells #[.int .i64 lv, .int .i64 tu, .int .i64 nx, .int .i64 lo, .slice a len cap] 24)) w14) := bstep H13.out hb14; clear n0 n1 n2 n3 n4 v0 v1 v2 v3 v4; obtain ⟨n0, n1, n2, n3, n4⟩ := (N0.out.below H14.out).c; obtain ⟨v0, v1, v2, v3, v4⟩ := (X13.out.below hb14).c; clear hb14))
  go_ret
  exact ⟨ret_bool rfl, bstep H0.out H14.out⟩
set_option maxRecDepth 100000 in
set_option maxHeartbeats 4000000 in
theorem turns_nx (lv tu nx lo : Int) (sl : List Int) (a : Option Addr) (len cap : Nat) (m1 : Nat) (d : Bool) (m2 : Nat) (ak : Option Addr) (nk ck : Nat) (keep : List Int) (kk : Int) (w : World) (hl : sl.length = len) (hR : Rd w (.slice a len cap) sl) (hK : Rd w (.slice ak nk ck) keep) (hBd : Bd keep) (c1 : ¬ (len : Int) > 100) (c2 : ¬ (nk : Int) > 20) (hc : nnB ⟨lv, tu, nx, lo, sl⟩ = true) (h1 : m1 < 256) (hkk : kk = 0 ∨ kk = 1 ∨ kk = 2) (hMk : Mk m2 kk)
    (R : List Int) (hRe : R = mmL ⟨lv, tu, (m1 : Int), lo, sl⟩) (hcs : csP (allM (mmL ⟨lv, tu, nx, lo, sl⟩)) [⟨1, 17, (m1 : Int)⟩, ⟨2, 2, 0⟩] kk keep = R) (hx : (m1 : Int) ≠ nx) (ho : ¬ tu + ((tnL 1 ⟨lv, tu, nx, lo, sl⟩ d).length : Int) > 1099511627776) :
    Calls Try.prog 5 #[.agg #[.int .i64 lv, .int .i64 tu, .int .i64 nx, .int .i64 lo, .slice a len cap], .int .u8 (m1 : Int), .bool d, .int .u8 (m2 : Int), .slice ak nk ck] w fun e w' => e = .returned (.bool true) ∧ Below w.heap.size w w' := by
  obtain ⟨i0, hi, hz0, hz1, hz2⟩ := info_parts Try.info3
  have hM := nnB_iff.1 hc
  obtain ⟨g1, g2, g3, g4, g5, g6⟩ := turn_want d hM
  obtain ⟨tk1, tk2⟩ := turn_kept d hM
  obtain ⟨nk1, -⟩ := next_either ⟨lv, tu, nx, lo, sl⟩ (m1 : Int) keep kk hM hkk
  have hlen := mmL_length hM.len
  obtain ⟨xt, hxt⟩ : ∃ xt, xtI ⟨lv, tu, nx, lo, sl⟩ d = xt := ⟨_, rfl⟩
  rw [hxt] at g1 g2 g4 g5 g6 tk2
  dsimp only at g1 g2 g3 tk2
  have hM2 : May ⟨lv, xt, nx, lo, sl⟩ := ⟨hM.len, hM.l0, hM.l9, g4, g5, hM.x0, hM.x9, hM.w0, hM.w9, hM.sl⟩
  have hM3 : May ⟨lv, tu, (m1 : Int), lo, sl⟩ := ⟨hM.len, hM.l0, hM.l9, hM.t0, hM.t9, by show (0 : Int) ≤ (m1 : Int); omega, by show (m1 : Int) ≤ 255; omega, hM.w0, hM.w9, hM.sl⟩
  have t0 := hM.t0
  have t9 := hM.t9
  dsimp only at t0 t9
  have N0 : Hid (Nb (w.alloc (.cells #[.int .i64 lv, .int .i64 tu, .int .i64 nx, .int .i64 lo, .slice a len cap] 24)) w.heap.size lv tu nx lo (.slice a len cap)) := nb_new w lv tu nx lo _
  have H0 : Hid (Below w.heap.size w (w.alloc (.cells #[.int .i64 lv, .int .i64 tu, .int .i64 nx, .int .i64 lo, .slice a len cap] 24))) := (Below.refl _ _).alloc (Nat.le_refl _) _
  have HR : Hid (Rd w (.slice a len cap) sl) := hR
  have HK : Hid (Rd w (.slice ak nk ck) keep) := hK
  have kx : Hid (∀ v W, Rd W v (mmL ⟨lv, xt, nx, lo, sl⟩) → Calls Try.prog 10 #[v, .int .i64 1] W fun e w' => ∃ a c, e = .returned (.tuple #[.agg #[.int .i64 lv, .int .i64 xt, .int .i64 nx, .int .i64 lo, .slice a len c], .int .i64 0]) ∧ Rd w' (.slice a len c) sl ∧ Below W.heap.size W w') := fun v W h => (by refine (read_any v _ 1 W h).mono ?_; rw [mmL, (rn_two hM2).1, (rn_two hM2).2]; rintro e w' ⟨v', rfl, r, hb⟩; obtain ⟨_, a, c, rfl⟩ := r.form; dsimp only at r ⊢; rw [hl] at r ⊢; exact ⟨a, c, rfl, r, hb⟩)
  have ky : Hid (∀ v W, Rd W v R → Calls Try.prog 10 #[v, .int .i64 1] W fun e w' => ∃ a c, e = .returned (.tuple #[.agg #[.int .i64 lv, .int .i64 tu, .int .i64 (m1 : Int), .int .i64 lo, .slice a len c], .int .i64 0]) ∧ Rd w' (.slice a len c) sl ∧ Below W.heap.size W w') := fun v W h => (by rw [hRe] at h; refine (read_any v _ 1 W h).mono ?_; rw [mmL, (rn_two hM3).1, (rn_two hM3).2]; rintro e w' ⟨v', rfl, r, hb⟩; obtain ⟨_, a, c, rfl⟩ := r.form; dsimp only at r ⊢; rw [hl] at r ⊢; exact ⟨a, c, rfl, r, hb⟩)
  have ks : Hid (∀ (v v' : Value) W, Rd W v sl → Rd W v' sl → Calls Try.prog 15 #[.agg #[.int .i64 lv, .int .i64 tu, .int .i64 nx, .int .i64 lo, v], .agg #[.int .i64 lv, .int .i64 tu, .int .i64 nx, .int .i64 lo, v']] W fun e w' => e = .returned (.bool true) ∧ Below W.heap.size W w') := fun v v' W h h' => (by have := same_any ⟨lv, tu, nx, lo, sl⟩ ⟨lv, tu, nx, lo, sl⟩ v v' W h h'; rwa [decide_eq_true rfl] at this)
  obtain ⟨A, hA⟩ : ∃ A, imN ⟨lv, tu, nx, lo, sl⟩ = A := ⟨_, rfl⟩
  have k8 : Hid (∀ W, Below w.heap.size w W → Calls Try.prog 8 #[.agg #[.int .i64 lv, .int .i64 tu, .int .i64 nx, .int .i64 lo, .slice a len cap]] W fun e w' => ∃ a c, e = .returned (.tuple #[.slice a 16 c, .int .i64 0]) ∧ Rd w' (.slice a 16 c) A ∧ Below W.heap.size W w') := fun W hb => (by have := words_node ⟨lv, tu, nx, lo, sl⟩ _ W (HR.out.below hb); rw [(wn_yes hc).1, (wn_yes hc).2] at this; refine this.mono ?_; rintro e w' ⟨v', rfl, r, hb⟩; obtain ⟨_, a, c, rfl⟩ := r.form; rw [imN_length hM.len] at r ⊢; rw [← hA]; exact ⟨a, c, rfl, r, hb⟩)
  obtain ⟨M, hMM⟩ : ∃ M, mmL ⟨lv, tu, nx, lo, sl⟩ = M := ⟨_, rfl⟩
  rw [hMM] at hlen tk1 tk2 nk1 hcs
  have HM : Hid (List.replicate 16 0 ++ A = M) := (by show _ = _; rw [← hA]; exact hMM)
  have k21 : Hid (∀ v w, Rd w v M → Calls Try.prog 21 #[v] w fun e w' => ∃ a1 c1 a2 c2 a3 c3, e = .returned (.tuple #[.agg #[.slice a1 32 c1, .slice a2 32 c2, .slice a3 0 c3], .int .i64 0]) ∧ RdM w' (.slice a1 32 c1) (.slice a2 32 c2) (.slice a3 0 c3) (allM M) ∧ Below w.heap.size w w') := fun v w hR => (by have := new_all v M w hR (by omega) (by omega); rwa [hlen] at this)
  obtain ⟨T, hT⟩ : ∃ T, tnL 1 ⟨lv, tu, nx, lo, sl⟩ d = T := ⟨_, rfl⟩
  rw [hT] at g1 g2 g3 tk1 tk2 ho
  have k19 : Hid (∀ W, Below w.heap.size w W → Calls Try.prog 19 #[.int .i64 1, .agg #[.int .i64 lv, .int .i64 tu, .int .i64 nx, .int .i64 lo, .slice a len cap], .bool d] W fun e w' => ∃ a c, e = .returned (.slice a T.length c) ∧ RdS w' (.slice a T.length c) T ∧ Below W.heap.size W w') := fun W hb => (by have := turn_any 1 ⟨lv, tu, nx, lo, sl⟩ d _ W (HR.out.below hb); rw [hT] at this; refine this.mono ?_; rintro e w' ⟨v', rfl, r, hb⟩; obtain ⟨_, a, c, rfl⟩ := r.form; exact ⟨a, c, rfl, r, hb⟩)
  have k12 : Hid (∀ W, Calls Try.prog 12 #[.int .i64 1, .int .i64 (m1 : Int)] W fun e w' => ∃ a c, e = .returned (.tuple #[.slice a 2 c, .int .i64 0]) ∧ RdS w' (.slice a 2 c) [⟨1, 17, (m1 : Int)⟩, ⟨2, 2, 0⟩] ∧ Below W.heap.size W w') := fun W => (by have hx := nx_yes (b := 1) (x := (m1 : Int)) (by unfold nxB; rw [lkB_iff.2 (show 0 ≤ (m1 : Int) ∧ (m1 : Int) ≤ 255 by omega)]; rfl); have := next_any 1 (m1 : Int) W; rw [hx.1, hx.2] at this; refine this.mono ?_; rintro e w' ⟨v', rfl, r, hb⟩; obtain ⟨_, a, c, rfl⟩ := r.form; exact ⟨a, c, rfl, r, hb⟩)
  have k22 : Hid (∀ va vb vc v W, RdM W va vb vc (allM M) → RdS W v T → Calls Try.prog 22 #[.agg #[va, vb, vc], v] W fun e w' => ∃ a1 n1 c1 a2 n2 c2 a3 n3 c3, e = .returned (.tuple #[.agg #[.slice a1 n1 c1, .slice a2 n2 c2, .slice a3 n3 c3], .int .i64 0]) ∧ Rd w' (.slice a1 n1 c1) (mmL ⟨lv, xt, nx, lo, sl⟩) ∧ Below W.heap.size W w') := fun va vb vc v W hm hs => (by have := run_any va vb vc v (allM M) T W hm hs (by show 0 + T.length ≤ 900; omega); rw [ruE_yes tk1, ruM_yes tk1] at this; refine this.mono ?_; rintro e w' ⟨u1, u2, u3, rfl, r, hb⟩; obtain ⟨a1, c1, a2, c2, a3, c3, rfl, rfl, rfl⟩ := r.forms; exact ⟨a1, _, c1, a2, _, c2, a3, _, c3, rfl, (by rw [← tk2]; exact r.vol), hb⟩)
  have k23 : Hid (∀ va vb vc v W, Below w.heap.size w W → RdM W va vb vc (allM M) → RdS W v [⟨1, 17, (m1 : Int)⟩, ⟨2, 2, 0⟩] → Calls Try.prog 23 #[.agg #[va, vb, vc], v, .int .i64 kk, .slice ak nk ck] W fun e w' => ∃ v', e = .returned (.tuple #[v', .int .i64 0]) ∧ Rd w' v' R ∧ Below W.heap.size W w') := fun va vb vc v W hW hm hs => (by have := crashS_any va vb vc v _ _ _ kk keep W hm hs (HK.out.below hW) hBd (by show 0 + 2 ≤ 900; omega); rwa [ruE_yes nk1, hcs] at this)
  obtain ⟨r, hr⟩ : ∃ r, xt.tmod 2 = r := ⟨_, rfl⟩
  obtain ⟨e1, he1⟩ : ∃ e1, (r == 1) = e1 := ⟨_, rfl⟩
  have he2 : (e1 == d) = true := (by
    have h2 : r = xt % 2 := by rw [← hr, Int.tmod_eq_emod_of_nonneg g4]
    have h3 : e1 = d := by
      rw [← he1, h2, ← g6]
      by_cases h : xt % 2 = 1 <;> simp [h]
    rw [h3]; simp)
  have hwant : (xt == tu + (T.length : Int)) = true := (by rw [g1 ho]; simp)
  have hm1 : IntKind.i64.wrap (m1 : Int) = (m1 : Int) := by rw [IntKind.wrap_i64]; omega
  have hne1 : ((m1 : Int) == nx) = false := by simpa using hx
  have HMk : Hid (Mk m2 kk) := hMk
  have Hlen : Hid (M.length = 32) := hlen
  have Hl : Hid (sl.length = len) := hl
  have HT1 : Hid (T.length ≤ 1) := g3
  have hT1 : (T.length : Int) ≤ 1 := by omega
  have y1 : Hid (0 = 0) := rfl
  have y2 : Hid (0 = 0) := rfl
  have y3 : Hid (0 = 0) := rfl
  have y4 : Hid (0 = 0) := rfl
  have y5 : Hid (0 = 0) := rfl
  have y6 : Hid (0 = 0) := rfl
  have y7 : Hid (0 = 0) := rfl
  clear hRe hR hK hBd hc hcs hM hM2 hM3 g1 g2 g3 g4 g5 g6 tk1 tk2 nk1 hlen hxt hA hMM hT hkk hMk hl hx h1
  go_enter Try.func5, Try.ntmps5
  go_wp2_with (first
    | (go_at_call 7; refine (awake_any _).mono ?_; rintro e w1 ⟨rfl, hb1⟩; have H1 : Hid (Below (w.alloc (.cells #[.int .i64 lv, .int .i64 tu, .int .i64 nx, .int .i64 lo, .slice a len cap] 24)).heap.size (w.alloc (.cells #[.int .i64 lv, .int .i64 tu, .int .i64 nx, .int .i64 lo, .slice a len cap] 24)) w1) := hb1; obtain ⟨x0, x1, x2, x3, x4⟩ := (N0.out.below H1.out).c; clear hb1)
    | (go_at_call 8; refine (k8.out _ (bstep H0.out H1.out)).mono ?_; rintro e w2 ⟨a2, c2', rfl, r2, hb2⟩; have R2 : Hid (Rd w2 (.slice a2 16 c2') A) := r2; have H2 : Hid (Below (w.alloc (.cells #[.int .i64 lv, .int .i64 tu, .int .i64 nx, .int .i64 lo, .slice a len cap] 24)).heap.size (w.alloc (.cells #[.int .i64 lv, .int .i64 tu, .int .i64 nx, .int .i64 lo, .slice a len cap] 24)) w2) := bstep H1.out hb2; clear hb2 r2 x0 x1 x2 x3 x4; obtain ⟨x0, x1, x2, x3, x4⟩ := (N0.out.below H2.out).c)
    | (clear y1; at_make; refine wpList_make_full _ rfl _ _ 22 rfl w2.heap.size 3 i0 (.int .i64 0) 1 Try.underlying22 hi hz0 hz1 .i64 .i64 _ _ 16 rfl rfl rfl rfl (by rw [hz2]; omega) (by unfold maxLen; omega) (Nat.le_refl _) ?_; intro w3 o3 g3; have b3 : Below w2.heap.size w2 w3 := below_grownN g3; have O3 : Hid (OwnI w3 w2.heap.size (.slice (some ⟨w2.heap.size, 0, none⟩) 16 16) (List.replicate 16 0)) := own_zero o3; have B3 : Hid (Below w2.heap.size w2 w3) := b3; clear o3 g3 b3)
    | (clear y2; at_builtin; refine append_own_rd rfl (.tmp 53) (.tmp 54) rfl w2.heap.size (.slice (some ⟨w2.heap.size, 0, none⟩) 16 16) (List.replicate 16 0) rfl O3.out (.slice a2 16 c2') A rfl (R2.out.below B3.out) (by simp) B3.out.size M HM.out ?_; intro a4 c4 w4 o4 b4; have R4 : Hid (Rd w4 (.slice a4 M.length c4) M) := o4.rd (by rw [Hlen.out]; omega); have B4 : Hid (Below w2.heap.size w2 w4) := B3.out.trans b4; clear o4 b4)
    | (go_at_call 21; refine (k21.out _ _ R4.out).mono ?_; rintro e w5 ⟨p1, q1, p2, q2, p3, q3, rfl, r5, hb5⟩; have R5 : Hid (RdM (w5.alloc (.cells #[.slice p1 32 q1, .slice p2 32 q2, .slice p3 0 q3] 43)) (.slice p1 32 q1) (.slice p2 32 q2) (.slice p3 0 q3) (allM M)) := r5.below ((Below.refl _ _).alloc (Nat.le_refl _) _); have X5 : Hid (Bx (w5.alloc (.cells #[.slice p1 32 q1, .slice p2 32 q2, .slice p3 0 q3] 43)) w5.heap.size (.slice p1 32 q1) (.slice p2 32 q2) (.slice p3 0 q3)) := bx_new w5 _ _ _ 43; have H5 : Hid (Below (w.alloc (.cells #[.int .i64 lv, .int .i64 tu, .int .i64 nx, .int .i64 lo, .slice a len cap] 24)).heap.size (w.alloc (.cells #[.int .i64 lv, .int .i64 tu, .int .i64 nx, .int .i64 lo, .slice a len cap] 24)) (w5.alloc (.cells #[.slice p1 32 q1, .slice p2 32 q2, .slice p3 0 q3] 43))) := bstep (bstep H2.out (bstep B4.out hb5)) ((Below.refl _ _).alloc (Nat.le_refl _) _); clear r5 hb5 x0 x1 x2 x3 x4; obtain ⟨x0, x1, x2, x3, x4⟩ := (N0.out.below H5.out).c)
    | (go_at_call 19; refine (k19.out _ (bstep H0.out H5.out)).mono ?_; rintro e w6 ⟨a6, c6, rfl, r6, hb6⟩; have R6 : Hid (RdS w6 (.slice a6 T.length c6) T) := r6; have J6 : Hid (Below (w5.alloc (.cells #[.slice p1 32 q1, .slice p2 32 q2, .slice p3 0 q3] 43)).heap.size (w5.alloc (.cells #[.slice p1 32 q1, .slice p2 32 q2, .slice p3 0 q3] 43)) w6) := hb6; clear hb6 r6 x0 x1 x2 x3 x4)
    | (go_at_call 12; refine (k12.out _).mono ?_; rintro e w7 ⟨a7, c7, rfl, r7, hb7⟩; have R7 : Hid (RdS w7 (.slice a7 2 c7) [⟨1, 17, (m1 : Int)⟩, ⟨2, 2, 0⟩]) := r7; have R67 : Hid (RdS w7 (.slice a6 T.length c6) T) := R6.out.below hb7; have J7 : Hid (Below (w5.alloc (.cells #[.slice p1 32 q1, .slice p2 32 q2, .slice p3 0 q3] 43)).heap.size (w5.alloc (.cells #[.slice p1 32 q1, .slice p2 32 q2, .slice p3 0 q3] 43)) w7) := bstep J6.out hb7; obtain ⟨⟨z0, z1, z2⟩, -⟩ := X5.out.below J7.out; clear hb7 r7)
    | (go_at_call 22; refine (k22.out _ _ _ _ _ (R5.out.below J7.out) R67.out).mono ?_; rintro e w8 ⟨b1, n1, d1, b2, n2, d2, b3, n3, d3, rfl, r8, hb8⟩; have R8 : Hid (Rd (w8.alloc (.cells #[.slice b1 n1 d1, .slice b2 n2 d2, .slice b3 n3 d3] 43)) (.slice b1 n1 d1) (mmL ⟨lv, xt, nx, lo, sl⟩)) := r8.below ((Below.refl _ _).alloc (Nat.le_refl _) _); have L8 : Hid (Below w7.heap.size w7 (w8.alloc (.cells #[.slice b1 n1 d1, .slice b2 n2 d2, .slice b3 n3 d3] 43))) := hb8.alloc hb8.size _; clear r8 hb8 z0 z1 z2)
    | (clear y3; go_at_call 10; refine (kx.out _ _ R8.out).mono ?_; rintro e w9 ⟨a9, c9, rfl, r9, hb9⟩; have R9 : Hid (Rd (w9.alloc (.cells #[.int .i64 lv, .int .i64 xt, .int .i64 nx, .int .i64 lo, .slice a9 len c9] 24)) (.slice a9 len c9) sl) := r9.below ((Below.refl _ _).alloc (Nat.le_refl _) _); have X9 : Hid (Nb (w9.alloc (.cells #[.int .i64 lv, .int .i64 xt, .int .i64 nx, .int .i64 lo, .slice a9 len c9] 24)) w9.heap.size lv xt nx lo (.slice a9 len c9)) := nb_new w9 _ _ _ _ _; have L9 : Hid (Below w7.heap.size w7 (w9.alloc (.cells #[.int .i64 lv, .int .i64 xt, .int .i64 nx, .int .i64 lo, .slice a9 len c9] 24))) := (bstep L8.out hb9).alloc (bstep L8.out hb9).size _; have J9 : Hid (Below (w5.alloc (.cells #[.slice p1 32 q1, .slice p2 32 q2, .slice p3 0 q3] 43)).heap.size (w5.alloc (.cells #[.slice p1 32 q1, .slice p2 32 q2, .slice p3 0 q3] 43)) (w9.alloc (.cells #[.int .i64 lv, .int .i64 xt, .int .i64 nx, .int .i64 lo, .slice a9 len c9] 24))) := bstep J7.out L9.out; have H9 : Hid (Below (w.alloc (.cells #[.int .i64 lv, .int .i64 tu, .int .i64 nx, .int .i64 lo, .slice a len cap] 24)).heap.size (w.alloc (.cells #[.int .i64 lv, .int .i64 tu, .int .i64 nx, .int .i64 lo, .slice a len cap] 24)) (w9.alloc (.cells #[.int .i64 lv, .int .i64 xt, .int .i64 nx, .int .i64 lo, .slice a9 len c9] 24))) := bstep H5.out J9.out; clear r9 hb9))
  have S0 : Hid (((w9.alloc (.cells #[.int .i64 lv, .int .i64 xt, .int .i64 nx, .int .i64 lo, .slice a9 len c9] 24))).drew.cell? ⟨w5.heap.size, 0, none⟩ = some (.slice p1 32 q1) ∧ ((w9.alloc (.cells #[.int .i64 lv, .int .i64 xt, .int .i64 nx, .int .i64 lo, .slice a9 len c9] 24))).drew.cell? ⟨w5.heap.size, 1, none⟩ = some (.slice p2 32 q2) ∧ ((w9.alloc (.cells #[.int .i64 lv, .int .i64 xt, .int .i64 nx, .int .i64 lo, .slice a9 len c9] 24))).drew.cell? ⟨w5.heap.size, 2, none⟩ = some (.slice p3 0 q3)) := (X5.out.below (bstep J9.out (Below.refl _ _).drew)).1
  have J9d : Hid (Below (w5.alloc (.cells #[.slice p1 32 q1, .slice p2 32 q2, .slice p3 0 q3] 43)).heap.size (w5.alloc (.cells #[.slice p1 32 q1, .slice p2 32 q2, .slice p3 0 q3] 43)) ((w9.alloc (.cells #[.int .i64 lv, .int .i64 xt, .int .i64 nx, .int .i64 lo, .slice a9 len c9] 24))).drew) := J9.out.drew
  have L9d : Hid (Below w7.heap.size w7 ((w9.alloc (.cells #[.int .i64 lv, .int .i64 xt, .int .i64 nx, .int .i64 lo, .slice a9 len c9] 24))).drew) := L9.out.drew
  obtain ⟨f1, f2, f3, f4, f5, f6⟩ := HMk.out
  go_region_held3 (fun W2 => W2.cell? ⟨w5.heap.size, 0, none⟩ = some (.slice p1 32 q1) ∧ W2.cell? ⟨w5.heap.size, 1, none⟩ = some (.slice p2 32 q2) ∧ W2.cell? ⟨w5.heap.size, 2, none⟩ = some (.slice p3 0 q3))
    (first | with_reducible exact S0.out | with_reducible exact S1.out)
    (first
      | (go_at_call 23; refine (k23.out _ _ _ _ _ (bstep H0.out (bstep H5.out J9d.out)) (R5.out.below J9d.out) (R7.out.below L9d.out)).mono ?_; rintro e w10 ⟨v10, rfl, r10, hb10⟩; have R10 : Hid (Rd w10 v10 R) := r10; have G10 : Hid (Below (w9.alloc (.cells #[.int .i64 lv, .int .i64 xt, .int .i64 nx, .int .i64 lo, .slice a9 len c9] 24)).heap.size (w9.alloc (.cells #[.int .i64 lv, .int .i64 xt, .int .i64 nx, .int .i64 lo, .slice a9 len c9] 24)) w10) := bstep (Below.refl _ _).drew hb10; have S1 : Hid (w10.cell? ⟨w5.heap.size, 0, none⟩ = some (.slice p1 32 q1) ∧ w10.cell? ⟨w5.heap.size, 1, none⟩ = some (.slice p2 32 q2) ∧ w10.cell? ⟨w5.heap.size, 2, none⟩ = some (.slice p3 0 q3)) := (X5.out.below (bstep J9d.out hb10)).1; clear r10 hb10))
  clear f1 f2 f3 f4 f5 f6
  go_wp2_with (first
    | (clear y4; go_at_call 10; refine (ky.out _ _ R10.out).mono ?_; rintro e w11 ⟨a11, c11, rfl, r11, hb11⟩; have R11 : Hid (Rd (w11.alloc (.cells #[.int .i64 lv, .int .i64 tu, .int .i64 (m1 : Int), .int .i64 lo, .slice a11 len c11] 24)) (.slice a11 len c11) sl) := r11.below ((Below.refl _ _).alloc (Nat.le_refl _) _); have X11 : Hid (Nb (w11.alloc (.cells #[.int .i64 lv, .int .i64 tu, .int .i64 (m1 : Int), .int .i64 lo, .slice a11 len c11] 24)) w11.heap.size lv tu (m1 : Int) lo (.slice a11 len c11)) := nb_new w11 _ _ _ _ _; have G11 : Hid (Below (w9.alloc (.cells #[.int .i64 lv, .int .i64 xt, .int .i64 nx, .int .i64 lo, .slice a9 len c9] 24)).heap.size (w9.alloc (.cells #[.int .i64 lv, .int .i64 xt, .int .i64 nx, .int .i64 lo, .slice a9 len c9] 24)) (w11.alloc (.cells #[.int .i64 lv, .int .i64 tu, .int .i64 (m1 : Int), .int .i64 lo, .slice a11 len c11] 24))) := (bstep G10.out hb11).alloc (bstep G10.out hb11).size _; have R10c : Hid (Rd w11 v10 R) := R10.out.below hb11; have R11c : Hid (Rd w11 (.slice a11 len c11) sl) := r11; have H11c : Hid (Below (w.alloc (.cells #[.int .i64 lv, .int .i64 tu, .int .i64 nx, .int .i64 lo, .slice a len cap] 24)).heap.size (w.alloc (.cells #[.int .i64 lv, .int .i64 tu, .int .i64 nx, .int .i64 lo, .slice a len cap] 24)) w11) := bstep H9.out (bstep G10.out hb11); have H11 : Hid (Below (w.alloc (.cells #[.int .i64 lv, .int .i64 tu, .int .i64 nx, .int .i64 lo, .slice a len cap] 24)).heap.size (w.alloc (.cells #[.int .i64 lv, .int .i64 tu, .int .i64 nx, .int .i64 lo, .slice a len cap] 24)) (w11.alloc (.cells #[.int .i64 lv, .int .i64 tu, .int .i64 (m1 : Int), .int .i64 lo, .slice a11 len c11] 24))) := bstep H9.out G11.out; obtain ⟨n0, n1, n2, n3, n4⟩ := (N0.out.below H11.out).c; obtain ⟨u0, u1, u2, u3, u4⟩ := (X9.out.below G11.out).c; clear r11 hb11)
    | (go_at_call 14; refine (numbers_any _ _ sl sl _ (R9.out.below G11.out) (HR.out.below (bstep H0.out H11.out))).mono ?_; rintro e w12 ⟨rfl, hb12⟩; rw [decide_eq_true rfl]; have G12 : Hid (Below (w11.alloc (.cells #[.int .i64 lv, .int .i64 tu, .int .i64 (m1 : Int), .int .i64 lo, .slice a11 len c11] 24)).heap.size (w11.alloc (.cells #[.int .i64 lv, .int .i64 tu, .int .i64 (m1 : Int), .int .i64 lo, .slice a11 len c11] 24)) w12) := hb12; have H12 : Hid (Below (w.alloc (.cells #[.int .i64 lv, .int .i64 tu, .int .i64 nx, .int .i64 lo, .slice a len cap] 24)).heap.size (w.alloc (.cells #[.int .i64 lv, .int .i64 tu, .int .i64 nx, .int .i64 lo, .slice a len cap] 24)) w12) := bstep H11.out hb12; clear n0 n1 n2 n3 n4 u0 u1 u2 u3 u4; obtain ⟨n0, n1, n2, n3, n4⟩ := (N0.out.below H12.out).c; have X12 : Hid (Nb w12 w11.heap.size lv tu (m1 : Int) lo (.slice a11 len c11)) := X11.out.below hb12; obtain ⟨v0, v1, v2, v3, v4⟩ := X12.out.c; have fz := X12.out.free 2; have X12s : Hid (Nb (w12.setCell ⟨w11.heap.size, 2, none⟩ (.int .i64 nx)) w11.heap.size lv tu nx lo (.slice a11 len c11)) := X12.out.set2 nx; have G12s : Hid (Below w11.heap.size w11 (w12.setCell ⟨w11.heap.size, 2, none⟩ (.int .i64 nx))) := (((Below.refl _ w11).alloc (Nat.le_refl _) _).trans (hb12.mono (by simp))).setCell (p := ⟨w11.heap.size, 2, none⟩) (Nat.le_refl _) _; clear hb12)
    | (clear y5; go_at_call 10; refine (ky.out _ _ (R10c.out.below G12s.out)).mono ?_; rintro e w13 ⟨a13, c13, rfl, r13, hb13⟩; have b13 : Hid (Below (w12.setCell ⟨w11.heap.size, 2, none⟩ (.int .i64 nx)).heap.size (w12.setCell ⟨w11.heap.size, 2, none⟩ (.int .i64 nx)) (w13.alloc (.cells #[.int .i64 lv, .int .i64 tu, .int .i64 (m1 : Int), .int .i64 lo, .slice a13 len c13] 24))) := hb13.alloc hb13.size _; have X13 : Hid (Nb (w13.alloc (.cells #[.int .i64 lv, .int .i64 tu, .int .i64 (m1 : Int), .int .i64 lo, .slice a13 len c13] 24)) w13.heap.size lv tu (m1 : Int) lo (.slice a13 len c13)) := nb_new w13 _ _ _ _ _; have H13 : Hid (Below (w.alloc (.cells #[.int .i64 lv, .int .i64 tu, .int .i64 nx, .int .i64 lo, .slice a len cap] 24)).heap.size (w.alloc (.cells #[.int .i64 lv, .int .i64 tu, .int .i64 nx, .int .i64 lo, .slice a len cap] 24)) (w13.alloc (.cells #[.int .i64 lv, .int .i64 tu, .int .i64 (m1 : Int), .int .i64 lo, .slice a13 len c13] 24))) := bstep H11c.out (bstep G12s.out b13.out); have R13y : Hid (Rd (w13.alloc (.cells #[.int .i64 lv, .int .i64 tu, .int .i64 (m1 : Int), .int .i64 lo, .slice a13 len c13] 24)) (.slice a11 len c11) sl) := (R11c.out.below G12s.out).below b13.out; clear n0 n1 n2 n3 n4 v0 v1 v2 v3 v4 fz; obtain ⟨n0, n1, n2, n3, n4⟩ := (N0.out.below H13.out).c; obtain ⟨v0, v1, v2, v3, v4⟩ := (X12s.out.below b13.out).c; clear r13 hb13)
    | (go_at_call 15; refine (ks.out _ _ _ R13y.out (HR.out.below (bstep H0.out H13.out))).mono ?_; rintro e w14 ⟨rfl, hb14⟩; have H14 : Hid (Below (w.alloc (.cells #[.int .i64 lv, .int .i64 tu, .int .i64 nx, .int .i64 lo, .slice a len cap] 24)).heap.size (w.alloc (.cells #[.int .i64 lv, .int .i64 tu, .int .i64 nx, .int .i64 lo, .slice a len cap] 24)) w14) := bstep H13.out hb14; clear n0 n1 n2 n3 n4 v0 v1 v2 v3 v4; obtain ⟨n0, n1, n2, n3, n4⟩ := (N0.out.below H14.out).c; obtain ⟨v0, v1, v2, v3, v4⟩ := (X13.out.below hb14).c; clear hb14))
  go_ret
  exact ⟨ret_bool rfl, bstep H0.out H14.out⟩
set_option maxRecDepth 100000 in
set_option maxHeartbeats 4000000 in
theorem turns_os (lv tu nx lo : Int) (sl : List Int) (a : Option Addr) (len cap : Nat) (m1 : Nat) (d : Bool) (m2 : Nat) (ak : Option Addr) (nk ck : Nat) (keep : List Int) (kk : Int) (w : World) (hl : sl.length = len) (hR : Rd w (.slice a len cap) sl) (hK : Rd w (.slice ak nk ck) keep) (hBd : Bd keep) (c1 : ¬ (len : Int) > 100) (c2 : ¬ (nk : Int) > 20) (hc : nnB ⟨lv, tu, nx, lo, sl⟩ = true) (h1 : m1 < 256) (hkk : kk = 0 ∨ kk = 1 ∨ kk = 2) (hMk : Mk m2 kk)
    (R : List Int) (hRe : R = mmL ⟨lv, tu, nx, lo, sl⟩) (hcs : csP (allM (mmL ⟨lv, tu, nx, lo, sl⟩)) [⟨1, 17, (m1 : Int)⟩, ⟨2, 2, 0⟩] kk keep = R) (ho : tu + ((tnL 1 ⟨lv, tu, nx, lo, sl⟩ d).length : Int) > 1099511627776) :
    Calls Try.prog 5 #[.agg #[.int .i64 lv, .int .i64 tu, .int .i64 nx, .int .i64 lo, .slice a len cap], .int .u8 (m1 : Int), .bool d, .int .u8 (m2 : Int), .slice ak nk ck] w fun e w' => e = .returned (.bool true) ∧ Below w.heap.size w w' := by
  obtain ⟨i0, hi, hz0, hz1, hz2⟩ := info_parts Try.info3
  have hM := nnB_iff.1 hc
  obtain ⟨g1, g2, g3, g4, g5, g6⟩ := turn_want d hM
  obtain ⟨tk1, tk2⟩ := turn_kept d hM
  obtain ⟨nk1, -⟩ := next_either ⟨lv, tu, nx, lo, sl⟩ (m1 : Int) keep kk hM hkk
  have hlen := mmL_length hM.len
  obtain ⟨xt, hxt⟩ : ∃ xt, xtI ⟨lv, tu, nx, lo, sl⟩ d = xt := ⟨_, rfl⟩
  rw [hxt] at g1 g2 g4 g5 g6 tk2
  dsimp only at g1 g2 g3 tk2
  have hM2 : May ⟨lv, xt, nx, lo, sl⟩ := ⟨hM.len, hM.l0, hM.l9, g4, g5, hM.x0, hM.x9, hM.w0, hM.w9, hM.sl⟩
  have hM3 : May ⟨lv, tu, nx, lo, sl⟩ := ⟨hM.len, hM.l0, hM.l9, hM.t0, hM.t9, by exact hM.x0, by exact hM.x9, hM.w0, hM.w9, hM.sl⟩
  have t0 := hM.t0
  have t9 := hM.t9
  dsimp only at t0 t9
  have N0 : Hid (Nb (w.alloc (.cells #[.int .i64 lv, .int .i64 tu, .int .i64 nx, .int .i64 lo, .slice a len cap] 24)) w.heap.size lv tu nx lo (.slice a len cap)) := nb_new w lv tu nx lo _
  have H0 : Hid (Below w.heap.size w (w.alloc (.cells #[.int .i64 lv, .int .i64 tu, .int .i64 nx, .int .i64 lo, .slice a len cap] 24))) := (Below.refl _ _).alloc (Nat.le_refl _) _
  have HR : Hid (Rd w (.slice a len cap) sl) := hR
  have HK : Hid (Rd w (.slice ak nk ck) keep) := hK
  have kx : Hid (∀ v W, Rd W v (mmL ⟨lv, xt, nx, lo, sl⟩) → Calls Try.prog 10 #[v, .int .i64 1] W fun e w' => ∃ a c, e = .returned (.tuple #[.agg #[.int .i64 lv, .int .i64 xt, .int .i64 nx, .int .i64 lo, .slice a len c], .int .i64 0]) ∧ Rd w' (.slice a len c) sl ∧ Below W.heap.size W w') := fun v W h => (by refine (read_any v _ 1 W h).mono ?_; rw [mmL, (rn_two hM2).1, (rn_two hM2).2]; rintro e w' ⟨v', rfl, r, hb⟩; obtain ⟨_, a, c, rfl⟩ := r.form; dsimp only at r ⊢; rw [hl] at r ⊢; exact ⟨a, c, rfl, r, hb⟩)
  have ky : Hid (∀ v W, Rd W v R → Calls Try.prog 10 #[v, .int .i64 1] W fun e w' => ∃ a c, e = .returned (.tuple #[.agg #[.int .i64 lv, .int .i64 tu, .int .i64 nx, .int .i64 lo, .slice a len c], .int .i64 0]) ∧ Rd w' (.slice a len c) sl ∧ Below W.heap.size W w') := fun v W h => (by rw [hRe] at h; refine (read_any v _ 1 W h).mono ?_; rw [mmL, (rn_two hM3).1, (rn_two hM3).2]; rintro e w' ⟨v', rfl, r, hb⟩; obtain ⟨_, a, c, rfl⟩ := r.form; dsimp only at r ⊢; rw [hl] at r ⊢; exact ⟨a, c, rfl, r, hb⟩)
  have ks : Hid (∀ (v v' : Value) W, Rd W v sl → Rd W v' sl → Calls Try.prog 15 #[.agg #[.int .i64 lv, .int .i64 tu, .int .i64 nx, .int .i64 lo, v], .agg #[.int .i64 lv, .int .i64 tu, .int .i64 nx, .int .i64 lo, v']] W fun e w' => e = .returned (.bool true) ∧ Below W.heap.size W w') := fun v v' W h h' => (by have := same_any ⟨lv, tu, nx, lo, sl⟩ ⟨lv, tu, nx, lo, sl⟩ v v' W h h'; rwa [decide_eq_true rfl] at this)
  obtain ⟨A, hA⟩ : ∃ A, imN ⟨lv, tu, nx, lo, sl⟩ = A := ⟨_, rfl⟩
  have k8 : Hid (∀ W, Below w.heap.size w W → Calls Try.prog 8 #[.agg #[.int .i64 lv, .int .i64 tu, .int .i64 nx, .int .i64 lo, .slice a len cap]] W fun e w' => ∃ a c, e = .returned (.tuple #[.slice a 16 c, .int .i64 0]) ∧ Rd w' (.slice a 16 c) A ∧ Below W.heap.size W w') := fun W hb => (by have := words_node ⟨lv, tu, nx, lo, sl⟩ _ W (HR.out.below hb); rw [(wn_yes hc).1, (wn_yes hc).2] at this; refine this.mono ?_; rintro e w' ⟨v', rfl, r, hb⟩; obtain ⟨_, a, c, rfl⟩ := r.form; rw [imN_length hM.len] at r ⊢; rw [← hA]; exact ⟨a, c, rfl, r, hb⟩)
  obtain ⟨M, hMM⟩ : ∃ M, mmL ⟨lv, tu, nx, lo, sl⟩ = M := ⟨_, rfl⟩
  rw [hMM] at hlen tk1 tk2 nk1 hcs
  have HM : Hid (List.replicate 16 0 ++ A = M) := (by show _ = _; rw [← hA]; exact hMM)
  have k21 : Hid (∀ v w, Rd w v M → Calls Try.prog 21 #[v] w fun e w' => ∃ a1 c1 a2 c2 a3 c3, e = .returned (.tuple #[.agg #[.slice a1 32 c1, .slice a2 32 c2, .slice a3 0 c3], .int .i64 0]) ∧ RdM w' (.slice a1 32 c1) (.slice a2 32 c2) (.slice a3 0 c3) (allM M) ∧ Below w.heap.size w w') := fun v w hR => (by have := new_all v M w hR (by omega) (by omega); rwa [hlen] at this)
  obtain ⟨T, hT⟩ : ∃ T, tnL 1 ⟨lv, tu, nx, lo, sl⟩ d = T := ⟨_, rfl⟩
  rw [hT] at g1 g2 g3 tk1 tk2 ho
  have k19 : Hid (∀ W, Below w.heap.size w W → Calls Try.prog 19 #[.int .i64 1, .agg #[.int .i64 lv, .int .i64 tu, .int .i64 nx, .int .i64 lo, .slice a len cap], .bool d] W fun e w' => ∃ a c, e = .returned (.slice a T.length c) ∧ RdS w' (.slice a T.length c) T ∧ Below W.heap.size W w') := fun W hb => (by have := turn_any 1 ⟨lv, tu, nx, lo, sl⟩ d _ W (HR.out.below hb); rw [hT] at this; refine this.mono ?_; rintro e w' ⟨v', rfl, r, hb⟩; obtain ⟨_, a, c, rfl⟩ := r.form; exact ⟨a, c, rfl, r, hb⟩)
  have k12 : Hid (∀ W, Calls Try.prog 12 #[.int .i64 1, .int .i64 (m1 : Int)] W fun e w' => ∃ a c, e = .returned (.tuple #[.slice a 2 c, .int .i64 0]) ∧ RdS w' (.slice a 2 c) [⟨1, 17, (m1 : Int)⟩, ⟨2, 2, 0⟩] ∧ Below W.heap.size W w') := fun W => (by have hx := nx_yes (b := 1) (x := (m1 : Int)) (by unfold nxB; rw [lkB_iff.2 (show 0 ≤ (m1 : Int) ∧ (m1 : Int) ≤ 255 by omega)]; rfl); have := next_any 1 (m1 : Int) W; rw [hx.1, hx.2] at this; refine this.mono ?_; rintro e w' ⟨v', rfl, r, hb⟩; obtain ⟨_, a, c, rfl⟩ := r.form; exact ⟨a, c, rfl, r, hb⟩)
  have k22 : Hid (∀ va vb vc v W, RdM W va vb vc (allM M) → RdS W v T → Calls Try.prog 22 #[.agg #[va, vb, vc], v] W fun e w' => ∃ a1 n1 c1 a2 n2 c2 a3 n3 c3, e = .returned (.tuple #[.agg #[.slice a1 n1 c1, .slice a2 n2 c2, .slice a3 n3 c3], .int .i64 0]) ∧ Rd w' (.slice a1 n1 c1) (mmL ⟨lv, xt, nx, lo, sl⟩) ∧ Below W.heap.size W w') := fun va vb vc v W hm hs => (by have := run_any va vb vc v (allM M) T W hm hs (by show 0 + T.length ≤ 900; omega); rw [ruE_yes tk1, ruM_yes tk1] at this; refine this.mono ?_; rintro e w' ⟨u1, u2, u3, rfl, r, hb⟩; obtain ⟨a1, c1, a2, c2, a3, c3, rfl, rfl, rfl⟩ := r.forms; exact ⟨a1, _, c1, a2, _, c2, a3, _, c3, rfl, (by rw [← tk2]; exact r.vol), hb⟩)
  have k23 : Hid (∀ va vb vc v W, Below w.heap.size w W → RdM W va vb vc (allM M) → RdS W v [⟨1, 17, (m1 : Int)⟩, ⟨2, 2, 0⟩] → Calls Try.prog 23 #[.agg #[va, vb, vc], v, .int .i64 kk, .slice ak nk ck] W fun e w' => ∃ v', e = .returned (.tuple #[v', .int .i64 0]) ∧ Rd w' v' R ∧ Below W.heap.size W w') := fun va vb vc v W hW hm hs => (by have := crashS_any va vb vc v _ _ _ kk keep W hm hs (HK.out.below hW) hBd (by show 0 + 2 ≤ 900; omega); rwa [ruE_yes nk1, hcs] at this)
  obtain ⟨r, hr⟩ : ∃ r, xt.tmod 2 = r := ⟨_, rfl⟩
  obtain ⟨e1, he1⟩ : ∃ e1, (r == 1) = e1 := ⟨_, rfl⟩
  have he2 : (e1 == d) = true := (by
    have h2 : r = xt % 2 := by rw [← hr, Int.tmod_eq_emod_of_nonneg g4]
    have h3 : e1 = d := by
      rw [← he1, h2, ← g6]
      by_cases h : xt % 2 = 1 <;> simp [h]
    rw [h3]; simp)
  have hwant : (xt == 1) = true := (by rw [g2 ho]; simp)
  have hm1 : IntKind.i64.wrap (m1 : Int) = (m1 : Int) := by rw [IntKind.wrap_i64]; omega
  
  have HMk : Hid (Mk m2 kk) := hMk
  have Hlen : Hid (M.length = 32) := hlen
  have Hl : Hid (sl.length = len) := hl
  have HT1 : Hid (T.length ≤ 1) := g3
  have hT1 : (T.length : Int) ≤ 1 := by omega
  have y1 : Hid (0 = 0) := rfl
  have y2 : Hid (0 = 0) := rfl
  have y3 : Hid (0 = 0) := rfl
  have y4 : Hid (0 = 0) := rfl
  have y5 : Hid (0 = 0) := rfl
  have y6 : Hid (0 = 0) := rfl
  have y7 : Hid (0 = 0) := rfl
  clear hRe hR hK hBd hc hcs hM hM2 hM3 g1 g2 g3 g4 g5 g6 tk1 tk2 nk1 hlen hxt hA hMM hT hkk hMk hl h1
  go_enter Try.func5, Try.ntmps5
  go_wp2_with (first
    | (go_at_call 7; refine (awake_any _).mono ?_; rintro e w1 ⟨rfl, hb1⟩; have H1 : Hid (Below (w.alloc (.cells #[.int .i64 lv, .int .i64 tu, .int .i64 nx, .int .i64 lo, .slice a len cap] 24)).heap.size (w.alloc (.cells #[.int .i64 lv, .int .i64 tu, .int .i64 nx, .int .i64 lo, .slice a len cap] 24)) w1) := hb1; obtain ⟨x0, x1, x2, x3, x4⟩ := (N0.out.below H1.out).c; clear hb1)
    | (go_at_call 8; refine (k8.out _ (bstep H0.out H1.out)).mono ?_; rintro e w2 ⟨a2, c2', rfl, r2, hb2⟩; have R2 : Hid (Rd w2 (.slice a2 16 c2') A) := r2; have H2 : Hid (Below (w.alloc (.cells #[.int .i64 lv, .int .i64 tu, .int .i64 nx, .int .i64 lo, .slice a len cap] 24)).heap.size (w.alloc (.cells #[.int .i64 lv, .int .i64 tu, .int .i64 nx, .int .i64 lo, .slice a len cap] 24)) w2) := bstep H1.out hb2; clear hb2 r2 x0 x1 x2 x3 x4; obtain ⟨x0, x1, x2, x3, x4⟩ := (N0.out.below H2.out).c)
    | (clear y1; at_make; refine wpList_make_full _ rfl _ _ 22 rfl w2.heap.size 3 i0 (.int .i64 0) 1 Try.underlying22 hi hz0 hz1 .i64 .i64 _ _ 16 rfl rfl rfl rfl (by rw [hz2]; omega) (by unfold maxLen; omega) (Nat.le_refl _) ?_; intro w3 o3 g3; have b3 : Below w2.heap.size w2 w3 := below_grownN g3; have O3 : Hid (OwnI w3 w2.heap.size (.slice (some ⟨w2.heap.size, 0, none⟩) 16 16) (List.replicate 16 0)) := own_zero o3; have B3 : Hid (Below w2.heap.size w2 w3) := b3; clear o3 g3 b3)
    | (clear y2; at_builtin; refine append_own_rd rfl (.tmp 53) (.tmp 54) rfl w2.heap.size (.slice (some ⟨w2.heap.size, 0, none⟩) 16 16) (List.replicate 16 0) rfl O3.out (.slice a2 16 c2') A rfl (R2.out.below B3.out) (by simp) B3.out.size M HM.out ?_; intro a4 c4 w4 o4 b4; have R4 : Hid (Rd w4 (.slice a4 M.length c4) M) := o4.rd (by rw [Hlen.out]; omega); have B4 : Hid (Below w2.heap.size w2 w4) := B3.out.trans b4; clear o4 b4)
    | (go_at_call 21; refine (k21.out _ _ R4.out).mono ?_; rintro e w5 ⟨p1, q1, p2, q2, p3, q3, rfl, r5, hb5⟩; have R5 : Hid (RdM (w5.alloc (.cells #[.slice p1 32 q1, .slice p2 32 q2, .slice p3 0 q3] 43)) (.slice p1 32 q1) (.slice p2 32 q2) (.slice p3 0 q3) (allM M)) := r5.below ((Below.refl _ _).alloc (Nat.le_refl _) _); have X5 : Hid (Bx (w5.alloc (.cells #[.slice p1 32 q1, .slice p2 32 q2, .slice p3 0 q3] 43)) w5.heap.size (.slice p1 32 q1) (.slice p2 32 q2) (.slice p3 0 q3)) := bx_new w5 _ _ _ 43; have H5 : Hid (Below (w.alloc (.cells #[.int .i64 lv, .int .i64 tu, .int .i64 nx, .int .i64 lo, .slice a len cap] 24)).heap.size (w.alloc (.cells #[.int .i64 lv, .int .i64 tu, .int .i64 nx, .int .i64 lo, .slice a len cap] 24)) (w5.alloc (.cells #[.slice p1 32 q1, .slice p2 32 q2, .slice p3 0 q3] 43))) := bstep (bstep H2.out (bstep B4.out hb5)) ((Below.refl _ _).alloc (Nat.le_refl _) _); clear r5 hb5 x0 x1 x2 x3 x4; obtain ⟨x0, x1, x2, x3, x4⟩ := (N0.out.below H5.out).c)
    | (go_at_call 19; refine (k19.out _ (bstep H0.out H5.out)).mono ?_; rintro e w6 ⟨a6, c6, rfl, r6, hb6⟩; have R6 : Hid (RdS w6 (.slice a6 T.length c6) T) := r6; have J6 : Hid (Below (w5.alloc (.cells #[.slice p1 32 q1, .slice p2 32 q2, .slice p3 0 q3] 43)).heap.size (w5.alloc (.cells #[.slice p1 32 q1, .slice p2 32 q2, .slice p3 0 q3] 43)) w6) := hb6; clear hb6 r6 x0 x1 x2 x3 x4)
    | (go_at_call 12; refine (k12.out _).mono ?_; rintro e w7 ⟨a7, c7, rfl, r7, hb7⟩; have R7 : Hid (RdS w7 (.slice a7 2 c7) [⟨1, 17, (m1 : Int)⟩, ⟨2, 2, 0⟩]) := r7; have R67 : Hid (RdS w7 (.slice a6 T.length c6) T) := R6.out.below hb7; have J7 : Hid (Below (w5.alloc (.cells #[.slice p1 32 q1, .slice p2 32 q2, .slice p3 0 q3] 43)).heap.size (w5.alloc (.cells #[.slice p1 32 q1, .slice p2 32 q2, .slice p3 0 q3] 43)) w7) := bstep J6.out hb7; obtain ⟨⟨z0, z1, z2⟩, -⟩ := X5.out.below J7.out; clear hb7 r7)
    | (go_at_call 22; refine (k22.out _ _ _ _ _ (R5.out.below J7.out) R67.out).mono ?_; rintro e w8 ⟨b1, n1, d1, b2, n2, d2, b3, n3, d3, rfl, r8, hb8⟩; have R8 : Hid (Rd (w8.alloc (.cells #[.slice b1 n1 d1, .slice b2 n2 d2, .slice b3 n3 d3] 43)) (.slice b1 n1 d1) (mmL ⟨lv, xt, nx, lo, sl⟩)) := r8.below ((Below.refl _ _).alloc (Nat.le_refl _) _); have L8 : Hid (Below w7.heap.size w7 (w8.alloc (.cells #[.slice b1 n1 d1, .slice b2 n2 d2, .slice b3 n3 d3] 43))) := hb8.alloc hb8.size _; clear r8 hb8 z0 z1 z2)
    | (clear y3; go_at_call 10; refine (kx.out _ _ R8.out).mono ?_; rintro e w9 ⟨a9, c9, rfl, r9, hb9⟩; have R9 : Hid (Rd (w9.alloc (.cells #[.int .i64 lv, .int .i64 xt, .int .i64 nx, .int .i64 lo, .slice a9 len c9] 24)) (.slice a9 len c9) sl) := r9.below ((Below.refl _ _).alloc (Nat.le_refl _) _); have X9 : Hid (Nb (w9.alloc (.cells #[.int .i64 lv, .int .i64 xt, .int .i64 nx, .int .i64 lo, .slice a9 len c9] 24)) w9.heap.size lv xt nx lo (.slice a9 len c9)) := nb_new w9 _ _ _ _ _; have L9 : Hid (Below w7.heap.size w7 (w9.alloc (.cells #[.int .i64 lv, .int .i64 xt, .int .i64 nx, .int .i64 lo, .slice a9 len c9] 24))) := (bstep L8.out hb9).alloc (bstep L8.out hb9).size _; have J9 : Hid (Below (w5.alloc (.cells #[.slice p1 32 q1, .slice p2 32 q2, .slice p3 0 q3] 43)).heap.size (w5.alloc (.cells #[.slice p1 32 q1, .slice p2 32 q2, .slice p3 0 q3] 43)) (w9.alloc (.cells #[.int .i64 lv, .int .i64 xt, .int .i64 nx, .int .i64 lo, .slice a9 len c9] 24))) := bstep J7.out L9.out; have H9 : Hid (Below (w.alloc (.cells #[.int .i64 lv, .int .i64 tu, .int .i64 nx, .int .i64 lo, .slice a len cap] 24)).heap.size (w.alloc (.cells #[.int .i64 lv, .int .i64 tu, .int .i64 nx, .int .i64 lo, .slice a len cap] 24)) (w9.alloc (.cells #[.int .i64 lv, .int .i64 xt, .int .i64 nx, .int .i64 lo, .slice a9 len c9] 24))) := bstep H5.out J9.out; clear r9 hb9))
  have S0 : Hid (((w9.alloc (.cells #[.int .i64 lv, .int .i64 xt, .int .i64 nx, .int .i64 lo, .slice a9 len c9] 24))).drew.cell? ⟨w5.heap.size, 0, none⟩ = some (.slice p1 32 q1) ∧ ((w9.alloc (.cells #[.int .i64 lv, .int .i64 xt, .int .i64 nx, .int .i64 lo, .slice a9 len c9] 24))).drew.cell? ⟨w5.heap.size, 1, none⟩ = some (.slice p2 32 q2) ∧ ((w9.alloc (.cells #[.int .i64 lv, .int .i64 xt, .int .i64 nx, .int .i64 lo, .slice a9 len c9] 24))).drew.cell? ⟨w5.heap.size, 2, none⟩ = some (.slice p3 0 q3)) := (X5.out.below (bstep J9.out (Below.refl _ _).drew)).1
  have J9d : Hid (Below (w5.alloc (.cells #[.slice p1 32 q1, .slice p2 32 q2, .slice p3 0 q3] 43)).heap.size (w5.alloc (.cells #[.slice p1 32 q1, .slice p2 32 q2, .slice p3 0 q3] 43)) ((w9.alloc (.cells #[.int .i64 lv, .int .i64 xt, .int .i64 nx, .int .i64 lo, .slice a9 len c9] 24))).drew) := J9.out.drew
  have L9d : Hid (Below w7.heap.size w7 ((w9.alloc (.cells #[.int .i64 lv, .int .i64 xt, .int .i64 nx, .int .i64 lo, .slice a9 len c9] 24))).drew) := L9.out.drew
  obtain ⟨f1, f2, f3, f4, f5, f6⟩ := HMk.out
  go_region_held3 (fun W2 => W2.cell? ⟨w5.heap.size, 0, none⟩ = some (.slice p1 32 q1) ∧ W2.cell? ⟨w5.heap.size, 1, none⟩ = some (.slice p2 32 q2) ∧ W2.cell? ⟨w5.heap.size, 2, none⟩ = some (.slice p3 0 q3))
    (first | with_reducible exact S0.out | with_reducible exact S1.out)
    (first
      | (go_at_call 23; refine (k23.out _ _ _ _ _ (bstep H0.out (bstep H5.out J9d.out)) (R5.out.below J9d.out) (R7.out.below L9d.out)).mono ?_; rintro e w10 ⟨v10, rfl, r10, hb10⟩; have R10 : Hid (Rd w10 v10 R) := r10; have G10 : Hid (Below (w9.alloc (.cells #[.int .i64 lv, .int .i64 xt, .int .i64 nx, .int .i64 lo, .slice a9 len c9] 24)).heap.size (w9.alloc (.cells #[.int .i64 lv, .int .i64 xt, .int .i64 nx, .int .i64 lo, .slice a9 len c9] 24)) w10) := bstep (Below.refl _ _).drew hb10; have S1 : Hid (w10.cell? ⟨w5.heap.size, 0, none⟩ = some (.slice p1 32 q1) ∧ w10.cell? ⟨w5.heap.size, 1, none⟩ = some (.slice p2 32 q2) ∧ w10.cell? ⟨w5.heap.size, 2, none⟩ = some (.slice p3 0 q3)) := (X5.out.below (bstep J9d.out hb10)).1; clear r10 hb10))
  clear f1 f2 f3 f4 f5 f6
  go_wp2_with (first
    | (clear y4; go_at_call 10; refine (ky.out _ _ R10.out).mono ?_; rintro e w11 ⟨a11, c11, rfl, r11, hb11⟩; have R11 : Hid (Rd (w11.alloc (.cells #[.int .i64 lv, .int .i64 tu, .int .i64 nx, .int .i64 lo, .slice a11 len c11] 24)) (.slice a11 len c11) sl) := r11.below ((Below.refl _ _).alloc (Nat.le_refl _) _); have X11 : Hid (Nb (w11.alloc (.cells #[.int .i64 lv, .int .i64 tu, .int .i64 nx, .int .i64 lo, .slice a11 len c11] 24)) w11.heap.size lv tu nx lo (.slice a11 len c11)) := nb_new w11 _ _ _ _ _; have G11 : Hid (Below (w9.alloc (.cells #[.int .i64 lv, .int .i64 xt, .int .i64 nx, .int .i64 lo, .slice a9 len c9] 24)).heap.size (w9.alloc (.cells #[.int .i64 lv, .int .i64 xt, .int .i64 nx, .int .i64 lo, .slice a9 len c9] 24)) (w11.alloc (.cells #[.int .i64 lv, .int .i64 tu, .int .i64 nx, .int .i64 lo, .slice a11 len c11] 24))) := (bstep G10.out hb11).alloc (bstep G10.out hb11).size _; have R10c : Hid (Rd w11 v10 R) := R10.out.below hb11; have R11c : Hid (Rd w11 (.slice a11 len c11) sl) := r11; have H11c : Hid (Below (w.alloc (.cells #[.int .i64 lv, .int .i64 tu, .int .i64 nx, .int .i64 lo, .slice a len cap] 24)).heap.size (w.alloc (.cells #[.int .i64 lv, .int .i64 tu, .int .i64 nx, .int .i64 lo, .slice a len cap] 24)) w11) := bstep H9.out (bstep G10.out hb11); have H11 : Hid (Below (w.alloc (.cells #[.int .i64 lv, .int .i64 tu, .int .i64 nx, .int .i64 lo, .slice a len cap] 24)).heap.size (w.alloc (.cells #[.int .i64 lv, .int .i64 tu, .int .i64 nx, .int .i64 lo, .slice a len cap] 24)) (w11.alloc (.cells #[.int .i64 lv, .int .i64 tu, .int .i64 nx, .int .i64 lo, .slice a11 len c11] 24))) := bstep H9.out G11.out; obtain ⟨n0, n1, n2, n3, n4⟩ := (N0.out.below H11.out).c; obtain ⟨u0, u1, u2, u3, u4⟩ := (X9.out.below G11.out).c; clear r11 hb11)
    | (go_at_call 14; refine (numbers_any _ _ sl sl _ (R9.out.below G11.out) (HR.out.below (bstep H0.out H11.out))).mono ?_; rintro e w12 ⟨rfl, hb12⟩; rw [decide_eq_true rfl]; have G12 : Hid (Below (w11.alloc (.cells #[.int .i64 lv, .int .i64 tu, .int .i64 nx, .int .i64 lo, .slice a11 len c11] 24)).heap.size (w11.alloc (.cells #[.int .i64 lv, .int .i64 tu, .int .i64 nx, .int .i64 lo, .slice a11 len c11] 24)) w12) := hb12; have H12 : Hid (Below (w.alloc (.cells #[.int .i64 lv, .int .i64 tu, .int .i64 nx, .int .i64 lo, .slice a len cap] 24)).heap.size (w.alloc (.cells #[.int .i64 lv, .int .i64 tu, .int .i64 nx, .int .i64 lo, .slice a len cap] 24)) w12) := bstep H11.out hb12; clear n0 n1 n2 n3 n4 u0 u1 u2 u3 u4; obtain ⟨n0, n1, n2, n3, n4⟩ := (N0.out.below H12.out).c; have X12 : Hid (Nb w12 w11.heap.size lv tu nx lo (.slice a11 len c11)) := X11.out.below hb12; obtain ⟨v0, v1, v2, v3, v4⟩ := X12.out.c; have fz := X12.out.free 2; have X12s : Hid (Nb (w12.setCell ⟨w11.heap.size, 2, none⟩ (.int .i64 nx)) w11.heap.size lv tu nx lo (.slice a11 len c11)) := X12.out.set2 nx; have G12s : Hid (Below w11.heap.size w11 (w12.setCell ⟨w11.heap.size, 2, none⟩ (.int .i64 nx))) := (((Below.refl _ w11).alloc (Nat.le_refl _) _).trans (hb12.mono (by simp))).setCell (p := ⟨w11.heap.size, 2, none⟩) (Nat.le_refl _) _; clear hb12)
    | (clear y5; go_at_call 10; refine (ky.out _ _ (R10c.out.below G12s.out)).mono ?_; rintro e w13 ⟨a13, c13, rfl, r13, hb13⟩; have b13 : Hid (Below (w12.setCell ⟨w11.heap.size, 2, none⟩ (.int .i64 nx)).heap.size (w12.setCell ⟨w11.heap.size, 2, none⟩ (.int .i64 nx)) (w13.alloc (.cells #[.int .i64 lv, .int .i64 tu, .int .i64 nx, .int .i64 lo, .slice a13 len c13] 24))) := hb13.alloc hb13.size _; have X13 : Hid (Nb (w13.alloc (.cells #[.int .i64 lv, .int .i64 tu, .int .i64 nx, .int .i64 lo, .slice a13 len c13] 24)) w13.heap.size lv tu nx lo (.slice a13 len c13)) := nb_new w13 _ _ _ _ _; have H13 : Hid (Below (w.alloc (.cells #[.int .i64 lv, .int .i64 tu, .int .i64 nx, .int .i64 lo, .slice a len cap] 24)).heap.size (w.alloc (.cells #[.int .i64 lv, .int .i64 tu, .int .i64 nx, .int .i64 lo, .slice a len cap] 24)) (w13.alloc (.cells #[.int .i64 lv, .int .i64 tu, .int .i64 nx, .int .i64 lo, .slice a13 len c13] 24))) := bstep H11c.out (bstep G12s.out b13.out); have R13y : Hid (Rd (w13.alloc (.cells #[.int .i64 lv, .int .i64 tu, .int .i64 nx, .int .i64 lo, .slice a13 len c13] 24)) (.slice a11 len c11) sl) := (R11c.out.below G12s.out).below b13.out; clear n0 n1 n2 n3 n4 v0 v1 v2 v3 v4 fz; obtain ⟨n0, n1, n2, n3, n4⟩ := (N0.out.below H13.out).c; obtain ⟨v0, v1, v2, v3, v4⟩ := (X12s.out.below b13.out).c; clear r13 hb13)
    | (go_at_call 15; refine (ks.out _ _ _ R13y.out (HR.out.below (bstep H0.out H13.out))).mono ?_; rintro e w14 ⟨rfl, hb14⟩; have H14 : Hid (Below (w.alloc (.cells #[.int .i64 lv, .int .i64 tu, .int .i64 nx, .int .i64 lo, .slice a len cap] 24)).heap.size (w.alloc (.cells #[.int .i64 lv, .int .i64 tu, .int .i64 nx, .int .i64 lo, .slice a len cap] 24)) w14) := bstep H13.out hb14; clear n0 n1 n2 n3 n4 v0 v1 v2 v3 v4; obtain ⟨n0, n1, n2, n3, n4⟩ := (N0.out.below H14.out).c; obtain ⟨v0, v1, v2, v3, v4⟩ := (X13.out.below hb14).c; clear hb14))
  go_ret
  exact ⟨ret_bool rfl, bstep H0.out H14.out⟩
set_option maxRecDepth 100000 in
set_option maxHeartbeats 4000000 in
theorem turns_ox (lv tu nx lo : Int) (sl : List Int) (a : Option Addr) (len cap : Nat) (m1 : Nat) (d : Bool) (m2 : Nat) (ak : Option Addr) (nk ck : Nat) (keep : List Int) (kk : Int) (w : World) (hl : sl.length = len) (hR : Rd w (.slice a len cap) sl) (hK : Rd w (.slice ak nk ck) keep) (hBd : Bd keep) (c1 : ¬ (len : Int) > 100) (c2 : ¬ (nk : Int) > 20) (hc : nnB ⟨lv, tu, nx, lo, sl⟩ = true) (h1 : m1 < 256) (hkk : kk = 0 ∨ kk = 1 ∨ kk = 2) (hMk : Mk m2 kk)
    (R : List Int) (hRe : R = mmL ⟨lv, tu, (m1 : Int), lo, sl⟩) (hcs : csP (allM (mmL ⟨lv, tu, nx, lo, sl⟩)) [⟨1, 17, (m1 : Int)⟩, ⟨2, 2, 0⟩] kk keep = R) (hx : (m1 : Int) ≠ nx) (ho : tu + ((tnL 1 ⟨lv, tu, nx, lo, sl⟩ d).length : Int) > 1099511627776) :
    Calls Try.prog 5 #[.agg #[.int .i64 lv, .int .i64 tu, .int .i64 nx, .int .i64 lo, .slice a len cap], .int .u8 (m1 : Int), .bool d, .int .u8 (m2 : Int), .slice ak nk ck] w fun e w' => e = .returned (.bool true) ∧ Below w.heap.size w w' := by
  obtain ⟨i0, hi, hz0, hz1, hz2⟩ := info_parts Try.info3
  have hM := nnB_iff.1 hc
  obtain ⟨g1, g2, g3, g4, g5, g6⟩ := turn_want d hM
  obtain ⟨tk1, tk2⟩ := turn_kept d hM
  obtain ⟨nk1, -⟩ := next_either ⟨lv, tu, nx, lo, sl⟩ (m1 : Int) keep kk hM hkk
  have hlen := mmL_length hM.len
  obtain ⟨xt, hxt⟩ : ∃ xt, xtI ⟨lv, tu, nx, lo, sl⟩ d = xt := ⟨_, rfl⟩
  rw [hxt] at g1 g2 g4 g5 g6 tk2
  dsimp only at g1 g2 g3 tk2
  have hM2 : May ⟨lv, xt, nx, lo, sl⟩ := ⟨hM.len, hM.l0, hM.l9, g4, g5, hM.x0, hM.x9, hM.w0, hM.w9, hM.sl⟩
  have hM3 : May ⟨lv, tu, (m1 : Int), lo, sl⟩ := ⟨hM.len, hM.l0, hM.l9, hM.t0, hM.t9, by show (0 : Int) ≤ (m1 : Int); omega, by show (m1 : Int) ≤ 255; omega, hM.w0, hM.w9, hM.sl⟩
  have t0 := hM.t0
  have t9 := hM.t9
  dsimp only at t0 t9
  have N0 : Hid (Nb (w.alloc (.cells #[.int .i64 lv, .int .i64 tu, .int .i64 nx, .int .i64 lo, .slice a len cap] 24)) w.heap.size lv tu nx lo (.slice a len cap)) := nb_new w lv tu nx lo _
  have H0 : Hid (Below w.heap.size w (w.alloc (.cells #[.int .i64 lv, .int .i64 tu, .int .i64 nx, .int .i64 lo, .slice a len cap] 24))) := (Below.refl _ _).alloc (Nat.le_refl _) _
  have HR : Hid (Rd w (.slice a len cap) sl) := hR
  have HK : Hid (Rd w (.slice ak nk ck) keep) := hK
  have kx : Hid (∀ v W, Rd W v (mmL ⟨lv, xt, nx, lo, sl⟩) → Calls Try.prog 10 #[v, .int .i64 1] W fun e w' => ∃ a c, e = .returned (.tuple #[.agg #[.int .i64 lv, .int .i64 xt, .int .i64 nx, .int .i64 lo, .slice a len c], .int .i64 0]) ∧ Rd w' (.slice a len c) sl ∧ Below W.heap.size W w') := fun v W h => (by refine (read_any v _ 1 W h).mono ?_; rw [mmL, (rn_two hM2).1, (rn_two hM2).2]; rintro e w' ⟨v', rfl, r, hb⟩; obtain ⟨_, a, c, rfl⟩ := r.form; dsimp only at r ⊢; rw [hl] at r ⊢; exact ⟨a, c, rfl, r, hb⟩)
  have ky : Hid (∀ v W, Rd W v R → Calls Try.prog 10 #[v, .int .i64 1] W fun e w' => ∃ a c, e = .returned (.tuple #[.agg #[.int .i64 lv, .int .i64 tu, .int .i64 (m1 : Int), .int .i64 lo, .slice a len c], .int .i64 0]) ∧ Rd w' (.slice a len c) sl ∧ Below W.heap.size W w') := fun v W h => (by rw [hRe] at h; refine (read_any v _ 1 W h).mono ?_; rw [mmL, (rn_two hM3).1, (rn_two hM3).2]; rintro e w' ⟨v', rfl, r, hb⟩; obtain ⟨_, a, c, rfl⟩ := r.form; dsimp only at r ⊢; rw [hl] at r ⊢; exact ⟨a, c, rfl, r, hb⟩)
  have ks : Hid (∀ (v v' : Value) W, Rd W v sl → Rd W v' sl → Calls Try.prog 15 #[.agg #[.int .i64 lv, .int .i64 tu, .int .i64 nx, .int .i64 lo, v], .agg #[.int .i64 lv, .int .i64 tu, .int .i64 nx, .int .i64 lo, v']] W fun e w' => e = .returned (.bool true) ∧ Below W.heap.size W w') := fun v v' W h h' => (by have := same_any ⟨lv, tu, nx, lo, sl⟩ ⟨lv, tu, nx, lo, sl⟩ v v' W h h'; rwa [decide_eq_true rfl] at this)
  obtain ⟨A, hA⟩ : ∃ A, imN ⟨lv, tu, nx, lo, sl⟩ = A := ⟨_, rfl⟩
  have k8 : Hid (∀ W, Below w.heap.size w W → Calls Try.prog 8 #[.agg #[.int .i64 lv, .int .i64 tu, .int .i64 nx, .int .i64 lo, .slice a len cap]] W fun e w' => ∃ a c, e = .returned (.tuple #[.slice a 16 c, .int .i64 0]) ∧ Rd w' (.slice a 16 c) A ∧ Below W.heap.size W w') := fun W hb => (by have := words_node ⟨lv, tu, nx, lo, sl⟩ _ W (HR.out.below hb); rw [(wn_yes hc).1, (wn_yes hc).2] at this; refine this.mono ?_; rintro e w' ⟨v', rfl, r, hb⟩; obtain ⟨_, a, c, rfl⟩ := r.form; rw [imN_length hM.len] at r ⊢; rw [← hA]; exact ⟨a, c, rfl, r, hb⟩)
  obtain ⟨M, hMM⟩ : ∃ M, mmL ⟨lv, tu, nx, lo, sl⟩ = M := ⟨_, rfl⟩
  rw [hMM] at hlen tk1 tk2 nk1 hcs
  have HM : Hid (List.replicate 16 0 ++ A = M) := (by show _ = _; rw [← hA]; exact hMM)
  have k21 : Hid (∀ v w, Rd w v M → Calls Try.prog 21 #[v] w fun e w' => ∃ a1 c1 a2 c2 a3 c3, e = .returned (.tuple #[.agg #[.slice a1 32 c1, .slice a2 32 c2, .slice a3 0 c3], .int .i64 0]) ∧ RdM w' (.slice a1 32 c1) (.slice a2 32 c2) (.slice a3 0 c3) (allM M) ∧ Below w.heap.size w w') := fun v w hR => (by have := new_all v M w hR (by omega) (by omega); rwa [hlen] at this)
  obtain ⟨T, hT⟩ : ∃ T, tnL 1 ⟨lv, tu, nx, lo, sl⟩ d = T := ⟨_, rfl⟩
  rw [hT] at g1 g2 g3 tk1 tk2 ho
  have k19 : Hid (∀ W, Below w.heap.size w W → Calls Try.prog 19 #[.int .i64 1, .agg #[.int .i64 lv, .int .i64 tu, .int .i64 nx, .int .i64 lo, .slice a len cap], .bool d] W fun e w' => ∃ a c, e = .returned (.slice a T.length c) ∧ RdS w' (.slice a T.length c) T ∧ Below W.heap.size W w') := fun W hb => (by have := turn_any 1 ⟨lv, tu, nx, lo, sl⟩ d _ W (HR.out.below hb); rw [hT] at this; refine this.mono ?_; rintro e w' ⟨v', rfl, r, hb⟩; obtain ⟨_, a, c, rfl⟩ := r.form; exact ⟨a, c, rfl, r, hb⟩)
  have k12 : Hid (∀ W, Calls Try.prog 12 #[.int .i64 1, .int .i64 (m1 : Int)] W fun e w' => ∃ a c, e = .returned (.tuple #[.slice a 2 c, .int .i64 0]) ∧ RdS w' (.slice a 2 c) [⟨1, 17, (m1 : Int)⟩, ⟨2, 2, 0⟩] ∧ Below W.heap.size W w') := fun W => (by have hx := nx_yes (b := 1) (x := (m1 : Int)) (by unfold nxB; rw [lkB_iff.2 (show 0 ≤ (m1 : Int) ∧ (m1 : Int) ≤ 255 by omega)]; rfl); have := next_any 1 (m1 : Int) W; rw [hx.1, hx.2] at this; refine this.mono ?_; rintro e w' ⟨v', rfl, r, hb⟩; obtain ⟨_, a, c, rfl⟩ := r.form; exact ⟨a, c, rfl, r, hb⟩)
  have k22 : Hid (∀ va vb vc v W, RdM W va vb vc (allM M) → RdS W v T → Calls Try.prog 22 #[.agg #[va, vb, vc], v] W fun e w' => ∃ a1 n1 c1 a2 n2 c2 a3 n3 c3, e = .returned (.tuple #[.agg #[.slice a1 n1 c1, .slice a2 n2 c2, .slice a3 n3 c3], .int .i64 0]) ∧ Rd w' (.slice a1 n1 c1) (mmL ⟨lv, xt, nx, lo, sl⟩) ∧ Below W.heap.size W w') := fun va vb vc v W hm hs => (by have := run_any va vb vc v (allM M) T W hm hs (by show 0 + T.length ≤ 900; omega); rw [ruE_yes tk1, ruM_yes tk1] at this; refine this.mono ?_; rintro e w' ⟨u1, u2, u3, rfl, r, hb⟩; obtain ⟨a1, c1, a2, c2, a3, c3, rfl, rfl, rfl⟩ := r.forms; exact ⟨a1, _, c1, a2, _, c2, a3, _, c3, rfl, (by rw [← tk2]; exact r.vol), hb⟩)
  have k23 : Hid (∀ va vb vc v W, Below w.heap.size w W → RdM W va vb vc (allM M) → RdS W v [⟨1, 17, (m1 : Int)⟩, ⟨2, 2, 0⟩] → Calls Try.prog 23 #[.agg #[va, vb, vc], v, .int .i64 kk, .slice ak nk ck] W fun e w' => ∃ v', e = .returned (.tuple #[v', .int .i64 0]) ∧ Rd w' v' R ∧ Below W.heap.size W w') := fun va vb vc v W hW hm hs => (by have := crashS_any va vb vc v _ _ _ kk keep W hm hs (HK.out.below hW) hBd (by show 0 + 2 ≤ 900; omega); rwa [ruE_yes nk1, hcs] at this)
  obtain ⟨r, hr⟩ : ∃ r, xt.tmod 2 = r := ⟨_, rfl⟩
  obtain ⟨e1, he1⟩ : ∃ e1, (r == 1) = e1 := ⟨_, rfl⟩
  have he2 : (e1 == d) = true := (by
    have h2 : r = xt % 2 := by rw [← hr, Int.tmod_eq_emod_of_nonneg g4]
    have h3 : e1 = d := by
      rw [← he1, h2, ← g6]
      by_cases h : xt % 2 = 1 <;> simp [h]
    rw [h3]; simp)
  have hwant : (xt == 1) = true := (by rw [g2 ho]; simp)
  have hm1 : IntKind.i64.wrap (m1 : Int) = (m1 : Int) := by rw [IntKind.wrap_i64]; omega
  have hne1 : ((m1 : Int) == nx) = false := by simpa using hx
  have HMk : Hid (Mk m2 kk) := hMk
  have Hlen : Hid (M.length = 32) := hlen
  have Hl : Hid (sl.length = len) := hl
  have HT1 : Hid (T.length ≤ 1) := g3
  have hT1 : (T.length : Int) ≤ 1 := by omega
  have y1 : Hid (0 = 0) := rfl
  have y2 : Hid (0 = 0) := rfl
  have y3 : Hid (0 = 0) := rfl
  have y4 : Hid (0 = 0) := rfl
  have y5 : Hid (0 = 0) := rfl
  have y6 : Hid (0 = 0) := rfl
  have y7 : Hid (0 = 0) := rfl
  clear hRe hR hK hBd hc hcs hM hM2 hM3 g1 g2 g3 g4 g5 g6 tk1 tk2 nk1 hlen hxt hA hMM hT hkk hMk hl hx h1
  go_enter Try.func5, Try.ntmps5
  go_wp2_with (first
    | (go_at_call 7; refine (awake_any _).mono ?_; rintro e w1 ⟨rfl, hb1⟩; have H1 : Hid (Below (w.alloc (.cells #[.int .i64 lv, .int .i64 tu, .int .i64 nx, .int .i64 lo, .slice a len cap] 24)).heap.size (w.alloc (.cells #[.int .i64 lv, .int .i64 tu, .int .i64 nx, .int .i64 lo, .slice a len cap] 24)) w1) := hb1; obtain ⟨x0, x1, x2, x3, x4⟩ := (N0.out.below H1.out).c; clear hb1)
    | (go_at_call 8; refine (k8.out _ (bstep H0.out H1.out)).mono ?_; rintro e w2 ⟨a2, c2', rfl, r2, hb2⟩; have R2 : Hid (Rd w2 (.slice a2 16 c2') A) := r2; have H2 : Hid (Below (w.alloc (.cells #[.int .i64 lv, .int .i64 tu, .int .i64 nx, .int .i64 lo, .slice a len cap] 24)).heap.size (w.alloc (.cells #[.int .i64 lv, .int .i64 tu, .int .i64 nx, .int .i64 lo, .slice a len cap] 24)) w2) := bstep H1.out hb2; clear hb2 r2 x0 x1 x2 x3 x4; obtain ⟨x0, x1, x2, x3, x4⟩ := (N0.out.below H2.out).c)
    | (clear y1; at_make; refine wpList_make_full _ rfl _ _ 22 rfl w2.heap.size 3 i0 (.int .i64 0) 1 Try.underlying22 hi hz0 hz1 .i64 .i64 _ _ 16 rfl rfl rfl rfl (by rw [hz2]; omega) (by unfold maxLen; omega) (Nat.le_refl _) ?_; intro w3 o3 g3; have b3 : Below w2.heap.size w2 w3 := below_grownN g3; have O3 : Hid (OwnI w3 w2.heap.size (.slice (some ⟨w2.heap.size, 0, none⟩) 16 16) (List.replicate 16 0)) := own_zero o3; have B3 : Hid (Below w2.heap.size w2 w3) := b3; clear o3 g3 b3)
    | (clear y2; at_builtin; refine append_own_rd rfl (.tmp 53) (.tmp 54) rfl w2.heap.size (.slice (some ⟨w2.heap.size, 0, none⟩) 16 16) (List.replicate 16 0) rfl O3.out (.slice a2 16 c2') A rfl (R2.out.below B3.out) (by simp) B3.out.size M HM.out ?_; intro a4 c4 w4 o4 b4; have R4 : Hid (Rd w4 (.slice a4 M.length c4) M) := o4.rd (by rw [Hlen.out]; omega); have B4 : Hid (Below w2.heap.size w2 w4) := B3.out.trans b4; clear o4 b4)
    | (go_at_call 21; refine (k21.out _ _ R4.out).mono ?_; rintro e w5 ⟨p1, q1, p2, q2, p3, q3, rfl, r5, hb5⟩; have R5 : Hid (RdM (w5.alloc (.cells #[.slice p1 32 q1, .slice p2 32 q2, .slice p3 0 q3] 43)) (.slice p1 32 q1) (.slice p2 32 q2) (.slice p3 0 q3) (allM M)) := r5.below ((Below.refl _ _).alloc (Nat.le_refl _) _); have X5 : Hid (Bx (w5.alloc (.cells #[.slice p1 32 q1, .slice p2 32 q2, .slice p3 0 q3] 43)) w5.heap.size (.slice p1 32 q1) (.slice p2 32 q2) (.slice p3 0 q3)) := bx_new w5 _ _ _ 43; have H5 : Hid (Below (w.alloc (.cells #[.int .i64 lv, .int .i64 tu, .int .i64 nx, .int .i64 lo, .slice a len cap] 24)).heap.size (w.alloc (.cells #[.int .i64 lv, .int .i64 tu, .int .i64 nx, .int .i64 lo, .slice a len cap] 24)) (w5.alloc (.cells #[.slice p1 32 q1, .slice p2 32 q2, .slice p3 0 q3] 43))) := bstep (bstep H2.out (bstep B4.out hb5)) ((Below.refl _ _).alloc (Nat.le_refl _) _); clear r5 hb5 x0 x1 x2 x3 x4; obtain ⟨x0, x1, x2, x3, x4⟩ := (N0.out.below H5.out).c)
    | (go_at_call 19; refine (k19.out _ (bstep H0.out H5.out)).mono ?_; rintro e w6 ⟨a6, c6, rfl, r6, hb6⟩; have R6 : Hid (RdS w6 (.slice a6 T.length c6) T) := r6; have J6 : Hid (Below (w5.alloc (.cells #[.slice p1 32 q1, .slice p2 32 q2, .slice p3 0 q3] 43)).heap.size (w5.alloc (.cells #[.slice p1 32 q1, .slice p2 32 q2, .slice p3 0 q3] 43)) w6) := hb6; clear hb6 r6 x0 x1 x2 x3 x4)
    | (go_at_call 12; refine (k12.out _).mono ?_; rintro e w7 ⟨a7, c7, rfl, r7, hb7⟩; have R7 : Hid (RdS w7 (.slice a7 2 c7) [⟨1, 17, (m1 : Int)⟩, ⟨2, 2, 0⟩]) := r7; have R67 : Hid (RdS w7 (.slice a6 T.length c6) T) := R6.out.below hb7; have J7 : Hid (Below (w5.alloc (.cells #[.slice p1 32 q1, .slice p2 32 q2, .slice p3 0 q3] 43)).heap.size (w5.alloc (.cells #[.slice p1 32 q1, .slice p2 32 q2, .slice p3 0 q3] 43)) w7) := bstep J6.out hb7; obtain ⟨⟨z0, z1, z2⟩, -⟩ := X5.out.below J7.out; clear hb7 r7)
    | (go_at_call 22; refine (k22.out _ _ _ _ _ (R5.out.below J7.out) R67.out).mono ?_; rintro e w8 ⟨b1, n1, d1, b2, n2, d2, b3, n3, d3, rfl, r8, hb8⟩; have R8 : Hid (Rd (w8.alloc (.cells #[.slice b1 n1 d1, .slice b2 n2 d2, .slice b3 n3 d3] 43)) (.slice b1 n1 d1) (mmL ⟨lv, xt, nx, lo, sl⟩)) := r8.below ((Below.refl _ _).alloc (Nat.le_refl _) _); have L8 : Hid (Below w7.heap.size w7 (w8.alloc (.cells #[.slice b1 n1 d1, .slice b2 n2 d2, .slice b3 n3 d3] 43))) := hb8.alloc hb8.size _; clear r8 hb8 z0 z1 z2)
    | (clear y3; go_at_call 10; refine (kx.out _ _ R8.out).mono ?_; rintro e w9 ⟨a9, c9, rfl, r9, hb9⟩; have R9 : Hid (Rd (w9.alloc (.cells #[.int .i64 lv, .int .i64 xt, .int .i64 nx, .int .i64 lo, .slice a9 len c9] 24)) (.slice a9 len c9) sl) := r9.below ((Below.refl _ _).alloc (Nat.le_refl _) _); have X9 : Hid (Nb (w9.alloc (.cells #[.int .i64 lv, .int .i64 xt, .int .i64 nx, .int .i64 lo, .slice a9 len c9] 24)) w9.heap.size lv xt nx lo (.slice a9 len c9)) := nb_new w9 _ _ _ _ _; have L9 : Hid (Below w7.heap.size w7 (w9.alloc (.cells #[.int .i64 lv, .int .i64 xt, .int .i64 nx, .int .i64 lo, .slice a9 len c9] 24))) := (bstep L8.out hb9).alloc (bstep L8.out hb9).size _; have J9 : Hid (Below (w5.alloc (.cells #[.slice p1 32 q1, .slice p2 32 q2, .slice p3 0 q3] 43)).heap.size (w5.alloc (.cells #[.slice p1 32 q1, .slice p2 32 q2, .slice p3 0 q3] 43)) (w9.alloc (.cells #[.int .i64 lv, .int .i64 xt, .int .i64 nx, .int .i64 lo, .slice a9 len c9] 24))) := bstep J7.out L9.out; have H9 : Hid (Below (w.alloc (.cells #[.int .i64 lv, .int .i64 tu, .int .i64 nx, .int .i64 lo, .slice a len cap] 24)).heap.size (w.alloc (.cells #[.int .i64 lv, .int .i64 tu, .int .i64 nx, .int .i64 lo, .slice a len cap] 24)) (w9.alloc (.cells #[.int .i64 lv, .int .i64 xt, .int .i64 nx, .int .i64 lo, .slice a9 len c9] 24))) := bstep H5.out J9.out; clear r9 hb9))
  have S0 : Hid (((w9.alloc (.cells #[.int .i64 lv, .int .i64 xt, .int .i64 nx, .int .i64 lo, .slice a9 len c9] 24))).drew.cell? ⟨w5.heap.size, 0, none⟩ = some (.slice p1 32 q1) ∧ ((w9.alloc (.cells #[.int .i64 lv, .int .i64 xt, .int .i64 nx, .int .i64 lo, .slice a9 len c9] 24))).drew.cell? ⟨w5.heap.size, 1, none⟩ = some (.slice p2 32 q2) ∧ ((w9.alloc (.cells #[.int .i64 lv, .int .i64 xt, .int .i64 nx, .int .i64 lo, .slice a9 len c9] 24))).drew.cell? ⟨w5.heap.size, 2, none⟩ = some (.slice p3 0 q3)) := (X5.out.below (bstep J9.out (Below.refl _ _).drew)).1
  have J9d : Hid (Below (w5.alloc (.cells #[.slice p1 32 q1, .slice p2 32 q2, .slice p3 0 q3] 43)).heap.size (w5.alloc (.cells #[.slice p1 32 q1, .slice p2 32 q2, .slice p3 0 q3] 43)) ((w9.alloc (.cells #[.int .i64 lv, .int .i64 xt, .int .i64 nx, .int .i64 lo, .slice a9 len c9] 24))).drew) := J9.out.drew
  have L9d : Hid (Below w7.heap.size w7 ((w9.alloc (.cells #[.int .i64 lv, .int .i64 xt, .int .i64 nx, .int .i64 lo, .slice a9 len c9] 24))).drew) := L9.out.drew
  obtain ⟨f1, f2, f3, f4, f5, f6⟩ := HMk.out
  go_region_held3 (fun W2 => W2.cell? ⟨w5.heap.size, 0, none⟩ = some (.slice p1 32 q1) ∧ W2.cell? ⟨w5.heap.size, 1, none⟩ = some (.slice p2 32 q2) ∧ W2.cell? ⟨w5.heap.size, 2, none⟩ = some (.slice p3 0 q3))
    (first | with_reducible exact S0.out | with_reducible exact S1.out)
    (first
      | (go_at_call 23; refine (k23.out _ _ _ _ _ (bstep H0.out (bstep H5.out J9d.out)) (R5.out.below J9d.out) (R7.out.below L9d.out)).mono ?_; rintro e w10 ⟨v10, rfl, r10, hb10⟩; have R10 : Hid (Rd w10 v10 R) := r10; have G10 : Hid (Below (w9.alloc (.cells #[.int .i64 lv, .int .i64 xt, .int .i64 nx, .int .i64 lo, .slice a9 len c9] 24)).heap.size (w9.alloc (.cells #[.int .i64 lv, .int .i64 xt, .int .i64 nx, .int .i64 lo, .slice a9 len c9] 24)) w10) := bstep (Below.refl _ _).drew hb10; have S1 : Hid (w10.cell? ⟨w5.heap.size, 0, none⟩ = some (.slice p1 32 q1) ∧ w10.cell? ⟨w5.heap.size, 1, none⟩ = some (.slice p2 32 q2) ∧ w10.cell? ⟨w5.heap.size, 2, none⟩ = some (.slice p3 0 q3)) := (X5.out.below (bstep J9d.out hb10)).1; clear r10 hb10))
  clear f1 f2 f3 f4 f5 f6
  go_wp2_with (first
    | (clear y4; go_at_call 10; refine (ky.out _ _ R10.out).mono ?_; rintro e w11 ⟨a11, c11, rfl, r11, hb11⟩; have R11 : Hid (Rd (w11.alloc (.cells #[.int .i64 lv, .int .i64 tu, .int .i64 (m1 : Int), .int .i64 lo, .slice a11 len c11] 24)) (.slice a11 len c11) sl) := r11.below ((Below.refl _ _).alloc (Nat.le_refl _) _); have X11 : Hid (Nb (w11.alloc (.cells #[.int .i64 lv, .int .i64 tu, .int .i64 (m1 : Int), .int .i64 lo, .slice a11 len c11] 24)) w11.heap.size lv tu (m1 : Int) lo (.slice a11 len c11)) := nb_new w11 _ _ _ _ _; have G11 : Hid (Below (w9.alloc (.cells #[.int .i64 lv, .int .i64 xt, .int .i64 nx, .int .i64 lo, .slice a9 len c9] 24)).heap.size (w9.alloc (.cells #[.int .i64 lv, .int .i64 xt, .int .i64 nx, .int .i64 lo, .slice a9 len c9] 24)) (w11.alloc (.cells #[.int .i64 lv, .int .i64 tu, .int .i64 (m1 : Int), .int .i64 lo, .slice a11 len c11] 24))) := (bstep G10.out hb11).alloc (bstep G10.out hb11).size _; have R10c : Hid (Rd w11 v10 R) := R10.out.below hb11; have R11c : Hid (Rd w11 (.slice a11 len c11) sl) := r11; have H11c : Hid (Below (w.alloc (.cells #[.int .i64 lv, .int .i64 tu, .int .i64 nx, .int .i64 lo, .slice a len cap] 24)).heap.size (w.alloc (.cells #[.int .i64 lv, .int .i64 tu, .int .i64 nx, .int .i64 lo, .slice a len cap] 24)) w11) := bstep H9.out (bstep G10.out hb11); have H11 : Hid (Below (w.alloc (.cells #[.int .i64 lv, .int .i64 tu, .int .i64 nx, .int .i64 lo, .slice a len cap] 24)).heap.size (w.alloc (.cells #[.int .i64 lv, .int .i64 tu, .int .i64 nx, .int .i64 lo, .slice a len cap] 24)) (w11.alloc (.cells #[.int .i64 lv, .int .i64 tu, .int .i64 (m1 : Int), .int .i64 lo, .slice a11 len c11] 24))) := bstep H9.out G11.out; obtain ⟨n0, n1, n2, n3, n4⟩ := (N0.out.below H11.out).c; obtain ⟨u0, u1, u2, u3, u4⟩ := (X9.out.below G11.out).c; clear r11 hb11)
    | (go_at_call 14; refine (numbers_any _ _ sl sl _ (R9.out.below G11.out) (HR.out.below (bstep H0.out H11.out))).mono ?_; rintro e w12 ⟨rfl, hb12⟩; rw [decide_eq_true rfl]; have G12 : Hid (Below (w11.alloc (.cells #[.int .i64 lv, .int .i64 tu, .int .i64 (m1 : Int), .int .i64 lo, .slice a11 len c11] 24)).heap.size (w11.alloc (.cells #[.int .i64 lv, .int .i64 tu, .int .i64 (m1 : Int), .int .i64 lo, .slice a11 len c11] 24)) w12) := hb12; have H12 : Hid (Below (w.alloc (.cells #[.int .i64 lv, .int .i64 tu, .int .i64 nx, .int .i64 lo, .slice a len cap] 24)).heap.size (w.alloc (.cells #[.int .i64 lv, .int .i64 tu, .int .i64 nx, .int .i64 lo, .slice a len cap] 24)) w12) := bstep H11.out hb12; clear n0 n1 n2 n3 n4 u0 u1 u2 u3 u4; obtain ⟨n0, n1, n2, n3, n4⟩ := (N0.out.below H12.out).c; have X12 : Hid (Nb w12 w11.heap.size lv tu (m1 : Int) lo (.slice a11 len c11)) := X11.out.below hb12; obtain ⟨v0, v1, v2, v3, v4⟩ := X12.out.c; have fz := X12.out.free 2; have X12s : Hid (Nb (w12.setCell ⟨w11.heap.size, 2, none⟩ (.int .i64 nx)) w11.heap.size lv tu nx lo (.slice a11 len c11)) := X12.out.set2 nx; have G12s : Hid (Below w11.heap.size w11 (w12.setCell ⟨w11.heap.size, 2, none⟩ (.int .i64 nx))) := (((Below.refl _ w11).alloc (Nat.le_refl _) _).trans (hb12.mono (by simp))).setCell (p := ⟨w11.heap.size, 2, none⟩) (Nat.le_refl _) _; clear hb12)
    | (clear y5; go_at_call 10; refine (ky.out _ _ (R10c.out.below G12s.out)).mono ?_; rintro e w13 ⟨a13, c13, rfl, r13, hb13⟩; have b13 : Hid (Below (w12.setCell ⟨w11.heap.size, 2, none⟩ (.int .i64 nx)).heap.size (w12.setCell ⟨w11.heap.size, 2, none⟩ (.int .i64 nx)) (w13.alloc (.cells #[.int .i64 lv, .int .i64 tu, .int .i64 (m1 : Int), .int .i64 lo, .slice a13 len c13] 24))) := hb13.alloc hb13.size _; have X13 : Hid (Nb (w13.alloc (.cells #[.int .i64 lv, .int .i64 tu, .int .i64 (m1 : Int), .int .i64 lo, .slice a13 len c13] 24)) w13.heap.size lv tu (m1 : Int) lo (.slice a13 len c13)) := nb_new w13 _ _ _ _ _; have H13 : Hid (Below (w.alloc (.cells #[.int .i64 lv, .int .i64 tu, .int .i64 nx, .int .i64 lo, .slice a len cap] 24)).heap.size (w.alloc (.cells #[.int .i64 lv, .int .i64 tu, .int .i64 nx, .int .i64 lo, .slice a len cap] 24)) (w13.alloc (.cells #[.int .i64 lv, .int .i64 tu, .int .i64 (m1 : Int), .int .i64 lo, .slice a13 len c13] 24))) := bstep H11c.out (bstep G12s.out b13.out); have R13y : Hid (Rd (w13.alloc (.cells #[.int .i64 lv, .int .i64 tu, .int .i64 (m1 : Int), .int .i64 lo, .slice a13 len c13] 24)) (.slice a11 len c11) sl) := (R11c.out.below G12s.out).below b13.out; clear n0 n1 n2 n3 n4 v0 v1 v2 v3 v4 fz; obtain ⟨n0, n1, n2, n3, n4⟩ := (N0.out.below H13.out).c; obtain ⟨v0, v1, v2, v3, v4⟩ := (X12s.out.below b13.out).c; clear r13 hb13)
    | (go_at_call 15; refine (ks.out _ _ _ R13y.out (HR.out.below (bstep H0.out H13.out))).mono ?_; rintro e w14 ⟨rfl, hb14⟩; have H14 : Hid (Below (w.alloc (.cells #[.int .i64 lv, .int .i64 tu, .int .i64 nx, .int .i64 lo, .slice a len cap] 24)).heap.size (w.alloc (.cells #[.int .i64 lv, .int .i64 tu, .int .i64 nx, .int .i64 lo, .slice a len cap] 24)) w14) := bstep H13.out hb14; clear n0 n1 n2 n3 n4 v0 v1 v2 v3 v4; obtain ⟨n0, n1, n2, n3, n4⟩ := (N0.out.below H14.out).c; obtain ⟨v0, v1, v2, v3, v4⟩ := (X13.out.below hb14).c; clear hb14))
  go_ret
  exact ⟨ret_bool rfl, bstep H0.out H14.out⟩
set_option maxRecDepth 100000 in
set_option maxHeartbeats 1000000 in
theorem walk_NodeTurns (lv tu nx lo : Int) (a : Option Addr) (len cap : Nat) (z1 : Int) (d : Bool) (z2 : Int) (ak : Option Addr) (nk ck : Nat) (w : World) (hN : RowIn w a len cap) (f1 : (Lit.int .u8 z1).wf = true) (f2 : (Lit.int .u8 z2).wf = true) (hK : RowIn w ak nk ck) :
    Calls Try.prog 5 #[.agg #[.int .i64 lv, .int .i64 tu, .int .i64 nx, .int .i64 lo, .slice a len cap], .int .u8 z1, .bool d, .int .u8 z2, .slice ak nk ck] w fun e w' => e = .returned (.bool true) ∧ Below w.heap.size w w' := by
  obtain ⟨m1, rfl, h1⟩ := wf_u8 f1
  obtain ⟨m2, rfl, h2⟩ := wf_u8 f2
  by_cases h13 : (len : Int) > 13
  · have k8 : ∀ W, Below w.heap.size w W → Calls Try.prog 8 #[.agg #[.int .i64 lv, .int .i64 tu, .int .i64 nx, .int .i64 lo, .slice a len cap]] W fun e w' => ∃ v', e = .returned (.tuple #[v', .int .i64 90]) ∧ Below W.heap.size W w' := fun W _ => words_long lv tu nx lo a len cap W h13
    by_cases c1 : (len : Int) > 100
    · exact turns_e1 lv tu nx lo a len cap m1 d m2 ak nk ck w 90 c1 k8
    · by_cases c2 : (nk : Int) > 20
      · exact turns_e2 lv tu nx lo a len cap m1 d m2 ak nk ck w 90 c1 c2 k8
      · exact turns_e3 lv tu nx lo a len cap m1 d m2 ak nk ck w c1 c2 k8
  · have c1 : ¬ (len : Int) > 100 := by omega
    obtain ⟨sl, hl, hR, -⟩ := hN (by omega)
    have hR := hR.rd (by omega)
    have k8 : ∀ W, Below w.heap.size w W → Calls Try.prog 8 #[.agg #[.int .i64 lv, .int .i64 tu, .int .i64 nx, .int .i64 lo, .slice a len cap]] W fun e w' => ∃ v', e = .returned (.tuple #[v', .int .i64 (wnE ⟨lv, tu, nx, lo, sl⟩)]) ∧ Below W.heap.size W w' := fun W hb => (words_node ⟨lv, tu, nx, lo, sl⟩ _ W (hR.below hb)).mono fun e w' ⟨v', he, _, hb'⟩ => ⟨v', he, hb'⟩
    by_cases c2 : (nk : Int) > 20
    · exact turns_e2 lv tu nx lo a len cap m1 d m2 ak nk ck w _ c1 c2 k8
    · cases hc : nnB ⟨lv, tu, nx, lo, sl⟩ with
      | false =>
        rw [(wn_no hc).2] at k8
        exact turns_e3 lv tu nx lo a len cap m1 d m2 ak nk ck w c1 c2 k8
      | true =>
        obtain ⟨keep, hlk, hK, hBd⟩ := hK (by omega)
        have hK := hK.rd (by omega)
        obtain ⟨kk, hkk, hMk⟩ := mk_cases m2 h2
        obtain ⟨-, x, hx, hcs⟩ := next_either ⟨lv, tu, nx, lo, sl⟩ (m1 : Int) keep kk (nnB_iff.1 hc) hkk
        dsimp only at hx hcs
        clear k8 f1 f2 hN
        by_cases hxn : x = nx
        · subst hxn
          by_cases ho : tu + ((tnL 1 ⟨lv, tu, x, lo, sl⟩ d).length : Int) > 1099511627776
          · exact turns_os lv tu x lo sl a len cap m1 d m2 ak nk ck keep kk w hl hR hK hBd c1 c2 hc h1 hkk hMk _ rfl hcs ho
          · exact turns_ns lv tu x lo sl a len cap m1 d m2 ak nk ck keep kk w hl hR hK hBd c1 c2 hc h1 hkk hMk _ rfl hcs ho
        · have hxm : x = (m1 : Int) := by
            rcases hx with h | h
            · exact absurd h hxn
            · exact h
          subst hxm
          by_cases ho : tu + ((tnL 1 ⟨lv, tu, nx, lo, sl⟩ d).length : Int) > 1099511627776
          · exact turns_ox lv tu nx lo sl a len cap m1 d m2 ak nk ck keep kk w hl hR hK hBd c1 c2 hc h1 hkk hMk _ rfl hcs hxn ho
          · exact turns_nx lv tu nx lo sl a len cap m1 d m2 ak nk ck keep kk w hl hR hK hBd c1 c2 hc h1 hkk hMk _ rfl hcs hxn ho
end Go.Proofs.Ytbnlekheadmecaa
