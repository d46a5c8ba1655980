/- Layer 8: SuperRoot, walked. -/
import Derived.Test.YtmenkolceahebaaSuph
import Derived.Test.YtmenkolceahebaaCrashw
namespace Go.Proofs.Ytmenkolceahebaa
open Go.RowKit Go.Shelf
set_option linter.unusedVariables false

/-- What a crash keeps of a change of the root. -/
theorem root_kept (W : List Int) (b : Int) (keep : List Int) (h1 : 16 ≤ W.length) (h2 : W.length ≤ 4096) (h8 : W.length % 8 = 0) :
    mrB (allM W) [⟨1, 3, b⟩, ⟨2, 0, 0⟩] = true ∧ csP (allM W) [⟨1, 3, b⟩, ⟨2, 0, 0⟩] 0 keep = W ∧ (csP (allM W) [⟨1, 3, b⟩, ⟨2, 0, 0⟩] 1 keep = W ∨ csP (allM W) [⟨1, 3, b⟩, ⟨2, 0, 0⟩] 1 keep = W.set 3 b) ∧ csP (allM W) [⟨1, 3, b⟩, ⟨2, 0, 0⟩] 2 keep = W.set 3 b := by
  have hO := ok_allM h2 h8
  have hB : putB (allM W) 3 = true := putB_yes (ok_true hO) (by omega) (by show (3 : Int) < (W.length : Int); omega)
  have e1 : doM (allM W) ⟨1, 3, b⟩ = ⟨W.set 3 b, W, [⟨3, b, false⟩]⟩ := (doM_one rfl).trans (putM_yes hB)
  have hO1 : Ok (doM (allM W) ⟨1, 3, b⟩) := ok_do hO _
  rw [e1] at hO1
  have hp1 : ∀ p ∈ [(⟨3, b, false⟩ : Pd)], p.a / 8 = 0 := by
    intro p hp
    rw [List.mem_singleton.1 hp]
    rfl
  have hL : lnB (⟨W.set 3 b, W, [⟨3, b, false⟩]⟩ : Mm) 0 = true := lnB_yes (ok_true hO1) (decide_eq_true ⟨by omega, by show (0 : Int) < ((W.set 3 b).length : Int) / 8; rw [List.length_set]; omega⟩)
  have e2 : doM (⟨W.set 3 b, W, [⟨3, b, false⟩]⟩ : Mm) ⟨2, 0, 0⟩ = ⟨W.set 3 b, W.set 3 b, []⟩ := (doM_two rfl).trans (pers_all hO1 hL hp1)
  have hO2 : Ok (⟨W.set 3 b, W.set 3 b, []⟩ : Mm) := by rw [← e2]; exact ok_do hO1 _
  have hm : mrB (allM W) [⟨1, 3, b⟩, ⟨2, 0, 0⟩] = true := by
    have hw : woB ((allM W).vol.length : Int) = true := decide_eq_true ⟨by omega, by show (W.length : Int) ≤ 4096; omega, by show (W.length : Int) % 8 = 0; omega⟩
    unfold mrB
    rw [ok_true hO, chB_wo hw, List.all_cons, List.all_cons, miB_one rfl, miB_two rfl]
    have a1 : stB ((allM W).vol.length : Int) ⟨1, 3, b⟩ = true := decide_eq_true ⟨by show (0 : Int) ≤ 3; omega, by show (3 : Int) < (W.length : Int); omega⟩
    have a2 : peB ((allM W).vol.length : Int) ⟨2, 0, 0⟩ = true := decide_eq_true ⟨by show (0 : Int) ≤ 0; omega, by show (0 : Int) < (W.length : Int) / 8; omega, rfl⟩
    rw [a1, a2]
    rfl
  refine ⟨hm, ?_, ?_, ?_⟩
  · rw [csP_yes hm]
    obtain ⟨x, hx⟩ := crash_pre hO (t := 0) (fun p hp => by cases hp) keep
    show crP (allM W) keep = W
    rw [hx]
    show putAll W (List.take x []) = W
    rw [List.take_nil]
    rfl
  · rw [csP_yes hm]
    obtain ⟨x, hx⟩ := crash_pre hO1 (t := 0) hp1 keep
    show crP (doM (allM W) ⟨1, 3, b⟩) keep = W ∨ crP (doM (allM W) ⟨1, 3, b⟩) keep = W.set 3 b
    rw [e1, hx]
    cases x with
    | zero => exact .inl rfl
    | succ x =>
      right
      show putAll W (⟨3, b, false⟩ :: List.take x []) = _
      rw [List.take_nil]
      rfl
  · rw [csP_yes hm]
    obtain ⟨x, hx⟩ := crash_pre hO2 (t := 0) (fun p hp => by cases hp) keep
    show crP (doM (doM (allM W) ⟨1, 3, b⟩) ⟨2, 0, 0⟩) keep = W.set 3 b
    rw [e1, e2, hx]
    show putAll (W.set 3 b) (List.take x []) = _
    rw [List.take_nil]
    rfl
theorem hd_set (n r b : Int) (ys : List Int) : (hdW n r ++ ys).set 3 b = hdW n b ++ ys := rfl
theorem RdM.formsL {W : World} {va vb vc : Value} {X : List Int} {n : Nat} (h : RdM W va vb vc (allM X)) (hn : X.length = n) : ∃ a1 c1 a2 c2 a3 c3, va = .slice a1 n c1 ∧ vb = .slice a2 n c2 ∧ vc = .slice a3 0 c3 := by
  subst hn
  exact h.forms
theorem new_all (va : Value) (l : List Int) (w : World) (hR : Rd w va l) (h : l.length ≤ 4096) (h8 : l.length % 8 = 0) : Calls Try.prog 16 #[va] w fun e w' => ∃ a1 c1 a2 c2 a3 c3, e = .returned (.tuple #[.agg #[.slice a1 l.length c1, .slice a2 l.length c2, .slice a3 0 c3], .int .i64 0]) ∧ RdM w' (.slice a1 l.length c1) (.slice a2 l.length c2) (.slice a3 0 c3) (allM l) ∧ Below w.heap.size w w' := by
  refine (new_any va l w hR).mono ?_
  rintro e w' ⟨v1, v2, v3, rfl, R, b⟩
  have hm : mayB l.length = true := decide_eq_true ⟨h, h8⟩
  have h1 : newM l = allM l := by unfold newM; rw [hm]; rfl
  have h2 : newE l = 0 := by unfold newE; rw [hm]; rfl
  rw [h1] at R
  rw [h2]
  obtain ⟨a1, c1, a2, c2, a3, c3, rfl, rfl, rfl⟩ := R.formsL rfl
  exact ⟨a1, c1, a2, c2, a3, c3, rfl, R, b⟩
theorem append_zerosI {w : World} {ops : Array Oper} {rest : List Oper} {o : Oper} {a : Act} {Q : Exit → Act → World → Prop} (hgd : o.guard = none) (s x : Operand)
    (ho : o.op = .call { callee := .builtin .append, args := #[s, x], argTypes := #[22, 3] }) (base : Nat) (ad : Option Addr) (c : Nat) (zs : List Int) (hs : a.eval s = .slice ad zs.length c) (hown : OwnI w base (.slice ad zs.length c) zs) (m : Nat) (z : Int) (hx : a.eval x = .int .i64 z) (hzm : z = (m : Int))
    (hz : 0 < zs.length) (hn : zs.length ≤ 6000) (h0 : 0 < m) (hm : m ≤ 6000) (hbase : base ≤ w.heap.size) (M : List Int) (hM : zs ++ List.replicate m 0 = M)
    (h : ∀ a' c' w', OwnI w' base (.slice a' M.length c') M → Below base w w' → wpList Try.prog ops Q rest (a.put o.dst (.slice a' M.length c')) w') : wpList Try.prog ops Q (o :: rest) a w := by
  subst hzm
  exact append_zeros hgd s x ho base ad c zs hs hown m hx hz hn h0 hm hbase M hM h
/-- Numbers of bytes. -/
theorem root_many (m : Nat) (h : m < 256) : ∃ q : Nat, q < 18 ∧ (m : Int) % 18 = (q : Int) ∧ (m : Int).tmod 18 = (q : Int) ∧ IntKind.u8.wrap (q : Int) = (q : Int) ∧ IntKind.i64.wrap (q : Int) = (q : Int) ∧ m % 18 = q := by
  refine ⟨m % 18, by omega, by omega, ?_, ?_, ?_, rfl⟩
  · rw [Int.tmod_eq_emod_of_nonneg (by omega)]; omega
  · simp [IntKind.wrap, IntKind.bits, IntKind.signed]; omega
  · rw [IntKind.wrap_i64]; omega
def Ma (m q : Nat) : Prop := (m : Int) % 18 = (q : Int) ∧ (m : Int).tmod 18 = (q : Int) ∧ IntKind.u8.wrap (q : Int) = (q : Int) ∧ IntKind.i64.wrap (q : Int) = (q : Int) ∧ m % 18 = q ∧ IntKind.u8.wrap 18 = 18
def Mk (m : Nat) (k : Int) : Prop := (m : Int) % 3 = k ∧ (m : Int).tmod 3 = k ∧ m % 3 = k.toNat ∧ IntKind.i64.wrap (m : Int) = (m : Int) ∧ IntKind.i64.wrap 3 = 3 ∧ IntKind.i64.wrap k = k
theorem mk_cases (m : Nat) (h : m < 256) : Mk m 0 ∨ Mk m 1 ∨ Mk m 2 := by
  have h3 : m % 3 = 0 ∨ m % 3 = 1 ∨ m % 3 = 2 := by omega
  have e : (m : Int).tmod 3 = (m : Int) % 3 := Int.tmod_eq_emod_of_nonneg (by omega)
  have w1 : IntKind.i64.wrap (m : Int) = (m : Int) := by rw [IntKind.wrap_i64]; omega
  rcases h3 with h | h | h
  · exact .inl ⟨by omega, by rw [e]; omega, by rw [h]; rfl, w1, by rfl, by rfl⟩
  · exact .inr (.inl ⟨by omega, by rw [e]; omega, by rw [h]; rfl, w1, by rfl, by rfl⟩)
  · exact .inr (.inr ⟨by omega, by rw [e]; omega, by rw [h]; rfl, w1, by rfl, by rfl⟩)

set_option maxRecDepth 100000 in
set_option maxHeartbeats 2000000 in
theorem root_e1 (m q : Nat) (a b : Int) (m2 : Nat) (ak : Option Addr) (nk ck : Nat) (w : World) (hq : q < 18) (hMa : Ma m q) (h5 : ¬ ((nk : Int) > 50)) (E1 : wdE (q : Int) a = 1) (c1 : (q : Int) < 2) :
    Calls Try.prog 5 #[.int .u8 (m : Int), .int .i64 a, .int .i64 b, .int .u8 (m2 : Int), .slice ak nk ck] w fun e w' => e = .returned (.bool true) ∧ Below w.heap.size w w' := by
  have k8 : Hid (∀ w, Calls Try.prog 8 #[.int .i64 (q : Int), .int .i64 a] w fun e w' => ∃ v, e = .returned (.tuple #[v, .int .i64 1]) ∧ Below w.heap.size w w') := fun w => by
    have := words_any (q : Int) a w
    rw [E1] at this
    exact this.mono fun e w' ⟨v, he, _, hb⟩ => ⟨v, he, hb⟩
  have k12 : Hid (∀ w, Calls Try.prog 12 #[.int .i64 (q : Int), .int .i64 b] w fun e w' => ∃ v, e = .returned (.tuple #[v, .int .i64 (wdE (q : Int) b)]) ∧ Below w.heap.size w w') := fun w => by
    have := root_any (q : Int) b w
    skip
    exact this.mono fun e w' ⟨v, he, _, hb⟩ => ⟨v, he, hb⟩
  generalize wdE (q : Int) b = E at *
  have HMa : Hid (Ma m q) := hMa
  have t0 : Hid (0 = 0) := rfl
  clear hMa E1
  go_enter Try.func5, Try.ntmps5
  go_wp2_with (first
    | (go_at_call 7; refine (awake_any _).mono ?_; rintro e w1 ⟨rfl, hb1⟩; have H1 : Hid (Below w.heap.size w w1) := hb1; clear hb1)
    | (clear t0; refine stop_at 27 rfl ?_; obtain ⟨g1, g2, g3, g4, g5, g6⟩ := HMa.out)
    | (go_at_call 8; refine (k8.out _).mono ?_; rintro e w2 ⟨v2, rfl, hb2⟩; have H2 : Hid (Below w.heap.size w w2) := bstep H1.out hb2; clear hb2 g1 g2 g3 g4 g5 g6)
    | (go_at_call 12; refine (k12.out _).mono ?_; rintro e w3 ⟨v3, rfl, hb3⟩; have H3 : Hid (Below w.heap.size w w3) := bstep H2.out hb3; clear hb3))
  go_ret
  exact ⟨ret_bool rfl, H3.out⟩

set_option maxRecDepth 100000 in
set_option maxHeartbeats 2000000 in
theorem root_e2 (m q : Nat) (a b : Int) (m2 : Nat) (ak : Option Addr) (nk ck : Nat) (w : World) (hq : q < 18) (hMa : Ma m q) (h5 : ¬ ((nk : Int) > 50)) (E1 : wdE (q : Int) a = 1) (c1 : ¬ ((q : Int) < 2)) (c2 : a < 1) :
    Calls Try.prog 5 #[.int .u8 (m : Int), .int .i64 a, .int .i64 b, .int .u8 (m2 : Int), .slice ak nk ck] w fun e w' => e = .returned (.bool true) ∧ Below w.heap.size w w' := by
  have k8 : Hid (∀ w, Calls Try.prog 8 #[.int .i64 (q : Int), .int .i64 a] w fun e w' => ∃ v, e = .returned (.tuple #[v, .int .i64 1]) ∧ Below w.heap.size w w') := fun w => by
    have := words_any (q : Int) a w
    rw [E1] at this
    exact this.mono fun e w' ⟨v, he, _, hb⟩ => ⟨v, he, hb⟩
  have k12 : Hid (∀ w, Calls Try.prog 12 #[.int .i64 (q : Int), .int .i64 b] w fun e w' => ∃ v, e = .returned (.tuple #[v, .int .i64 (wdE (q : Int) b)]) ∧ Below w.heap.size w w') := fun w => by
    have := root_any (q : Int) b w
    skip
    exact this.mono fun e w' ⟨v, he, _, hb⟩ => ⟨v, he, hb⟩
  generalize wdE (q : Int) b = E at *
  have HMa : Hid (Ma m q) := hMa
  have t0 : Hid (0 = 0) := rfl
  clear hMa E1
  go_enter Try.func5, Try.ntmps5
  go_wp2_with (first
    | (go_at_call 7; refine (awake_any _).mono ?_; rintro e w1 ⟨rfl, hb1⟩; have H1 : Hid (Below w.heap.size w w1) := hb1; clear hb1)
    | (clear t0; refine stop_at 27 rfl ?_; obtain ⟨g1, g2, g3, g4, g5, g6⟩ := HMa.out)
    | (go_at_call 8; refine (k8.out _).mono ?_; rintro e w2 ⟨v2, rfl, hb2⟩; have H2 : Hid (Below w.heap.size w w2) := bstep H1.out hb2; clear hb2 g1 g2 g3 g4 g5 g6)
    | (go_at_call 12; refine (k12.out _).mono ?_; rintro e w3 ⟨v3, rfl, hb3⟩; have H3 : Hid (Below w.heap.size w w3) := bstep H2.out hb3; clear hb3))
  go_ret
  exact ⟨ret_bool rfl, H3.out⟩

set_option maxRecDepth 100000 in
set_option maxHeartbeats 2000000 in
theorem root_e3 (m q : Nat) (a b : Int) (m2 : Nat) (ak : Option Addr) (nk ck : Nat) (w : World) (hq : q < 18) (hMa : Ma m q) (h5 : ¬ ((nk : Int) > 50)) (E1 : wdE (q : Int) a = 1) (c1 : ¬ ((q : Int) < 2)) (c2 : ¬ (a < 1)) (c3 : a ≥ (q : Int)) :
    Calls Try.prog 5 #[.int .u8 (m : Int), .int .i64 a, .int .i64 b, .int .u8 (m2 : Int), .slice ak nk ck] w fun e w' => e = .returned (.bool true) ∧ Below w.heap.size w w' := by
  have k8 : Hid (∀ w, Calls Try.prog 8 #[.int .i64 (q : Int), .int .i64 a] w fun e w' => ∃ v, e = .returned (.tuple #[v, .int .i64 1]) ∧ Below w.heap.size w w') := fun w => by
    have := words_any (q : Int) a w
    rw [E1] at this
    exact this.mono fun e w' ⟨v, he, _, hb⟩ => ⟨v, he, hb⟩
  have k12 : Hid (∀ w, Calls Try.prog 12 #[.int .i64 (q : Int), .int .i64 b] w fun e w' => ∃ v, e = .returned (.tuple #[v, .int .i64 (wdE (q : Int) b)]) ∧ Below w.heap.size w w') := fun w => by
    have := root_any (q : Int) b w
    skip
    exact this.mono fun e w' ⟨v, he, _, hb⟩ => ⟨v, he, hb⟩
  generalize wdE (q : Int) b = E at *
  have HMa : Hid (Ma m q) := hMa
  have t0 : Hid (0 = 0) := rfl
  clear hMa E1
  go_enter Try.func5, Try.ntmps5
  go_wp2_with (first
    | (go_at_call 7; refine (awake_any _).mono ?_; rintro e w1 ⟨rfl, hb1⟩; have H1 : Hid (Below w.heap.size w w1) := hb1; clear hb1)
    | (clear t0; refine stop_at 27 rfl ?_; obtain ⟨g1, g2, g3, g4, g5, g6⟩ := HMa.out)
    | (go_at_call 8; refine (k8.out _).mono ?_; rintro e w2 ⟨v2, rfl, hb2⟩; have H2 : Hid (Below w.heap.size w w2) := bstep H1.out hb2; clear hb2 g1 g2 g3 g4 g5 g6)
    | (go_at_call 12; refine (k12.out _).mono ?_; rintro e w3 ⟨v3, rfl, hb3⟩; have H3 : Hid (Below w.heap.size w w3) := bstep H2.out hb3; clear hb3))
  go_ret
  exact ⟨ret_bool rfl, H3.out⟩

set_option maxRecDepth 100000 in
set_option maxHeartbeats 2000000 in
theorem root_e4 (m q : Nat) (a b : Int) (m2 : Nat) (ak : Option Addr) (nk ck : Nat) (w : World) (hq : q < 18) (hMa : Ma m q) (h5 : ¬ ((nk : Int) > 50)) (E1 : wdE (q : Int) a = 0) (E2 : wdE (q : Int) b = 1) (c1 : ¬ ((q : Int) < 2)) (c2 : ¬ (a < 1)) (c3 : ¬ (a ≥ (q : Int))) (c4 : b < 1) :
    Calls Try.prog 5 #[.int .u8 (m : Int), .int .i64 a, .int .i64 b, .int .u8 (m2 : Int), .slice ak nk ck] w fun e w' => e = .returned (.bool true) ∧ Below w.heap.size w w' := by
  have k8 : Hid (∀ w, Calls Try.prog 8 #[.int .i64 (q : Int), .int .i64 a] w fun e w' => ∃ v, e = .returned (.tuple #[v, .int .i64 0]) ∧ Below w.heap.size w w') := fun w => by
    have := words_any (q : Int) a w
    rw [E1] at this
    exact this.mono fun e w' ⟨v, he, _, hb⟩ => ⟨v, he, hb⟩
  have k12 : Hid (∀ w, Calls Try.prog 12 #[.int .i64 (q : Int), .int .i64 b] w fun e w' => ∃ v, e = .returned (.tuple #[v, .int .i64 1]) ∧ Below w.heap.size w w') := fun w => by
    have := root_any (q : Int) b w
    rw [E2] at this
    exact this.mono fun e w' ⟨v, he, _, hb⟩ => ⟨v, he, hb⟩

  have HMa : Hid (Ma m q) := hMa
  have t0 : Hid (0 = 0) := rfl
  clear hMa E1 E2
  go_enter Try.func5, Try.ntmps5
  go_wp2_with (first
    | (go_at_call 7; refine (awake_any _).mono ?_; rintro e w1 ⟨rfl, hb1⟩; have H1 : Hid (Below w.heap.size w w1) := hb1; clear hb1)
    | (clear t0; refine stop_at 27 rfl ?_; obtain ⟨g1, g2, g3, g4, g5, g6⟩ := HMa.out)
    | (go_at_call 8; refine (k8.out _).mono ?_; rintro e w2 ⟨v2, rfl, hb2⟩; have H2 : Hid (Below w.heap.size w w2) := bstep H1.out hb2; clear hb2 g1 g2 g3 g4 g5 g6)
    | (go_at_call 12; refine (k12.out _).mono ?_; rintro e w3 ⟨v3, rfl, hb3⟩; have H3 : Hid (Below w.heap.size w w3) := bstep H2.out hb3; clear hb3))
  go_ret
  exact ⟨ret_bool rfl, H3.out⟩

set_option maxRecDepth 100000 in
set_option maxHeartbeats 2000000 in
theorem root_e5 (m q : Nat) (a b : Int) (m2 : Nat) (ak : Option Addr) (nk ck : Nat) (w : World) (hq : q < 18) (hMa : Ma m q) (h5 : ¬ ((nk : Int) > 50)) (E1 : wdE (q : Int) a = 0) (E2 : wdE (q : Int) b = 1) (c1 : ¬ ((q : Int) < 2)) (c2 : ¬ (a < 1)) (c3 : ¬ (a ≥ (q : Int))) (c4 : ¬ (b < 1)) (c5 : b ≥ (q : Int)) :
    Calls Try.prog 5 #[.int .u8 (m : Int), .int .i64 a, .int .i64 b, .int .u8 (m2 : Int), .slice ak nk ck] w fun e w' => e = .returned (.bool true) ∧ Below w.heap.size w w' := by
  have k8 : Hid (∀ w, Calls Try.prog 8 #[.int .i64 (q : Int), .int .i64 a] w fun e w' => ∃ v, e = .returned (.tuple #[v, .int .i64 0]) ∧ Below w.heap.size w w') := fun w => by
    have := words_any (q : Int) a w
    rw [E1] at this
    exact this.mono fun e w' ⟨v, he, _, hb⟩ => ⟨v, he, hb⟩
  have k12 : Hid (∀ w, Calls Try.prog 12 #[.int .i64 (q : Int), .int .i64 b] w fun e w' => ∃ v, e = .returned (.tuple #[v, .int .i64 1]) ∧ Below w.heap.size w w') := fun w => by
    have := root_any (q : Int) b w
    rw [E2] at this
    exact this.mono fun e w' ⟨v, he, _, hb⟩ => ⟨v, he, hb⟩

  have HMa : Hid (Ma m q) := hMa
  have t0 : Hid (0 = 0) := rfl
  clear hMa E1 E2
  go_enter Try.func5, Try.ntmps5
  go_wp2_with (first
    | (go_at_call 7; refine (awake_any _).mono ?_; rintro e w1 ⟨rfl, hb1⟩; have H1 : Hid (Below w.heap.size w w1) := hb1; clear hb1)
    | (clear t0; refine stop_at 27 rfl ?_; obtain ⟨g1, g2, g3, g4, g5, g6⟩ := HMa.out)
    | (go_at_call 8; refine (k8.out _).mono ?_; rintro e w2 ⟨v2, rfl, hb2⟩; have H2 : Hid (Below w.heap.size w w2) := bstep H1.out hb2; clear hb2 g1 g2 g3 g4 g5 g6)
    | (go_at_call 12; refine (k12.out _).mono ?_; rintro e w3 ⟨v3, rfl, hb3⟩; have H3 : Hid (Below w.heap.size w w3) := bstep H2.out hb3; clear hb3))
  go_ret
  exact ⟨ret_bool rfl, H3.out⟩

set_option maxRecDepth 100000 in
set_option maxHeartbeats 4000000 in
theorem root_g0 (m q : Nat) (a b : Int) (m2 : Nat) (ak : Option Addr) (nk ck : Nat) (w : World) (hq : q < 18) (hMa : Ma m q) (h5 : ¬ ((nk : Int) > 50)) (h2 : 2 ≤ q) (ha : mbB (q : Int) a = true) (hb : mbB (q : Int) b = true) (hMk : Mk m2 0) (keep : List Int) (hK : Rd w (.slice ak nk ck) keep) (hBd : Bd keep) (hcs : csP (allM (hdW (q : Int) a ++ List.replicate (16 * (q - 1)) 0)) [⟨1, 3, b⟩, ⟨2, 0, 0⟩] 0 keep = hdW (q : Int) a ++ List.replicate (16 * (q - 1)) 0) :
    Calls Try.prog 5 #[.int .u8 (m : Int), .int .i64 a, .int .i64 b, .int .u8 (m2 : Int), .slice ak nk ck] w fun e w' => e = .returned (.bool true) ∧ Below w.heap.size w w' := by
  have hlz : (hdW (q : Int) a ++ List.replicate (16 * (q - 1)) 0).length = 16 * q := by rw [List.length_append, hdW_length, List.length_replicate]; omega
  have k8 : Hid (∀ w, Calls Try.prog 8 #[.int .i64 (q : Int), .int .i64 a] w fun e w' => ∃ v, e = .returned (.tuple #[v, .int .i64 0]) ∧ Rd w' v (hdW (q : Int) a) ∧ Below w.heap.size w w') := fun w => by
    have := words_any (q : Int) a w
    rwa [(wd_yes ha).2, (wd_yes ha).1] at this
  have k12 : Hid (∀ w, Calls Try.prog 12 #[.int .i64 (q : Int), .int .i64 b] w fun e w' => ∃ av c, e = .returned (.tuple #[.slice av 2 c, .int .i64 0]) ∧ RdS w' (.slice av 2 c) [⟨1, 3, b⟩, ⟨2, 0, 0⟩] ∧ Below w.heap.size w w') := fun w => by
    have := root_any (q : Int) b w
    rw [(wd_yes hb).2, rt_yes hb] at this
    refine this.mono ?_
    rintro e w' ⟨v, rfl, hR, hb⟩
    obtain ⟨_, av, c, rfl⟩ := hR.form
    exact ⟨av, c, rfl, hR, hb⟩
  have k16 : Hid (∀ v w, Rd w v (hdW (q : Int) a ++ List.replicate (16 * (q - 1)) 0) → Calls Try.prog 16 #[v] w fun e w' => ∃ a1 c1 a2 c2 a3 c3, e = .returned (.tuple #[.agg #[.slice a1 (16 * q) c1, .slice a2 (16 * q) c2, .slice a3 0 c3], .int .i64 0]) ∧ RdM w' (.slice a1 (16 * q) c1) (.slice a2 (16 * q) c2) (.slice a3 0 c3) (allM (hdW (q : Int) a ++ List.replicate (16 * (q - 1)) 0)) ∧ Below w.heap.size w w') := fun v w hR => by
    have := new_all v _ w hR (by rw [hlz]; omega) (by rw [hlz]; omega)
    rwa [hlz] at this
  obtain ⟨R, hRe⟩ : ∃ R, R = hdW (q : Int) a ++ List.replicate (16 * (q - 1)) 0 := ⟨_, rfl⟩
  have k17 : Hid (∀ va vb vc v W, Below w.heap.size w W → RdM W va vb vc (allM (hdW (q : Int) a ++ List.replicate (16 * (q - 1)) 0)) → RdS W v [⟨1, 3, b⟩, ⟨2, 0, 0⟩] → Calls Try.prog 17 #[.agg #[va, vb, vc], v, .int .i64 0, .slice ak nk ck] W fun e w' => ∃ v', e = .returned (.tuple #[v', .int .i64 0]) ∧ Rd w' v' R ∧ Below W.heap.size W w') := fun va vb vc v W hW hM hS => by
    have := crashS_any va vb vc v _ _ _ 0 keep W hM hS (hK.below hW) hBd (by show 0 + 2 ≤ 900; omega)
    obtain ⟨hm, _⟩ := root_kept (hdW (q : Int) a ++ List.replicate (16 * (q - 1)) 0) b keep (by rw [hlz]; omega) (by rw [hlz]; omega) (by rw [hlz]; omega)
    rwa [ruE_yes hm, hcs, ← hRe] at this
  have k10 : Hid (∀ v w, Rd w v R → Calls Try.prog 10 #[v] w fun e w' => e = .returned (.tuple #[.int .i64 (q : Int), .int .i64 a, .int .i64 0]) ∧ Below w.heap.size w w') := fun v w hR => by
    rw [hRe] at hR
    have := read_any v _ w hR.rl
    obtain ⟨hB, hBn⟩ := rd_back (n := (q : Int)) (r := a) (ys := List.replicate (16 * (q - 1)) 0) ha (by rw [List.length_replicate]; omega)
    obtain ⟨e1, e2, e3⟩ := rd_yes hB
    rwa [e1, e2, e3, hBn, hd_root] at this
  obtain ⟨A, hA⟩ : ∃ A, A = hdW (q : Int) a := ⟨_, rfl⟩
  have lA : A.length = 16 := by rw [hA]; rfl
  rw [← hA] at k8 k16 k17 hlz
  obtain ⟨M, hM⟩ : ∃ M, A ++ List.replicate (16 * (q - 1)) 0 = M := ⟨_, rfl⟩
  rw [hM] at k16 k17 hlz
  have HM : Hid (A ++ List.replicate (16 * (q - 1)) 0 = M) := hM
  have HlA : Hid (A.length = 16) := lA
  have HlM : Hid (M.length = 16 * q) := hlz
  have HMa : Hid (Ma m q) := hMa
  have HMk : Hid (Mk m2 0) := hMk
  have Hz : Hid (16 * ((q : Int) - 1) = ((16 * (q - 1) : Nat) : Int)) := show _ = _ by omega
  have HK : Hid (Rd w (.slice ak nk ck) keep) := hK
  have t0 : Hid (0 = 0) := rfl
  have t1 : Hid (0 = 0) := rfl
  have t2 : Hid (0 = 0) := rfl
  have t3 : Hid (0 = 0) := rfl
  clear hMa hMk hcs hA lA hRe hM hlz ha hb hK hBd
  go_enter Try.func5, Try.ntmps5
  go_wp2_with (first
    | (go_at_call 7; refine (awake_any _).mono ?_; rintro e w1 ⟨rfl, hb1⟩; have H1 : Hid (Below w.heap.size w w1) := hb1; clear hb1)
    | (clear t0; refine stop_at 27 rfl ?_; obtain ⟨g1, g2, g3, g4, g5, g6⟩ := HMa.out)
    | (go_at_call 8; refine (k8.out _).mono ?_; rintro e w2 ⟨v2, rfl, r2, hb2⟩; obtain ⟨_, a2, c2, rfl⟩ := r2.form; have R2 : Hid (Rd w2 (.slice a2 A.length c2) A) := r2; have H2 : Hid (Below w.heap.size w w2) := bstep H1.out hb2; clear hb2 r2 g1 g2 g3 g4 g5 g6)
    | (go_at_call 12; refine (k12.out _).mono ?_; rintro e w3 ⟨a3, c3, rfl, r3, hb3⟩; have R3 : Hid (RdS w3 (.slice a3 2 c3) [⟨1, 3, b⟩, ⟨2, 0, 0⟩]) := r3; have R23 : Hid (Rd w3 (.slice a2 A.length c2) A) := R2.out.below hb3; have H3 : Hid (Below w.heap.size w w3) := bstep H2.out hb3; clear hb3 r3)
    | (at_builtin; clear t1; refine append_own_rd rfl (.tmp 75) (.tmp 76) rfl w3.heap.size (.slice (some ⟨w3.heap.size, 0, none⟩) 0 0) [] rfl (own_none w3 (Nat.le_refl _)) (.slice a2 A.length c2) A rfl (R23.out.below ((Below.refl _ _).alloc (Nat.le_refl _) _)) (by simp) (by simp) A rfl ?_; intro a4 c4 w4 o4 b4; have O4 : Hid (OwnI w4 w3.heap.size (.slice a4 A.length c4) A) := o4; have H4 : Hid (Below w3.heap.size w3 w4) := ((Below.refl _ w3).alloc (Nat.le_refl _) _).trans b4; clear o4 b4)
    | (at_builtin; clear t2; refine append_zerosI rfl (.tmp 77) (.tmp 80) rfl w3.heap.size a4 c4 A rfl O4.out (16 * (q - 1)) _ rfl Hz.out (by rw [HlA.out]; omega) (by rw [HlA.out]; omega) (by omega) (by omega) H4.out.size M HM.out ?_; intro a5 c5 w5 o5 b5; have O5 : Hid (Rd w5 (.slice a5 M.length c5) M) := o5.rd (by rw [HlM.out]; omega); have H5 : Hid (Below w3.heap.size w3 w5) := H4.out.trans b5; clear o5 b5)
    | (go_at_call 16; refine (k16.out _ _ O5.out).mono ?_; rintro e w6 ⟨p1, q1, p2, q2, p3, q3, rfl, r6, hb6⟩; have R6 : Hid (RdM (w6.alloc (.cells #[.slice p1 (16 * q) q1, .slice p2 (16 * q) q2, .slice p3 0 q3] 38)) (.slice p1 (16 * q) q1) (.slice p2 (16 * q) q2) (.slice p3 0 q3) (allM M)) := r6.below ((Below.refl _ _).alloc (Nat.le_refl _) _); have H6 : Hid (Below w3.heap.size w3 (w6.alloc (.cells #[.slice p1 (16 * q) q1, .slice p2 (16 * q) q2, .slice p3 0 q3] 38))) := bstep (bstep H5.out hb6) ((Below.refl _ _).alloc (Nat.le_refl _) _); clear r6 hb6)
    | (clear t3; refine stop_at 86 rfl ?_; obtain ⟨f1, f2, f3, f4, f5, f6⟩ := HMk.out)
    | (go_at_call 17; refine (k17.out _ _ _ _ _ (bstep H3.out H6.out) R6.out (R3.out.below H6.out)).mono ?_; rintro e w7 ⟨v7, rfl, r7, hb7⟩; have R7 : Hid (Rd w7 v7 R) := r7; have H7 : Hid (Below w.heap.size w w7) := bstep (bstep H3.out H6.out) hb7; clear r7 hb7 f1 f2 f3 f4 f5 f6)
    | (go_at_call 10; refine (k10.out _ _ R7.out).mono ?_; rintro e w8 ⟨rfl, hb8⟩; have H8 : Hid (Below w.heap.size w w8) := bstep H7.out hb8; clear hb8))
  go_ret
  exact ⟨ret_bool rfl, H8.out⟩

set_option maxRecDepth 100000 in
set_option maxHeartbeats 4000000 in
theorem root_g1 (m q : Nat) (a b : Int) (m2 : Nat) (ak : Option Addr) (nk ck : Nat) (w : World) (hq : q < 18) (hMa : Ma m q) (h5 : ¬ ((nk : Int) > 50)) (h2 : 2 ≤ q) (ha : mbB (q : Int) a = true) (hb : mbB (q : Int) b = true) (hMk : Mk m2 1) (keep : List Int) (hK : Rd w (.slice ak nk ck) keep) (hBd : Bd keep) (hcs : csP (allM (hdW (q : Int) a ++ List.replicate (16 * (q - 1)) 0)) [⟨1, 3, b⟩, ⟨2, 0, 0⟩] 1 keep = hdW (q : Int) a ++ List.replicate (16 * (q - 1)) 0) :
    Calls Try.prog 5 #[.int .u8 (m : Int), .int .i64 a, .int .i64 b, .int .u8 (m2 : Int), .slice ak nk ck] w fun e w' => e = .returned (.bool true) ∧ Below w.heap.size w w' := by
  have hlz : (hdW (q : Int) a ++ List.replicate (16 * (q - 1)) 0).length = 16 * q := by rw [List.length_append, hdW_length, List.length_replicate]; omega
  have k8 : Hid (∀ w, Calls Try.prog 8 #[.int .i64 (q : Int), .int .i64 a] w fun e w' => ∃ v, e = .returned (.tuple #[v, .int .i64 0]) ∧ Rd w' v (hdW (q : Int) a) ∧ Below w.heap.size w w') := fun w => by
    have := words_any (q : Int) a w
    rwa [(wd_yes ha).2, (wd_yes ha).1] at this
  have k12 : Hid (∀ w, Calls Try.prog 12 #[.int .i64 (q : Int), .int .i64 b] w fun e w' => ∃ av c, e = .returned (.tuple #[.slice av 2 c, .int .i64 0]) ∧ RdS w' (.slice av 2 c) [⟨1, 3, b⟩, ⟨2, 0, 0⟩] ∧ Below w.heap.size w w') := fun w => by
    have := root_any (q : Int) b w
    rw [(wd_yes hb).2, rt_yes hb] at this
    refine this.mono ?_
    rintro e w' ⟨v, rfl, hR, hb⟩
    obtain ⟨_, av, c, rfl⟩ := hR.form
    exact ⟨av, c, rfl, hR, hb⟩
  have k16 : Hid (∀ v w, Rd w v (hdW (q : Int) a ++ List.replicate (16 * (q - 1)) 0) → Calls Try.prog 16 #[v] w fun e w' => ∃ a1 c1 a2 c2 a3 c3, e = .returned (.tuple #[.agg #[.slice a1 (16 * q) c1, .slice a2 (16 * q) c2, .slice a3 0 c3], .int .i64 0]) ∧ RdM w' (.slice a1 (16 * q) c1) (.slice a2 (16 * q) c2) (.slice a3 0 c3) (allM (hdW (q : Int) a ++ List.replicate (16 * (q - 1)) 0)) ∧ Below w.heap.size w w') := fun v w hR => by
    have := new_all v _ w hR (by rw [hlz]; omega) (by rw [hlz]; omega)
    rwa [hlz] at this
  obtain ⟨R, hRe⟩ : ∃ R, R = hdW (q : Int) a ++ List.replicate (16 * (q - 1)) 0 := ⟨_, rfl⟩
  have k17 : Hid (∀ va vb vc v W, Below w.heap.size w W → RdM W va vb vc (allM (hdW (q : Int) a ++ List.replicate (16 * (q - 1)) 0)) → RdS W v [⟨1, 3, b⟩, ⟨2, 0, 0⟩] → Calls Try.prog 17 #[.agg #[va, vb, vc], v, .int .i64 1, .slice ak nk ck] W fun e w' => ∃ v', e = .returned (.tuple #[v', .int .i64 0]) ∧ Rd w' v' R ∧ Below W.heap.size W w') := fun va vb vc v W hW hM hS => by
    have := crashS_any va vb vc v _ _ _ 1 keep W hM hS (hK.below hW) hBd (by show 0 + 2 ≤ 900; omega)
    obtain ⟨hm, _⟩ := root_kept (hdW (q : Int) a ++ List.replicate (16 * (q - 1)) 0) b keep (by rw [hlz]; omega) (by rw [hlz]; omega) (by rw [hlz]; omega)
    rwa [ruE_yes hm, hcs, ← hRe] at this
  have k10 : Hid (∀ v w, Rd w v R → Calls Try.prog 10 #[v] w fun e w' => e = .returned (.tuple #[.int .i64 (q : Int), .int .i64 a, .int .i64 0]) ∧ Below w.heap.size w w') := fun v w hR => by
    rw [hRe] at hR
    have := read_any v _ w hR.rl
    obtain ⟨hB, hBn⟩ := rd_back (n := (q : Int)) (r := a) (ys := List.replicate (16 * (q - 1)) 0) ha (by rw [List.length_replicate]; omega)
    obtain ⟨e1, e2, e3⟩ := rd_yes hB
    rwa [e1, e2, e3, hBn, hd_root] at this
  obtain ⟨A, hA⟩ : ∃ A, A = hdW (q : Int) a := ⟨_, rfl⟩
  have lA : A.length = 16 := by rw [hA]; rfl
  rw [← hA] at k8 k16 k17 hlz
  obtain ⟨M, hM⟩ : ∃ M, A ++ List.replicate (16 * (q - 1)) 0 = M := ⟨_, rfl⟩
  rw [hM] at k16 k17 hlz
  have HM : Hid (A ++ List.replicate (16 * (q - 1)) 0 = M) := hM
  have HlA : Hid (A.length = 16) := lA
  have HlM : Hid (M.length = 16 * q) := hlz
  have HMa : Hid (Ma m q) := hMa
  have HMk : Hid (Mk m2 1) := hMk
  have Hz : Hid (16 * ((q : Int) - 1) = ((16 * (q - 1) : Nat) : Int)) := show _ = _ by omega
  have HK : Hid (Rd w (.slice ak nk ck) keep) := hK
  have t0 : Hid (0 = 0) := rfl
  have t1 : Hid (0 = 0) := rfl
  have t2 : Hid (0 = 0) := rfl
  have t3 : Hid (0 = 0) := rfl
  clear hMa hMk hcs hA lA hRe hM hlz ha hb hK hBd
  go_enter Try.func5, Try.ntmps5
  go_wp2_with (first
    | (go_at_call 7; refine (awake_any _).mono ?_; rintro e w1 ⟨rfl, hb1⟩; have H1 : Hid (Below w.heap.size w w1) := hb1; clear hb1)
    | (clear t0; refine stop_at 27 rfl ?_; obtain ⟨g1, g2, g3, g4, g5, g6⟩ := HMa.out)
    | (go_at_call 8; refine (k8.out _).mono ?_; rintro e w2 ⟨v2, rfl, r2, hb2⟩; obtain ⟨_, a2, c2, rfl⟩ := r2.form; have R2 : Hid (Rd w2 (.slice a2 A.length c2) A) := r2; have H2 : Hid (Below w.heap.size w w2) := bstep H1.out hb2; clear hb2 r2 g1 g2 g3 g4 g5 g6)
    | (go_at_call 12; refine (k12.out _).mono ?_; rintro e w3 ⟨a3, c3, rfl, r3, hb3⟩; have R3 : Hid (RdS w3 (.slice a3 2 c3) [⟨1, 3, b⟩, ⟨2, 0, 0⟩]) := r3; have R23 : Hid (Rd w3 (.slice a2 A.length c2) A) := R2.out.below hb3; have H3 : Hid (Below w.heap.size w w3) := bstep H2.out hb3; clear hb3 r3)
    | (at_builtin; clear t1; refine append_own_rd rfl (.tmp 75) (.tmp 76) rfl w3.heap.size (.slice (some ⟨w3.heap.size, 0, none⟩) 0 0) [] rfl (own_none w3 (Nat.le_refl _)) (.slice a2 A.length c2) A rfl (R23.out.below ((Below.refl _ _).alloc (Nat.le_refl _) _)) (by simp) (by simp) A rfl ?_; intro a4 c4 w4 o4 b4; have O4 : Hid (OwnI w4 w3.heap.size (.slice a4 A.length c4) A) := o4; have H4 : Hid (Below w3.heap.size w3 w4) := ((Below.refl _ w3).alloc (Nat.le_refl _) _).trans b4; clear o4 b4)
    | (at_builtin; clear t2; refine append_zerosI rfl (.tmp 77) (.tmp 80) rfl w3.heap.size a4 c4 A rfl O4.out (16 * (q - 1)) _ rfl Hz.out (by rw [HlA.out]; omega) (by rw [HlA.out]; omega) (by omega) (by omega) H4.out.size M HM.out ?_; intro a5 c5 w5 o5 b5; have O5 : Hid (Rd w5 (.slice a5 M.length c5) M) := o5.rd (by rw [HlM.out]; omega); have H5 : Hid (Below w3.heap.size w3 w5) := H4.out.trans b5; clear o5 b5)
    | (go_at_call 16; refine (k16.out _ _ O5.out).mono ?_; rintro e w6 ⟨p1, q1, p2, q2, p3, q3, rfl, r6, hb6⟩; have R6 : Hid (RdM (w6.alloc (.cells #[.slice p1 (16 * q) q1, .slice p2 (16 * q) q2, .slice p3 0 q3] 38)) (.slice p1 (16 * q) q1) (.slice p2 (16 * q) q2) (.slice p3 0 q3) (allM M)) := r6.below ((Below.refl _ _).alloc (Nat.le_refl _) _); have H6 : Hid (Below w3.heap.size w3 (w6.alloc (.cells #[.slice p1 (16 * q) q1, .slice p2 (16 * q) q2, .slice p3 0 q3] 38))) := bstep (bstep H5.out hb6) ((Below.refl _ _).alloc (Nat.le_refl _) _); clear r6 hb6)
    | (clear t3; refine stop_at 86 rfl ?_; obtain ⟨f1, f2, f3, f4, f5, f6⟩ := HMk.out)
    | (go_at_call 17; refine (k17.out _ _ _ _ _ (bstep H3.out H6.out) R6.out (R3.out.below H6.out)).mono ?_; rintro e w7 ⟨v7, rfl, r7, hb7⟩; have R7 : Hid (Rd w7 v7 R) := r7; have H7 : Hid (Below w.heap.size w w7) := bstep (bstep H3.out H6.out) hb7; clear r7 hb7 f1 f2 f3 f4 f5 f6)
    | (go_at_call 10; refine (k10.out _ _ R7.out).mono ?_; rintro e w8 ⟨rfl, hb8⟩; have H8 : Hid (Below w.heap.size w w8) := bstep H7.out hb8; clear hb8))
  go_ret
  exact ⟨ret_bool rfl, H8.out⟩

set_option maxRecDepth 100000 in
set_option maxHeartbeats 4000000 in
theorem root_g2 (m q : Nat) (a b : Int) (m2 : Nat) (ak : Option Addr) (nk ck : Nat) (w : World) (hq : q < 18) (hMa : Ma m q) (h5 : ¬ ((nk : Int) > 50)) (h2 : 2 ≤ q) (ha : mbB (q : Int) a = true) (hb : mbB (q : Int) b = true) (hMk : Mk m2 1) (keep : List Int) (hK : Rd w (.slice ak nk ck) keep) (hBd : Bd keep) (hne : (b == a) = false) (hcs : csP (allM (hdW (q : Int) a ++ List.replicate (16 * (q - 1)) 0)) [⟨1, 3, b⟩, ⟨2, 0, 0⟩] 1 keep = hdW (q : Int) b ++ List.replicate (16 * (q - 1)) 0) :
    Calls Try.prog 5 #[.int .u8 (m : Int), .int .i64 a, .int .i64 b, .int .u8 (m2 : Int), .slice ak nk ck] w fun e w' => e = .returned (.bool true) ∧ Below w.heap.size w w' := by
  have hlz : (hdW (q : Int) a ++ List.replicate (16 * (q - 1)) 0).length = 16 * q := by rw [List.length_append, hdW_length, List.length_replicate]; omega
  have k8 : Hid (∀ w, Calls Try.prog 8 #[.int .i64 (q : Int), .int .i64 a] w fun e w' => ∃ v, e = .returned (.tuple #[v, .int .i64 0]) ∧ Rd w' v (hdW (q : Int) a) ∧ Below w.heap.size w w') := fun w => by
    have := words_any (q : Int) a w
    rwa [(wd_yes ha).2, (wd_yes ha).1] at this
  have k12 : Hid (∀ w, Calls Try.prog 12 #[.int .i64 (q : Int), .int .i64 b] w fun e w' => ∃ av c, e = .returned (.tuple #[.slice av 2 c, .int .i64 0]) ∧ RdS w' (.slice av 2 c) [⟨1, 3, b⟩, ⟨2, 0, 0⟩] ∧ Below w.heap.size w w') := fun w => by
    have := root_any (q : Int) b w
    rw [(wd_yes hb).2, rt_yes hb] at this
    refine this.mono ?_
    rintro e w' ⟨v, rfl, hR, hb⟩
    obtain ⟨_, av, c, rfl⟩ := hR.form
    exact ⟨av, c, rfl, hR, hb⟩
  have k16 : Hid (∀ v w, Rd w v (hdW (q : Int) a ++ List.replicate (16 * (q - 1)) 0) → Calls Try.prog 16 #[v] w fun e w' => ∃ a1 c1 a2 c2 a3 c3, e = .returned (.tuple #[.agg #[.slice a1 (16 * q) c1, .slice a2 (16 * q) c2, .slice a3 0 c3], .int .i64 0]) ∧ RdM w' (.slice a1 (16 * q) c1) (.slice a2 (16 * q) c2) (.slice a3 0 c3) (allM (hdW (q : Int) a ++ List.replicate (16 * (q - 1)) 0)) ∧ Below w.heap.size w w') := fun v w hR => by
    have := new_all v _ w hR (by rw [hlz]; omega) (by rw [hlz]; omega)
    rwa [hlz] at this
  obtain ⟨R, hRe⟩ : ∃ R, R = hdW (q : Int) b ++ List.replicate (16 * (q - 1)) 0 := ⟨_, rfl⟩
  have k17 : Hid (∀ va vb vc v W, Below w.heap.size w W → RdM W va vb vc (allM (hdW (q : Int) a ++ List.replicate (16 * (q - 1)) 0)) → RdS W v [⟨1, 3, b⟩, ⟨2, 0, 0⟩] → Calls Try.prog 17 #[.agg #[va, vb, vc], v, .int .i64 1, .slice ak nk ck] W fun e w' => ∃ v', e = .returned (.tuple #[v', .int .i64 0]) ∧ Rd w' v' R ∧ Below W.heap.size W w') := fun va vb vc v W hW hM hS => by
    have := crashS_any va vb vc v _ _ _ 1 keep W hM hS (hK.below hW) hBd (by show 0 + 2 ≤ 900; omega)
    obtain ⟨hm, _⟩ := root_kept (hdW (q : Int) a ++ List.replicate (16 * (q - 1)) 0) b keep (by rw [hlz]; omega) (by rw [hlz]; omega) (by rw [hlz]; omega)
    rwa [ruE_yes hm, hcs, ← hRe] at this
  have k10 : Hid (∀ v w, Rd w v R → Calls Try.prog 10 #[v] w fun e w' => e = .returned (.tuple #[.int .i64 (q : Int), .int .i64 b, .int .i64 0]) ∧ Below w.heap.size w w') := fun v w hR => by
    rw [hRe] at hR
    have := read_any v _ w hR.rl
    obtain ⟨hB, hBn⟩ := rd_back (n := (q : Int)) (r := b) (ys := List.replicate (16 * (q - 1)) 0) hb (by rw [List.length_replicate]; omega)
    obtain ⟨e1, e2, e3⟩ := rd_yes hB
    rwa [e1, e2, e3, hBn, hd_root] at this
  obtain ⟨A, hA⟩ : ∃ A, A = hdW (q : Int) a := ⟨_, rfl⟩
  have lA : A.length = 16 := by rw [hA]; rfl
  rw [← hA] at k8 k16 k17 hlz
  obtain ⟨M, hM⟩ : ∃ M, A ++ List.replicate (16 * (q - 1)) 0 = M := ⟨_, rfl⟩
  rw [hM] at k16 k17 hlz
  have HM : Hid (A ++ List.replicate (16 * (q - 1)) 0 = M) := hM
  have HlA : Hid (A.length = 16) := lA
  have HlM : Hid (M.length = 16 * q) := hlz
  have HMa : Hid (Ma m q) := hMa
  have HMk : Hid (Mk m2 1) := hMk
  have Hz : Hid (16 * ((q : Int) - 1) = ((16 * (q - 1) : Nat) : Int)) := show _ = _ by omega
  have HK : Hid (Rd w (.slice ak nk ck) keep) := hK
  have t0 : Hid (0 = 0) := rfl
  have t1 : Hid (0 = 0) := rfl
  have t2 : Hid (0 = 0) := rfl
  have t3 : Hid (0 = 0) := rfl
  clear hMa hMk hcs hA lA hRe hM hlz ha hb hK hBd
  go_enter Try.func5, Try.ntmps5
  go_wp2_with (first
    | (go_at_call 7; refine (awake_any _).mono ?_; rintro e w1 ⟨rfl, hb1⟩; have H1 : Hid (Below w.heap.size w w1) := hb1; clear hb1)
    | (clear t0; refine stop_at 27 rfl ?_; obtain ⟨g1, g2, g3, g4, g5, g6⟩ := HMa.out)
    | (go_at_call 8; refine (k8.out _).mono ?_; rintro e w2 ⟨v2, rfl, r2, hb2⟩; obtain ⟨_, a2, c2, rfl⟩ := r2.form; have R2 : Hid (Rd w2 (.slice a2 A.length c2) A) := r2; have H2 : Hid (Below w.heap.size w w2) := bstep H1.out hb2; clear hb2 r2 g1 g2 g3 g4 g5 g6)
    | (go_at_call 12; refine (k12.out _).mono ?_; rintro e w3 ⟨a3, c3, rfl, r3, hb3⟩; have R3 : Hid (RdS w3 (.slice a3 2 c3) [⟨1, 3, b⟩, ⟨2, 0, 0⟩]) := r3; have R23 : Hid (Rd w3 (.slice a2 A.length c2) A) := R2.out.below hb3; have H3 : Hid (Below w.heap.size w w3) := bstep H2.out hb3; clear hb3 r3)
    | (at_builtin; clear t1; refine append_own_rd rfl (.tmp 75) (.tmp 76) rfl w3.heap.size (.slice (some ⟨w3.heap.size, 0, none⟩) 0 0) [] rfl (own_none w3 (Nat.le_refl _)) (.slice a2 A.length c2) A rfl (R23.out.below ((Below.refl _ _).alloc (Nat.le_refl _) _)) (by simp) (by simp) A rfl ?_; intro a4 c4 w4 o4 b4; have O4 : Hid (OwnI w4 w3.heap.size (.slice a4 A.length c4) A) := o4; have H4 : Hid (Below w3.heap.size w3 w4) := ((Below.refl _ w3).alloc (Nat.le_refl _) _).trans b4; clear o4 b4)
    | (at_builtin; clear t2; refine append_zerosI rfl (.tmp 77) (.tmp 80) rfl w3.heap.size a4 c4 A rfl O4.out (16 * (q - 1)) _ rfl Hz.out (by rw [HlA.out]; omega) (by rw [HlA.out]; omega) (by omega) (by omega) H4.out.size M HM.out ?_; intro a5 c5 w5 o5 b5; have O5 : Hid (Rd w5 (.slice a5 M.length c5) M) := o5.rd (by rw [HlM.out]; omega); have H5 : Hid (Below w3.heap.size w3 w5) := H4.out.trans b5; clear o5 b5)
    | (go_at_call 16; refine (k16.out _ _ O5.out).mono ?_; rintro e w6 ⟨p1, q1, p2, q2, p3, q3, rfl, r6, hb6⟩; have R6 : Hid (RdM (w6.alloc (.cells #[.slice p1 (16 * q) q1, .slice p2 (16 * q) q2, .slice p3 0 q3] 38)) (.slice p1 (16 * q) q1) (.slice p2 (16 * q) q2) (.slice p3 0 q3) (allM M)) := r6.below ((Below.refl _ _).alloc (Nat.le_refl _) _); have H6 : Hid (Below w3.heap.size w3 (w6.alloc (.cells #[.slice p1 (16 * q) q1, .slice p2 (16 * q) q2, .slice p3 0 q3] 38))) := bstep (bstep H5.out hb6) ((Below.refl _ _).alloc (Nat.le_refl _) _); clear r6 hb6)
    | (clear t3; refine stop_at 86 rfl ?_; obtain ⟨f1, f2, f3, f4, f5, f6⟩ := HMk.out)
    | (go_at_call 17; refine (k17.out _ _ _ _ _ (bstep H3.out H6.out) R6.out (R3.out.below H6.out)).mono ?_; rintro e w7 ⟨v7, rfl, r7, hb7⟩; have R7 : Hid (Rd w7 v7 R) := r7; have H7 : Hid (Below w.heap.size w w7) := bstep (bstep H3.out H6.out) hb7; clear r7 hb7 f1 f2 f3 f4 f5 f6)
    | (go_at_call 10; refine (k10.out _ _ R7.out).mono ?_; rintro e w8 ⟨rfl, hb8⟩; have H8 : Hid (Below w.heap.size w w8) := bstep H7.out hb8; clear hb8))
  go_ret
  exact ⟨ret_bool rfl, H8.out⟩

set_option maxRecDepth 100000 in
set_option maxHeartbeats 4000000 in
theorem root_g3 (m q : Nat) (a b : Int) (m2 : Nat) (ak : Option Addr) (nk ck : Nat) (w : World) (hq : q < 18) (hMa : Ma m q) (h5 : ¬ ((nk : Int) > 50)) (h2 : 2 ≤ q) (ha : mbB (q : Int) a = true) (hb : mbB (q : Int) b = true) (hMk : Mk m2 2) (keep : List Int) (hK : Rd w (.slice ak nk ck) keep) (hBd : Bd keep) (hne : (b == a) = false) (hcs : csP (allM (hdW (q : Int) a ++ List.replicate (16 * (q - 1)) 0)) [⟨1, 3, b⟩, ⟨2, 0, 0⟩] 2 keep = hdW (q : Int) b ++ List.replicate (16 * (q - 1)) 0) :
    Calls Try.prog 5 #[.int .u8 (m : Int), .int .i64 a, .int .i64 b, .int .u8 (m2 : Int), .slice ak nk ck] w fun e w' => e = .returned (.bool true) ∧ Below w.heap.size w w' := by
  have hlz : (hdW (q : Int) a ++ List.replicate (16 * (q - 1)) 0).length = 16 * q := by rw [List.length_append, hdW_length, List.length_replicate]; omega
  have k8 : Hid (∀ w, Calls Try.prog 8 #[.int .i64 (q : Int), .int .i64 a] w fun e w' => ∃ v, e = .returned (.tuple #[v, .int .i64 0]) ∧ Rd w' v (hdW (q : Int) a) ∧ Below w.heap.size w w') := fun w => by
    have := words_any (q : Int) a w
    rwa [(wd_yes ha).2, (wd_yes ha).1] at this
  have k12 : Hid (∀ w, Calls Try.prog 12 #[.int .i64 (q : Int), .int .i64 b] w fun e w' => ∃ av c, e = .returned (.tuple #[.slice av 2 c, .int .i64 0]) ∧ RdS w' (.slice av 2 c) [⟨1, 3, b⟩, ⟨2, 0, 0⟩] ∧ Below w.heap.size w w') := fun w => by
    have := root_any (q : Int) b w
    rw [(wd_yes hb).2, rt_yes hb] at this
    refine this.mono ?_
    rintro e w' ⟨v, rfl, hR, hb⟩
    obtain ⟨_, av, c, rfl⟩ := hR.form
    exact ⟨av, c, rfl, hR, hb⟩
  have k16 : Hid (∀ v w, Rd w v (hdW (q : Int) a ++ List.replicate (16 * (q - 1)) 0) → Calls Try.prog 16 #[v] w fun e w' => ∃ a1 c1 a2 c2 a3 c3, e = .returned (.tuple #[.agg #[.slice a1 (16 * q) c1, .slice a2 (16 * q) c2, .slice a3 0 c3], .int .i64 0]) ∧ RdM w' (.slice a1 (16 * q) c1) (.slice a2 (16 * q) c2) (.slice a3 0 c3) (allM (hdW (q : Int) a ++ List.replicate (16 * (q - 1)) 0)) ∧ Below w.heap.size w w') := fun v w hR => by
    have := new_all v _ w hR (by rw [hlz]; omega) (by rw [hlz]; omega)
    rwa [hlz] at this
  obtain ⟨R, hRe⟩ : ∃ R, R = hdW (q : Int) b ++ List.replicate (16 * (q - 1)) 0 := ⟨_, rfl⟩
  have k17 : Hid (∀ va vb vc v W, Below w.heap.size w W → RdM W va vb vc (allM (hdW (q : Int) a ++ List.replicate (16 * (q - 1)) 0)) → RdS W v [⟨1, 3, b⟩, ⟨2, 0, 0⟩] → Calls Try.prog 17 #[.agg #[va, vb, vc], v, .int .i64 2, .slice ak nk ck] W fun e w' => ∃ v', e = .returned (.tuple #[v', .int .i64 0]) ∧ Rd w' v' R ∧ Below W.heap.size W w') := fun va vb vc v W hW hM hS => by
    have := crashS_any va vb vc v _ _ _ 2 keep W hM hS (hK.below hW) hBd (by show 0 + 2 ≤ 900; omega)
    obtain ⟨hm, _⟩ := root_kept (hdW (q : Int) a ++ List.replicate (16 * (q - 1)) 0) b keep (by rw [hlz]; omega) (by rw [hlz]; omega) (by rw [hlz]; omega)
    rwa [ruE_yes hm, hcs, ← hRe] at this
  have k10 : Hid (∀ v w, Rd w v R → Calls Try.prog 10 #[v] w fun e w' => e = .returned (.tuple #[.int .i64 (q : Int), .int .i64 b, .int .i64 0]) ∧ Below w.heap.size w w') := fun v w hR => by
    rw [hRe] at hR
    have := read_any v _ w hR.rl
    obtain ⟨hB, hBn⟩ := rd_back (n := (q : Int)) (r := b) (ys := List.replicate (16 * (q - 1)) 0) hb (by rw [List.length_replicate]; omega)
    obtain ⟨e1, e2, e3⟩ := rd_yes hB
    rwa [e1, e2, e3, hBn, hd_root] at this
  obtain ⟨A, hA⟩ : ∃ A, A = hdW (q : Int) a := ⟨_, rfl⟩
  have lA : A.length = 16 := by rw [hA]; rfl
  rw [← hA] at k8 k16 k17 hlz
  obtain ⟨M, hM⟩ : ∃ M, A ++ List.replicate (16 * (q - 1)) 0 = M := ⟨_, rfl⟩
  rw [hM] at k16 k17 hlz
  have HM : Hid (A ++ List.replicate (16 * (q - 1)) 0 = M) := hM
  have HlA : Hid (A.length = 16) := lA
  have HlM : Hid (M.length = 16 * q) := hlz
  have HMa : Hid (Ma m q) := hMa
  have HMk : Hid (Mk m2 2) := hMk
  have Hz : Hid (16 * ((q : Int) - 1) = ((16 * (q - 1) : Nat) : Int)) := show _ = _ by omega
  have HK : Hid (Rd w (.slice ak nk ck) keep) := hK
  have t0 : Hid (0 = 0) := rfl
  have t1 : Hid (0 = 0) := rfl
  have t2 : Hid (0 = 0) := rfl
  have t3 : Hid (0 = 0) := rfl
  clear hMa hMk hcs hA lA hRe hM hlz ha hb hK hBd
  go_enter Try.func5, Try.ntmps5
  go_wp2_with (first
    | (go_at_call 7; refine (awake_any _).mono ?_; rintro e w1 ⟨rfl, hb1⟩; have H1 : Hid (Below w.heap.size w w1) := hb1; clear hb1)
    | (clear t0; refine stop_at 27 rfl ?_; obtain ⟨g1, g2, g3, g4, g5, g6⟩ := HMa.out)
    | (go_at_call 8; refine (k8.out _).mono ?_; rintro e w2 ⟨v2, rfl, r2, hb2⟩; obtain ⟨_, a2, c2, rfl⟩ := r2.form; have R2 : Hid (Rd w2 (.slice a2 A.length c2) A) := r2; have H2 : Hid (Below w.heap.size w w2) := bstep H1.out hb2; clear hb2 r2 g1 g2 g3 g4 g5 g6)
    | (go_at_call 12; refine (k12.out _).mono ?_; rintro e w3 ⟨a3, c3, rfl, r3, hb3⟩; have R3 : Hid (RdS w3 (.slice a3 2 c3) [⟨1, 3, b⟩, ⟨2, 0, 0⟩]) := r3; have R23 : Hid (Rd w3 (.slice a2 A.length c2) A) := R2.out.below hb3; have H3 : Hid (Below w.heap.size w w3) := bstep H2.out hb3; clear hb3 r3)
    | (at_builtin; clear t1; refine append_own_rd rfl (.tmp 75) (.tmp 76) rfl w3.heap.size (.slice (some ⟨w3.heap.size, 0, none⟩) 0 0) [] rfl (own_none w3 (Nat.le_refl _)) (.slice a2 A.length c2) A rfl (R23.out.below ((Below.refl _ _).alloc (Nat.le_refl _) _)) (by simp) (by simp) A rfl ?_; intro a4 c4 w4 o4 b4; have O4 : Hid (OwnI w4 w3.heap.size (.slice a4 A.length c4) A) := o4; have H4 : Hid (Below w3.heap.size w3 w4) := ((Below.refl _ w3).alloc (Nat.le_refl _) _).trans b4; clear o4 b4)
    | (at_builtin; clear t2; refine append_zerosI rfl (.tmp 77) (.tmp 80) rfl w3.heap.size a4 c4 A rfl O4.out (16 * (q - 1)) _ rfl Hz.out (by rw [HlA.out]; omega) (by rw [HlA.out]; omega) (by omega) (by omega) H4.out.size M HM.out ?_; intro a5 c5 w5 o5 b5; have O5 : Hid (Rd w5 (.slice a5 M.length c5) M) := o5.rd (by rw [HlM.out]; omega); have H5 : Hid (Below w3.heap.size w3 w5) := H4.out.trans b5; clear o5 b5)
    | (go_at_call 16; refine (k16.out _ _ O5.out).mono ?_; rintro e w6 ⟨p1, q1, p2, q2, p3, q3, rfl, r6, hb6⟩; have R6 : Hid (RdM (w6.alloc (.cells #[.slice p1 (16 * q) q1, .slice p2 (16 * q) q2, .slice p3 0 q3] 38)) (.slice p1 (16 * q) q1) (.slice p2 (16 * q) q2) (.slice p3 0 q3) (allM M)) := r6.below ((Below.refl _ _).alloc (Nat.le_refl _) _); have H6 : Hid (Below w3.heap.size w3 (w6.alloc (.cells #[.slice p1 (16 * q) q1, .slice p2 (16 * q) q2, .slice p3 0 q3] 38))) := bstep (bstep H5.out hb6) ((Below.refl _ _).alloc (Nat.le_refl _) _); clear r6 hb6)
    | (clear t3; refine stop_at 86 rfl ?_; obtain ⟨f1, f2, f3, f4, f5, f6⟩ := HMk.out)
    | (go_at_call 17; refine (k17.out _ _ _ _ _ (bstep H3.out H6.out) R6.out (R3.out.below H6.out)).mono ?_; rintro e w7 ⟨v7, rfl, r7, hb7⟩; have R7 : Hid (Rd w7 v7 R) := r7; have H7 : Hid (Below w.heap.size w w7) := bstep (bstep H3.out H6.out) hb7; clear r7 hb7 f1 f2 f3 f4 f5 f6)
    | (go_at_call 10; refine (k10.out _ _ R7.out).mono ?_; rintro e w8 ⟨rfl, hb8⟩; have H8 : Hid (Below w.heap.size w w8) := bstep H7.out hb8; clear hb8))
  go_ret
  exact ⟨ret_bool rfl, H8.out⟩

set_option maxRecDepth 100000 in
set_option maxHeartbeats 4000000 in
theorem root_g4 (m q : Nat) (a : Int) (m2 : Nat) (ak : Option Addr) (nk ck : Nat) (w : World) (hq : q < 18) (hMa : Ma m q) (h5 : ¬ ((nk : Int) > 50)) (h2 : 2 ≤ q) (ha : mbB (q : Int) a = true) (hMk : Mk m2 2) (keep : List Int) (hK : Rd w (.slice ak nk ck) keep) (hBd : Bd keep) (hcs : csP (allM (hdW (q : Int) a ++ List.replicate (16 * (q - 1)) 0)) [⟨1, 3, a⟩, ⟨2, 0, 0⟩] 2 keep = hdW (q : Int) a ++ List.replicate (16 * (q - 1)) 0) :
    Calls Try.prog 5 #[.int .u8 (m : Int), .int .i64 a, .int .i64 a, .int .u8 (m2 : Int), .slice ak nk ck] w fun e w' => e = .returned (.bool true) ∧ Below w.heap.size w w' := by
  have hlz : (hdW (q : Int) a ++ List.replicate (16 * (q - 1)) 0).length = 16 * q := by rw [List.length_append, hdW_length, List.length_replicate]; omega
  have k8 : Hid (∀ w, Calls Try.prog 8 #[.int .i64 (q : Int), .int .i64 a] w fun e w' => ∃ v, e = .returned (.tuple #[v, .int .i64 0]) ∧ Rd w' v (hdW (q : Int) a) ∧ Below w.heap.size w w') := fun w => by
    have := words_any (q : Int) a w
    rwa [(wd_yes ha).2, (wd_yes ha).1] at this
  have k12 : Hid (∀ w, Calls Try.prog 12 #[.int .i64 (q : Int), .int .i64 a] w fun e w' => ∃ av c, e = .returned (.tuple #[.slice av 2 c, .int .i64 0]) ∧ RdS w' (.slice av 2 c) [⟨1, 3, a⟩, ⟨2, 0, 0⟩] ∧ Below w.heap.size w w') := fun w => by
    have := root_any (q : Int) a w
    rw [(wd_yes ha).2, rt_yes ha] at this
    refine this.mono ?_
    rintro e w' ⟨v, rfl, hR, hb⟩
    obtain ⟨_, av, c, rfl⟩ := hR.form
    exact ⟨av, c, rfl, hR, hb⟩
  have k16 : Hid (∀ v w, Rd w v (hdW (q : Int) a ++ List.replicate (16 * (q - 1)) 0) → Calls Try.prog 16 #[v] w fun e w' => ∃ a1 c1 a2 c2 a3 c3, e = .returned (.tuple #[.agg #[.slice a1 (16 * q) c1, .slice a2 (16 * q) c2, .slice a3 0 c3], .int .i64 0]) ∧ RdM w' (.slice a1 (16 * q) c1) (.slice a2 (16 * q) c2) (.slice a3 0 c3) (allM (hdW (q : Int) a ++ List.replicate (16 * (q - 1)) 0)) ∧ Below w.heap.size w w') := fun v w hR => by
    have := new_all v _ w hR (by rw [hlz]; omega) (by rw [hlz]; omega)
    rwa [hlz] at this
  obtain ⟨R, hRe⟩ : ∃ R, R = hdW (q : Int) a ++ List.replicate (16 * (q - 1)) 0 := ⟨_, rfl⟩
  have k17 : Hid (∀ va vb vc v W, Below w.heap.size w W → RdM W va vb vc (allM (hdW (q : Int) a ++ List.replicate (16 * (q - 1)) 0)) → RdS W v [⟨1, 3, a⟩, ⟨2, 0, 0⟩] → Calls Try.prog 17 #[.agg #[va, vb, vc], v, .int .i64 2, .slice ak nk ck] W fun e w' => ∃ v', e = .returned (.tuple #[v', .int .i64 0]) ∧ Rd w' v' R ∧ Below W.heap.size W w') := fun va vb vc v W hW hM hS => by
    have := crashS_any va vb vc v _ _ _ 2 keep W hM hS (hK.below hW) hBd (by show 0 + 2 ≤ 900; omega)
    obtain ⟨hm, _⟩ := root_kept (hdW (q : Int) a ++ List.replicate (16 * (q - 1)) 0) a keep (by rw [hlz]; omega) (by rw [hlz]; omega) (by rw [hlz]; omega)
    rwa [ruE_yes hm, hcs, ← hRe] at this
  have k10 : Hid (∀ v w, Rd w v R → Calls Try.prog 10 #[v] w fun e w' => e = .returned (.tuple #[.int .i64 (q : Int), .int .i64 a, .int .i64 0]) ∧ Below w.heap.size w w') := fun v w hR => by
    rw [hRe] at hR
    have := read_any v _ w hR.rl
    obtain ⟨hB, hBn⟩ := rd_back (n := (q : Int)) (r := a) (ys := List.replicate (16 * (q - 1)) 0) ha (by rw [List.length_replicate]; omega)
    obtain ⟨e1, e2, e3⟩ := rd_yes hB
    rwa [e1, e2, e3, hBn, hd_root] at this
  obtain ⟨A, hA⟩ : ∃ A, A = hdW (q : Int) a := ⟨_, rfl⟩
  have lA : A.length = 16 := by rw [hA]; rfl
  rw [← hA] at k8 k16 k17 hlz
  obtain ⟨M, hM⟩ : ∃ M, A ++ List.replicate (16 * (q - 1)) 0 = M := ⟨_, rfl⟩
  rw [hM] at k16 k17 hlz
  have HM : Hid (A ++ List.replicate (16 * (q - 1)) 0 = M) := hM
  have HlA : Hid (A.length = 16) := lA
  have HlM : Hid (M.length = 16 * q) := hlz
  have HMa : Hid (Ma m q) := hMa
  have HMk : Hid (Mk m2 2) := hMk
  have Hz : Hid (16 * ((q : Int) - 1) = ((16 * (q - 1) : Nat) : Int)) := show _ = _ by omega
  have HK : Hid (Rd w (.slice ak nk ck) keep) := hK
  have t0 : Hid (0 = 0) := rfl
  have t1 : Hid (0 = 0) := rfl
  have t2 : Hid (0 = 0) := rfl
  have t3 : Hid (0 = 0) := rfl
  clear hMa hMk hcs hA lA hRe hM hlz ha hK hBd
  go_enter Try.func5, Try.ntmps5
  go_wp2_with (first
    | (go_at_call 7; refine (awake_any _).mono ?_; rintro e w1 ⟨rfl, hb1⟩; have H1 : Hid (Below w.heap.size w w1) := hb1; clear hb1)
    | (clear t0; refine stop_at 27 rfl ?_; obtain ⟨g1, g2, g3, g4, g5, g6⟩ := HMa.out)
    | (go_at_call 8; refine (k8.out _).mono ?_; rintro e w2 ⟨v2, rfl, r2, hb2⟩; obtain ⟨_, a2, c2, rfl⟩ := r2.form; have R2 : Hid (Rd w2 (.slice a2 A.length c2) A) := r2; have H2 : Hid (Below w.heap.size w w2) := bstep H1.out hb2; clear hb2 r2 g1 g2 g3 g4 g5 g6)
    | (go_at_call 12; refine (k12.out _).mono ?_; rintro e w3 ⟨a3, c3, rfl, r3, hb3⟩; have R3 : Hid (RdS w3 (.slice a3 2 c3) [⟨1, 3, a⟩, ⟨2, 0, 0⟩]) := r3; have R23 : Hid (Rd w3 (.slice a2 A.length c2) A) := R2.out.below hb3; have H3 : Hid (Below w.heap.size w w3) := bstep H2.out hb3; clear hb3 r3)
    | (at_builtin; clear t1; refine append_own_rd rfl (.tmp 75) (.tmp 76) rfl w3.heap.size (.slice (some ⟨w3.heap.size, 0, none⟩) 0 0) [] rfl (own_none w3 (Nat.le_refl _)) (.slice a2 A.length c2) A rfl (R23.out.below ((Below.refl _ _).alloc (Nat.le_refl _) _)) (by simp) (by simp) A rfl ?_; intro a4 c4 w4 o4 b4; have O4 : Hid (OwnI w4 w3.heap.size (.slice a4 A.length c4) A) := o4; have H4 : Hid (Below w3.heap.size w3 w4) := ((Below.refl _ w3).alloc (Nat.le_refl _) _).trans b4; clear o4 b4)
    | (at_builtin; clear t2; refine append_zerosI rfl (.tmp 77) (.tmp 80) rfl w3.heap.size a4 c4 A rfl O4.out (16 * (q - 1)) _ rfl Hz.out (by rw [HlA.out]; omega) (by rw [HlA.out]; omega) (by omega) (by omega) H4.out.size M HM.out ?_; intro a5 c5 w5 o5 b5; have O5 : Hid (Rd w5 (.slice a5 M.length c5) M) := o5.rd (by rw [HlM.out]; omega); have H5 : Hid (Below w3.heap.size w3 w5) := H4.out.trans b5; clear o5 b5)
    | (go_at_call 16; refine (k16.out _ _ O5.out).mono ?_; rintro e w6 ⟨p1, q1, p2, q2, p3, q3, rfl, r6, hb6⟩; have R6 : Hid (RdM (w6.alloc (.cells #[.slice p1 (16 * q) q1, .slice p2 (16 * q) q2, .slice p3 0 q3] 38)) (.slice p1 (16 * q) q1) (.slice p2 (16 * q) q2) (.slice p3 0 q3) (allM M)) := r6.below ((Below.refl _ _).alloc (Nat.le_refl _) _); have H6 : Hid (Below w3.heap.size w3 (w6.alloc (.cells #[.slice p1 (16 * q) q1, .slice p2 (16 * q) q2, .slice p3 0 q3] 38))) := bstep (bstep H5.out hb6) ((Below.refl _ _).alloc (Nat.le_refl _) _); clear r6 hb6)
    | (clear t3; refine stop_at 86 rfl ?_; obtain ⟨f1, f2, f3, f4, f5, f6⟩ := HMk.out)
    | (go_at_call 17; refine (k17.out _ _ _ _ _ (bstep H3.out H6.out) R6.out (R3.out.below H6.out)).mono ?_; rintro e w7 ⟨v7, rfl, r7, hb7⟩; have R7 : Hid (Rd w7 v7 R) := r7; have H7 : Hid (Below w.heap.size w w7) := bstep (bstep H3.out H6.out) hb7; clear r7 hb7 f1 f2 f3 f4 f5 f6)
    | (go_at_call 10; refine (k10.out _ _ R7.out).mono ?_; rintro e w8 ⟨rfl, hb8⟩; have H8 : Hid (Below w.heap.size w w8) := bstep H7.out hb8; clear hb8))
  go_ret
  exact ⟨ret_bool rfl, H8.out⟩

set_option maxRecDepth 100000 in
set_option maxHeartbeats 2000000 in
theorem walk_SuperRoot (bl a b n : Int) (ak : Option Addr) (nk ck : Nat) (w : World) (fb : (Lit.int .u8 bl).wf = true) (fn : (Lit.int .u8 n).wf = true) (hK : KeepIn w ak nk ck) :
    Calls Try.prog 5 #[.int .u8 bl, .int .i64 a, .int .i64 b, .int .u8 n, .slice ak nk ck] w fun e w' => e = .returned (.bool true) ∧ Below w.heap.size w w' := by
  obtain ⟨m, rfl, hm9⟩ := wf_u8 fb
  obtain ⟨m2, rfl, hm2⟩ := wf_u8 fn
  clear fb fn
  obtain ⟨q, hq, g1, g2, g3, g4, g5⟩ := root_many m hm9
  have hMa : Ma m q := ⟨g1, g2, g3, g4, g5, by rfl⟩
  clear g1 g2 g3 g4 g5
  by_cases h5 : (nk : Int) > 50
  · have HMa : Hid (Ma m q) := hMa
    have t0 : Hid (0 = 0) := rfl
    clear hK hMa
    go_enter Try.func5, Try.ntmps5
    go_wp2_with (first
      | (go_at_call 7; refine (awake_any _).mono ?_; rintro e w1 ⟨rfl, hb1⟩; have H1 : Hid (Below w.heap.size w w1) := hb1; clear hb1)
      | (clear t0; refine stop_at 27 rfl ?_; obtain ⟨g1, g2, g3, g4, g5, g6⟩ := HMa.out))
    go_ret
    exact ⟨ret_bool rfl, H1.out⟩
  · obtain ⟨keep, hl, hR, hBd⟩ := hK (by omega)
    cases ha : mbB (q : Int) a with
    | false =>
      have E1 := (wd_no ha).2
      have hn : ¬ (mbB (q : Int) a = true) := by rw [ha]; simp
      rw [mbB_iff] at hn
      by_cases c1 : (q : Int) < 2
      · exact root_e1 m q a b m2 ak nk ck w hq hMa h5 E1 c1
      · by_cases c2 : a < 1
        · exact root_e2 m q a b m2 ak nk ck w hq hMa h5 E1 c1 c2
        · exact root_e3 m q a b m2 ak nk ck w hq hMa h5 E1 c1 c2 (by omega)
    | true =>
      have E1 := (wd_yes ha).2
      obtain ⟨a1, a2, a3, a4⟩ := mbB_iff.1 ha
      cases hb : mbB (q : Int) b with
      | false =>
        have E2 := (wd_no hb).2
        have hn : ¬ (mbB (q : Int) b = true) := by rw [hb]; simp
        rw [mbB_iff] at hn
        by_cases c4 : b < 1
        · exact root_e4 m q a b m2 ak nk ck w hq hMa h5 E1 E2 (by omega) (by omega) (by omega) c4
        · exact root_e5 m q a b m2 ak nk ck w hq hMa h5 E1 E2 (by omega) (by omega) (by omega) c4 (by omega)
      | true =>
        have hlz : (hdW (q : Int) a ++ List.replicate (16 * (q - 1)) 0).length = 16 * q := by rw [List.length_append, hdW_length, List.length_replicate]; omega
        obtain ⟨_, k0, k1, k2⟩ := root_kept (hdW (q : Int) a ++ List.replicate (16 * (q - 1)) 0) b keep (by rw [hlz]; omega) (by rw [hlz]; omega) (by rw [hlz]; omega)
        rw [hd_set] at k1 k2
        rcases mk_cases m2 hm2 with hk | hk | hk
        · exact root_g0 m q a b m2 ak nk ck w hq hMa h5 (by omega) ha hb hk keep hR hBd k0
        · rcases k1 with k1 | k1
          · exact root_g1 m q a b m2 ak nk ck w hq hMa h5 (by omega) ha hb hk keep hR hBd k1
          · by_cases e : b = a
            · rw [e] at k1 hb ⊢
              exact root_g1 m q a a m2 ak nk ck w hq hMa h5 (by omega) ha hb hk keep hR hBd k1
            · exact root_g2 m q a b m2 ak nk ck w hq hMa h5 (by omega) ha hb hk keep hR hBd (by simpa using e) k1
        · by_cases e : b = a
          · rw [e] at k2 ⊢
            exact root_g4 m q a m2 ak nk ck w hq hMa h5 (by omega) ha hk keep hR hBd k2
          · exact root_g3 m q a b m2 ak nk ck w hq hMa h5 (by omega) ha hb hk keep hR hBd (by simpa using e) k2
end Go.Proofs.Ytmenkolceahebaa
