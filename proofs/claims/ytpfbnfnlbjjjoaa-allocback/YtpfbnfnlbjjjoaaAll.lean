/- The walk of AllocAll. -/
import Derived.Test.YtpfbnfnlbjjjoaaAwake
namespace Go.Proofs.Ytpfbnfnlbjjjoaa
open Go.RowKit
set_option linter.unusedVariables false

theorem wf_u16 {z : Int} (h : (Lit.int .u16 z).wf = true) : ∃ n : Nat, z = (n : Int) ∧ n < 65536 := by
  simp [Lit.wf, IntKind.min, IntKind.max, IntKind.bits, IntKind.signed] at h
  exact ⟨z.toNat, by omega, by omega⟩
theorem wf_u8 {z : Int} (h : (Lit.int .u8 z).wf = true) : ∃ n : Nat, z = (n : Int) ∧ n < 256 := by
  simp [Lit.wf, IntKind.min, IntKind.max, IntKind.bits, IntKind.signed] at h
  exact ⟨z.toNat, by omega, by omega⟩

set_option maxRecDepth 100000 in
set_option maxHeartbeats 2000000 in
theorem walk_AllocAll (b : Int) (a1 : Option Addr) (len1 cap1 : Nat) (w : World) (hb : (Lit.int .u16 b).wf = true) (h1 : RowIn w a1 len1 cap1) :
    Calls Try.prog 5 #[.int .u16 b, .slice a1 len1 cap1] w fun e w' => e = .returned (.bool true) ∧ Below w.heap.size w w' := by
  obtain ⟨N, rfl, hN⟩ := wf_u16 hb
  clear hb
  by_cases g1 : (len1 : Int) > 1000
  · clear h1
    go_enter Try.func5, Try.ntmps5
    go_wp2_with (go_at_call 8; refine (awake_any _).mono ?_; rintro e w1 ⟨rfl, hb1⟩)
    go_ret
    exact ⟨ret_bool rfl, hb1⟩
  obtain ⟨used, rfl, R1, -⟩ := h1 (by omega)
  have H1 : Hid (Rd w (.slice a1 used.length cap1) used) := R1.rd (by omega)
  clear h1 R1
  have k9 : Hid (∀ W, Below w.heap.size w W → Calls Try.prog 9 #[.int .i64 (N : Int), .slice a1 used.length cap1] W fun e w' => ∃ v', e = .returned (.tuple #[v', .int .i64 (frE (N : Int))]) ∧ Rd w' v' (frL (N : Int) used) ∧ Below W.heap.size W w') := fun W hb => free_any (N : Int) _ used W (H1.out.below hb)
  by_cases g2 : (N : Int) < 1
  · obtain ⟨e1, e2⟩ := fr_no (used := used) (b := (N : Int)) (decide_eq_false (by omega))
    rw [e1, e2] at k9
    clear e1 e2
    go_enter Try.func5, Try.ntmps5
    go_wp2_with (first
      | (go_at_call 8; refine (awake_any _).mono ?_; rintro e w1 ⟨rfl, hb1⟩; have B1 : Hid (Below w.heap.size w w1) := hb1; clear hb1)
      | (go_at_call 9; refine (k9.out _ B1.out).mono ?_; rintro e w2 ⟨v2, rfl, r2, hb2⟩; obtain ⟨_, a2, c2, rfl⟩ := r2.form; have B2 : Hid (Below w.heap.size w w2) := bstep B1.out hb2; clear r2 hb2))
    go_ret
    exact ⟨ret_bool rfl, B2.out⟩
  by_cases g3 : (N : Int) > 256
  · obtain ⟨e1, e2⟩ := fr_no (used := used) (b := (N : Int)) (decide_eq_false (by omega))
    rw [e1, e2] at k9
    clear e1 e2
    go_enter Try.func5, Try.ntmps5
    go_wp2_with (first
      | (go_at_call 8; refine (awake_any _).mono ?_; rintro e w1 ⟨rfl, hb1⟩; have B1 : Hid (Below w.heap.size w w1) := hb1; clear hb1)
      | (go_at_call 9; refine (k9.out _ B1.out).mono ?_; rintro e w2 ⟨v2, rfl, r2, hb2⟩; obtain ⟨_, a2, c2, rfl⟩ := r2.form; have B2 : Hid (Below w.heap.size w w2) := bstep B1.out hb2; clear r2 hb2))
    go_ret
    exact ⟨ret_bool rfl, B2.out⟩
  obtain ⟨e1, e2⟩ := fr_yes (used := used) (b := (N : Int)) (decide_eq_true (by omega))
  rw [e1, e2, show (N : Int).toNat = N from rfl] at k9
  clear e1 e2
  obtain ⟨M, hM⟩ : ∃ M : Nat → Nat, ∀ n, M n = (frK used n).length := ⟨_, fun _ => rfl⟩
  have HM : Hid (∀ n, M n = (frK used n).length) := hM
  have HM1 : Hid (M 1 = 0) := (by show _ = _; rw [hM]; rfl)
  have HMy : Hid (∀ n : Nat, (n : Int) ∈ used → M (n + 1) = M n) := fun n h => by rw [hM, hM, frK_used h]
  have HMn : Hid (∀ n : Nat, 1 ≤ n → n < 256 → (n : Int) ∉ used → M (n + 1) = M n + 1) := fun n h0 h1 h => by rw [hM, hM, ← frK_new (isB_iff.2 (by omega)) h]; simp
  have HX : Hid (∀ n : Nat, 1 ≤ n → n < N → decide ((n : Int) ∈ frK used N) = !decide ((n : Int) ∈ used)) := fun n h0 h1 => by
    by_cases h : (n : Int) ∈ used
    · rw [decide_eq_true h]
      exact decide_eq_false (fun e => ((frK_mem used N n).1 e).2.2.2 h)
    · rw [decide_eq_false h]
      exact decide_eq_true ((frK_mem used N n).2 ⟨by omega, by omega, by omega, h⟩)
  have HC : Hid (chk (frK used N) = true) := chk_iff.2 (frK_ok used N)
  have HB : Hid (∀ n, M n ≤ 255) := fun n => by rw [hM]; exact frK_len used n
  clear hM
  go_enter Try.func5, Try.ntmps5
  go_wp2_with (first
    | (go_at_call 8; refine (awake_any _).mono ?_; rintro e w1 ⟨rfl, hb1⟩; have B1 : Hid (Below w.heap.size w w1) := hb1; clear hb1)
    | (go_at_call 9; refine (k9.out _ B1.out).mono ?_; rintro e w2 ⟨v2, rfl, r2, hb2⟩; obtain ⟨_, a2, c2, rfl⟩ := r2.form; rw [← HM.out N] at r2 ⊢; have R2 : Hid (Rd w2 (.slice a2 (M N) c2) (frK used N)) := r2; have B2 : Hid (Below w.heap.size w w2) := bstep B1.out hb2; clear r2 hb2))
  go_loop [8, 9] (fun s8 s9 => ∃ n : Nat, 1 ≤ n ∧ n ≤ N ∧ s9 = .int .i64 n ∧ s8 = .int .i64 (M n)) (fun _ s9 => N - (intOf s9).toNat)
  case atStart => exact ⟨1, Nat.le_refl _, by omega, rfl, by rw [HM1.out]; rfl⟩
  case round =>
    obtain ⟨n, hn1, hn, rfl, rfl⟩ := hrel
    by_cases hlt : n < N
    · have hltI : (n : Int) < (N : Int) := by omega
      have hx := HX.out n hn1 hlt
      have hMb : (M n : Int) ≤ 255 := by have := HB.out n; omega
      have t1 : Hid (0 = 0) := rfl
      by_cases hu : (n : Int) ∈ used
      · have hd : decide ((n : Int) ∈ used) = true := decide_eq_true hu
        have G : Hid (M (n + 1) = M n) := HMy.out n hu
        have HXn : Hid (decide ((n : Int) ∈ frK used N) = false) := (by show _ = _; rw [hx, hd]; rfl)
        have HD : Hid (decide ((n : Int) ∈ used) = true) := hd
        clear hx hu hd
        go_wp2_with (first
          | (clear t1; go_at_call 18; refine (in_any _ used n _ (H1.out.below B2.out)).mono ?_; rintro e w5 ⟨rfl, hw⟩; rw [hw, HD.out]; clear hw w5)
          | (go_at_call 18; refine (in_any _ (frK used N) n _ R2.out).mono ?_; rintro e w5 ⟨rfl, hw⟩; rw [hw, HXn.out]; clear hw w5))
        go_round
        case rel => exact ⟨n + 1, by omega, by omega, by go_num, by rw [G.out]⟩
        case measure => simp [intOf]; omega
      · have hd : decide ((n : Int) ∈ used) = false := decide_eq_false hu
        have G : Hid (M (n + 1) = M n + 1) := HMn.out n hn1 (by omega) hu
        have HXn : Hid (decide ((n : Int) ∈ frK used N) = true) := (by show _ = _; rw [hx, hd]; rfl)
        have HD : Hid (decide ((n : Int) ∈ used) = false) := hd
        clear hx hu hd
        go_wp2_with (first
          | (clear t1; go_at_call 18; refine (in_any _ used n _ (H1.out.below B2.out)).mono ?_; rintro e w5 ⟨rfl, hw⟩; rw [hw, HD.out]; clear hw w5)
          | (go_at_call 18; refine (in_any _ (frK used N) n _ R2.out).mono ?_; rintro e w5 ⟨rfl, hw⟩; rw [hw, HXn.out]; clear hw w5))
        go_round
        case rel => exact ⟨n + 1, by omega, by omega, by go_num, by rw [G.out]; go_num⟩
        case measure => simp [intOf]; omega
    · have hgeI : ¬ (n : Int) < (N : Int) := by omega
      have e : n = N := by omega
      subst e
      go_wp2_with (first
        | (go_at_call 16; refine (check_any _ (frK used n) _ R2.out).mono ?_; rintro e w5 ⟨rfl, hw⟩; rw [hw, HC.out]; clear hw w5))
      go_ret
      exact ⟨ret_bool rfl, B2.out⟩
end Go.Proofs.Ytpfbnfnlbjjjoaa
