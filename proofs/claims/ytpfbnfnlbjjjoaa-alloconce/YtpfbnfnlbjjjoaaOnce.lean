/- The walk of AllocOnce. -/
import Derived.Test.YtpfbnfnlbjjjoaaAwake
namespace Go.Proofs.Ytpfbnfnlbjjjoaa
open Go.RowKit
set_option linter.unusedVariables false

theorem give_again {l : List Int} {x : Int} (h : gvB l x = true) : gvE (gvL l x) x = 1 := by
  have : gvB (gvL l x) x = false := by
    cases h2 : gvB (gvL l x) x with
    | false => rfl
    | true => exact absurd ((gv_mem h x).2 (.inl rfl)) (gvB_iff.1 h2).2.2
  exact (gv_no this).1

set_option maxRecDepth 100000 in
set_option maxHeartbeats 2000000 in
theorem walk_AllocOnce (a1 : Option Addr) (len1 cap1 : Nat) (n : Int) (w : World) (h1 : RowIn w a1 len1 cap1) :
    Calls Try.prog 6 #[.slice a1 len1 cap1, .int .i64 n] w fun e w' => e = .returned (.bool true) ∧ Below w.heap.size w w' := by
  by_cases g1 : (len1 : Int) > 1000
  · clear h1
    go_enter Try.func6, Try.ntmps6
    go_wp2_with (go_at_call 8; refine (awake_any _).mono ?_; rintro e w1 ⟨rfl, hb1⟩)
    go_ret
    exact ⟨ret_bool rfl, hb1⟩
  obtain ⟨free, rfl, R1, -⟩ := h1 (by omega)
  have H1 : Hid (Rd w (.slice a1 free.length cap1) free) := R1.rd (by omega)
  have k16 : Hid (∀ W, Below w.heap.size w W → Calls Try.prog 16 #[.slice a1 free.length cap1] W fun e w' => e = .returned (.bool (chk free)) ∧ w' = W) := fun W hb => check_any _ free W (H1.out.below hb)
  have k13 : Hid (∀ W, Below w.heap.size w W → Calls Try.prog 13 #[.slice a1 free.length cap1, .int .i64 n] W fun e w' => ∃ v', e = .returned (.tuple #[v', .int .i64 (gvE free n)]) ∧ Rd w' v' (gvL free n) ∧ Below W.heap.size W w') := fun W hb => give_any _ free n W (H1.out.below hb)
  have k18 : Hid (∀ W, Below w.heap.size w W → Calls Try.prog 18 #[.slice a1 free.length cap1, .int .i64 n] W fun e w' => e = .returned (.bool (decide (n ∈ free))) ∧ w' = W) := fun W hb => in_any _ free n W (H1.out.below hb)
  clear h1 R1
  cases hc : chk free with
  | false =>
    rw [hc] at k16
    go_enter Try.func6, Try.ntmps6
    go_wp2_with (first
      | (go_at_call 8; refine (awake_any _).mono ?_; rintro e w1 ⟨rfl, hb1⟩)
      | (go_at_call 16; refine (k16.out _ hb1).mono ?_; rintro e w12 ⟨rfl, hw⟩; rw [hw]; clear hw w12))
    go_ret
    exact ⟨ret_bool rfl, hb1⟩
  | true =>
    rw [hc] at k16
    have t1 : Hid (0 = 0) := rfl
    cases hg : gvB free n with
    | false =>
      obtain ⟨e1, e2⟩ := gv_no hg
      rw [e1, e2] at k13
      have hn : n ∈ free ∨ n < 1 ∨ n > 255 := by
        unfold gvB at hg
        rw [hc] at hg
        by_cases hm : n ∈ free
        · exact .inl hm
        · rw [decide_eq_false hm] at hg
          have : isB n = false := by simpa using hg
          unfold isB at this
          rw [decide_eq_false_iff_not] at this
          omega
      have kq : Hid (∀ v W, Rd W v free → Calls Try.prog 13 #[v, .int .i64 n] W fun e w' => ∃ v' z, e = .returned (.tuple #[v', .int .i64 z]) ∧ Below W.heap.size W w') := fun v W hR => (give_any v free n W hR).mono (fun e w' ⟨v', he, _, hb⟩ => ⟨v', _, he, hb⟩)
      clear hg e1 e2
      by_cases hm : n ∈ free
      · rw [decide_eq_true hm] at k18
        clear hn hm
        go_enter Try.func6, Try.ntmps6
        go_wp2_with (first
          | (go_at_call 8; refine (awake_any _).mono ?_; rintro e w1 ⟨rfl, hb1⟩; have B1 : Hid (Below w.heap.size w w1) := hb1; clear hb1)
          | (go_at_call 16; refine (k16.out _ B1.out).mono ?_; rintro e w12 ⟨rfl, hw⟩; rw [hw]; clear hw w12)
          | (clear t1; go_at_call 13; refine (k13.out _ B1.out).mono ?_; rintro e w2 ⟨v2, rfl, r2, hb2⟩; have R2 : Hid (Rd w2 v2 free) := r2; have B2 : Hid (Below w.heap.size w w2) := bstep B1.out hb2; clear r2 hb2)
          | (go_at_call 13; refine (kq.out _ _ R2.out).mono ?_; rintro e w3 ⟨v3, z3, rfl, hb3⟩; have R3 : Hid (Rd w3 v2 free) := R2.out.below hb3; have B3 : Hid (Below w.heap.size w w3) := bstep B2.out hb3; clear hb3)
          | (go_at_call 15; refine (aw15 _ _ free _ R3.out (H1.out.below B3.out)).mono ?_; rintro e w4 ⟨rfl, hb4⟩; have B4 : Hid (Below w.heap.size w w4) := bstep B3.out hb4; clear hb4)
          | (go_at_call 18; refine (k18.out _ B4.out).mono ?_; rintro e w5 ⟨rfl, hw⟩; rw [hw]; clear hw w5))
        go_ret
        exact ⟨ret_bool rfl, B4.out⟩
      · rw [decide_eq_false hm] at k18
        by_cases hn1 : n < 1
        · clear hn hm
          go_enter Try.func6, Try.ntmps6
          go_wp2_with (first
            | (go_at_call 8; refine (awake_any _).mono ?_; rintro e w1 ⟨rfl, hb1⟩; have B1 : Hid (Below w.heap.size w w1) := hb1; clear hb1)
            | (go_at_call 16; refine (k16.out _ B1.out).mono ?_; rintro e w12 ⟨rfl, hw⟩; rw [hw]; clear hw w12)
            | (clear t1; go_at_call 13; refine (k13.out _ B1.out).mono ?_; rintro e w2 ⟨v2, rfl, r2, hb2⟩; have R2 : Hid (Rd w2 v2 free) := r2; have B2 : Hid (Below w.heap.size w w2) := bstep B1.out hb2; clear r2 hb2)
            | (go_at_call 13; refine (kq.out _ _ R2.out).mono ?_; rintro e w3 ⟨v3, z3, rfl, hb3⟩; have R3 : Hid (Rd w3 v2 free) := R2.out.below hb3; have B3 : Hid (Below w.heap.size w w3) := bstep B2.out hb3; clear hb3)
            | (go_at_call 15; refine (aw15 _ _ free _ R3.out (H1.out.below B3.out)).mono ?_; rintro e w4 ⟨rfl, hb4⟩; have B4 : Hid (Below w.heap.size w w4) := bstep B3.out hb4; clear hb4)
            | (go_at_call 18; refine (k18.out _ B4.out).mono ?_; rintro e w5 ⟨rfl, hw⟩; rw [hw]; clear hw w5))
          go_ret
          exact ⟨ret_bool rfl, B4.out⟩
        · have hn2 : n > 255 := by
            rcases hn with h | h | h
            · exact absurd h hm
            · exact absurd h hn1
            · exact h
          have hn3 : (n < 1) = False := by simpa using hn1
          clear hn hm
          go_enter Try.func6, Try.ntmps6
          go_wp2_with (first
            | (go_at_call 8; refine (awake_any _).mono ?_; rintro e w1 ⟨rfl, hb1⟩; have B1 : Hid (Below w.heap.size w w1) := hb1; clear hb1)
            | (go_at_call 16; refine (k16.out _ B1.out).mono ?_; rintro e w12 ⟨rfl, hw⟩; rw [hw]; clear hw w12)
            | (clear t1; go_at_call 13; refine (k13.out _ B1.out).mono ?_; rintro e w2 ⟨v2, rfl, r2, hb2⟩; have R2 : Hid (Rd w2 v2 free) := r2; have B2 : Hid (Below w.heap.size w w2) := bstep B1.out hb2; clear r2 hb2)
            | (go_at_call 13; refine (kq.out _ _ R2.out).mono ?_; rintro e w3 ⟨v3, z3, rfl, hb3⟩; have R3 : Hid (Rd w3 v2 free) := R2.out.below hb3; have B3 : Hid (Below w.heap.size w w3) := bstep B2.out hb3; clear hb3)
            | (go_at_call 15; refine (aw15 _ _ free _ R3.out (H1.out.below B3.out)).mono ?_; rintro e w4 ⟨rfl, hb4⟩; have B4 : Hid (Below w.heap.size w w4) := bstep B3.out hb4; clear hb4)
            | (go_at_call 18; refine (k18.out _ B4.out).mono ?_; rintro e w5 ⟨rfl, hw⟩; rw [hw]; clear hw w5))
          go_ret
          exact ⟨ret_bool rfl, B4.out⟩
    | true =>
      rw [(gv_yes hg).1] at k13
      obtain ⟨q1, q2, q3⟩ := gvB_iff.1 hg
      rw [decide_eq_false q3] at k18
      have kq : Hid (∀ v W, Rd W v (gvL free n) → Calls Try.prog 13 #[v, .int .i64 n] W fun e w' => ∃ v', e = .returned (.tuple #[v', .int .i64 1]) ∧ Below W.heap.size W w') := fun v W hR => (give_any v (gvL free n) n W hR).mono (fun e w' ⟨v', he, _, hb⟩ => ⟨v', by rw [he, give_again hg], hb⟩)
      have HM : Hid (∀ x ∈ free, decide (x ∈ gvL free n) = true) := fun x hx => decide_eq_true ((gv_mem hg x).2 (.inr hx))
      have HN : Hid (decide (n ∈ gvL free n) = true) := decide_eq_true ((gv_mem hg n).2 (.inl rfl))
      have HK : Hid (chk (gvL free n) = true) := chk_iff.2 (gv_ok hg)
      have HE : Hid ((gvL free n).length = free.length + 1) := gv_len hg
      have H255 : (free.length : Int) ≤ 255 := by have := ok_len q1; omega
      clear q1 q2 q3 hg
      generalize gvL free n = L at *
      go_enter Try.func6, Try.ntmps6
      go_wp2_with (first
        | (go_at_call 8; refine (awake_any _).mono ?_; rintro e w1 ⟨rfl, hb1⟩; have B1 : Hid (Below w.heap.size w w1) := hb1; clear hb1)
        | (go_at_call 16; refine (k16.out _ B1.out).mono ?_; rintro e w12 ⟨rfl, hw⟩; rw [hw]; clear hw w12)
        | (clear t1; go_at_call 13; refine (k13.out _ B1.out).mono ?_; rintro e w2 ⟨v2, rfl, r2, hb2⟩; obtain ⟨_, a2, c2, rfl⟩ := r2.form; rw [HE.out] at r2 ⊢; have R2 : Hid (Rd w2 (.slice a2 (free.length + 1) c2) L) := r2; have B2 : Hid (Below w.heap.size w w2) := bstep B1.out hb2; clear r2 hb2)
        | (go_at_call 13; refine (kq.out _ _ R2.out).mono ?_; rintro e w3 ⟨v3, rfl, hb3⟩; have R3 : Hid (Rd w3 (.slice a2 (free.length + 1) c2) L) := R2.out.below hb3; have B3 : Hid (Below w.heap.size w w3) := bstep B2.out hb3; clear hb3))
      go_loop [10] (fun s => ∃ k : Nat, k ≤ free.length ∧ s = .int .i64 k) (fun s => free.length - (intOf s).toNat)
      case atStart => exact ⟨0, Nat.zero_le _, rfl⟩
      case round =>
        obtain ⟨k, hk, rfl⟩ := hrel
        by_cases hlt : k < free.length
        · have hltI : (k : Int) < (free.length : Int) := by omega
          obtain ⟨x, hx⟩ : ∃ x, free[k]? = some x := ⟨_, List.getElem?_eq_getElem hlt⟩
          obtain ⟨b, off, e1, hcell⟩ := at_of (H1.out.below B3.out) hx
          subst e1
          have hin : decide (x ∈ L) = true := HM.out x (List.mem_of_getElem? hx)
          clear hx
          go_wp2_with (go_at_call 18; refine (in_any _ L x _ R3.out).mono ?_; rintro e w5 ⟨rfl, hw⟩; rw [hw, hin]; clear hw w5)
          go_round
          case rel => exact ⟨k + 1, by omega, by go_num⟩
          case measure => simp [intOf]; omega
        · have hgeI : ¬ (k : Int) < (free.length : Int) := by omega
          have t2 : Hid (0 = 0) := rfl
          go_wp2_with (first
            | (clear t2; go_at_call 18; refine (in_any _ L n _ R3.out).mono ?_; rintro e w5 ⟨rfl, hw⟩; rw [hw, HN.out]; clear hw w5)
            | (go_at_call 18; refine (k18.out _ B3.out).mono ?_; rintro e w5 ⟨rfl, hw⟩; rw [hw]; clear hw w5)
            | (go_at_call 16; refine (check_any _ L _ R3.out).mono ?_; rintro e w5 ⟨rfl, hw⟩; rw [hw, HK.out]; clear hw w5))
          go_ret
          exact ⟨ret_bool rfl, B3.out⟩
end Go.Proofs.Ytpfbnfnlbjjjoaa
