/- Layer 11: the walk of ArenaNew. -/
import Derived.Test.YtgcdhenbpkcmgaaAru
namespace Go.Proofs.Ytgcdhenbpkcmgaa
open Go.RowKit Go.Shelf
set_option linter.unusedVariables false

set_option maxRecDepth 100000 in
set_option maxHeartbeats 2000000 in
theorem walk_ArenaNew (b : Int) (w : World) : Calls Try.prog 3 #[.int .i64 b] w fun e w' => e = .returned (.bool true) ∧ Below w.heap.size w w' := by
  cases hB : mbB b 1 with
  | false =>
    have H1 : nwE b = 1 := by unfold nwE; rw [hB]; rfl
    have H2 : nwL b = [] := by unfold nwL; rw [hB]; rfl
    have k10 := fun W => new_any b W
    rw [H1, H2] at k10
    have K10 : Hid (∀ W, Calls Try.prog 10 #[.int .i64 b] W fun e w' => ∃ v, e = .returned (.tuple #[v, .int .i64 1]) ∧ Rl w' v [] ∧ Below W.heap.size W w') := k10
    by_cases g1 : b < 2
    · clear H1 H2 k10 hB
      go_enter Try.func3, Try.ntmps3
      go_wp2_with (first
        | (go_at_call 9; refine (awake_any _).mono ?_; rintro e w1 ⟨rfl, hb1⟩; have B1 : Hid (Below w.heap.size w w1) := hb1; clear hb1)
        | (go_at_call 10; refine (K10.out _).mono ?_; rintro e w2 ⟨v2, rfl, r2, hb2⟩; obtain ⟨_, a2, c2, rfl, _⟩ := r2.form; have B2 : Hid (Below w.heap.size w w2) := bstep B1.out hb2; clear r2 hb2))
      go_ret
      exact ⟨ret_bool rfl, B2.out⟩
    · have g2 : b > 256 := by
        by_cases h : b > 256
        · exact h
        · rw [mbB_yes ⟨by omega, by omega, by omega, by omega⟩] at hB
          cases hB
      clear H1 H2 k10 hB
      go_enter Try.func3, Try.ntmps3
      go_wp2_with (first
        | (go_at_call 9; refine (awake_any _).mono ?_; rintro e w1 ⟨rfl, hb1⟩; have B1 : Hid (Below w.heap.size w w1) := hb1; clear hb1)
        | (go_at_call 10; refine (K10.out _).mono ?_; rintro e w2 ⟨v2, rfl, r2, hb2⟩; obtain ⟨_, a2, c2, rfl, _⟩ := r2.form; have B2 : Hid (Below w.heap.size w w2) := bstep B1.out hb2; clear r2 hb2))
      go_ret
      exact ⟨ret_bool rfl, B2.out⟩
  | true =>
    have hm := mbB_iff.1 hB
    obtain ⟨m, rfl⟩ : ∃ m : Nat, b = (m : Int) := ⟨b.toNat, by omega⟩
    have h2 : 2 ≤ m := by omega
    have h256 : m ≤ 256 := by omega
    have H1 : nwE (m : Int) = 0 := by unfold nwE; rw [hB]; rfl
    have k10 := fun W => new_any (m : Int) W
    rw [H1] at k10
    have hl := nw_len h2 h256
    have hv := nw_lv h2 h256
    have hs := nw_snd h2 h256
    have hF := nw_fits h2 h256
    have hrc : ∀ L M, lvA (nwL (m : Int)) = some L → RcS (nwL (m : Int)) L M → M = [0, 1] := fun L M => nw_reach h2 h256
    obtain ⟨F, hFe⟩ : ∃ F, F = nwL (m : Int) := ⟨_, rfl⟩
    rw [← hFe] at k10 hl hv hs hF hrc
    have K10 : Hid (∀ W, Calls Try.prog 10 #[.int .i64 (m : Int)] W fun e w' => ∃ v, e = .returned (.tuple #[v, .int .i64 0]) ∧ Rl w' v F ∧ Below W.heap.size W w') := k10
    have K11 : Hid (∀ v W, Rl W v F → Calls Try.prog 11 #[v] W fun e w' => ∃ v', e = .returned (.tuple #[v', .int .i64 0]) ∧ Rd w' v' [1] ∧ Below W.heap.size W w') := fun v W hR => by
      have k := leaves_any v F W hR
      rw [show lvE F = 0 by unfold lvE; rw [hv], show lvL F = [1] by unfold lvL; rw [hv]; rfl] at k
      refine k.mono ?_
      rintro e w' ⟨v', rfl, hR', hb⟩
      exact ⟨v', rfl, hR'.rd (by decide), hb⟩
    have K12 : Hid (∀ v W, Rl W v F → Calls Try.prog 12 #[v] W fun e w' => ∃ v', e = .returned (.tuple #[v', .int .i64 0]) ∧ Rd w' v' [0, 1] ∧ Below W.heap.size W w') := fun v W hR => by
      have k := reach_told v F W hR hF
      rw [show chE F = 0 by unfold chE; rw [hs]; rfl] at k
      refine k.mono ?_
      rintro e w' ⟨v', M, rfl, hR', h1, h2, hb⟩
      obtain ⟨L, hL, hM⟩ := h1 hs
      rw [hrc L M hL hM] at hR'
      exact ⟨v', rfl, hR', hb⟩
    have K13 : Hid (∀ v W, Rl W v F → Calls Try.prog 13 #[v] W fun e w' => e = .returned (.int .i64 0) ∧ Below W.heap.size W w') := fun v W hR => by
      have k := check_any v F W hR hF
      rwa [show chE F = 0 by unfold chE; rw [hs]; rfl] at k
    have HL : Hid (F.length = 16 * m) := hl
    have hM16 : IntKind.i64.wrap (16 * (m : Int)) = 16 * (m : Int) := by rw [IntKind.wrap_i64]; omega
    have hM16' : wrap64 (16 * (m : Int)) = 16 * (m : Int) := by unfold wrap64; omega
    have t1 : Hid (0 = 0) := rfl
    clear H1 k10 hB hv hs hF hrc hl hFe hm
    go_enter Try.func3, Try.ntmps3
    go_wp2_with (first
      | (go_at_call 9; refine (awake_any _).mono ?_; rintro e w1 ⟨rfl, hb1⟩; have B1 : Hid (Below w.heap.size w w1) := hb1; clear hb1)
      | (go_at_call 10; refine (K10.out _).mono ?_; rintro e w2 ⟨v2, rfl, r2, hb2⟩; obtain ⟨_, a2, c2, rfl, _⟩ := r2.form; rw [HL.out] at r2 ⊢; have R2 : Hid (Rl w2 (.slice a2 (16 * m) c2) F) := r2; have B2 : Hid (Below w.heap.size w w2) := bstep B1.out hb2; clear r2 hb2)
      | (go_at_call 11; refine (K11.out _ _ R2.out).mono ?_; rintro e w3 ⟨v3, rfl, r3, hb3⟩; have R3 : Hid (Rd w3 v3 [1]) := r3; have B3 : Hid (Below w2.heap.size w2 w3) := hb3; clear r3 hb3)
      | (go_at_call 12; refine (K12.out _ _ (R2.out.below B3.out)).mono ?_; rintro e w4 ⟨v4, rfl, r4, hb4⟩; have R4 : Hid (Rd w4 v4 [0, 1]) := r4; have B4 : Hid (Below w3.heap.size w3 w4) := hb4; have C4 : Hid (Below w2.heap.size w2 w4) := bstep B3.out hb4; clear r4 hb4)
      | (go_at_call 13; refine (K13.out _ _ (R2.out.below C4.out)).mono ?_; rintro e w5 ⟨rfl, hb5⟩; have B5 : Hid (Below w4.heap.size w4 w5) := hb5; have D5 : Hid (Below w4.heap.size w4 (w5.alloc (.cells #[.int .i64 1] 3))) := bal hb5 _; clear hb5)
      | (clear t1; go_at_call 14; refine (aw14 _ _ [1] _ (R3.out.below (bstep B4.out D5.out)) (rd_lit [1] rfl (by simp))).mono ?_; rintro e w7 ⟨rfl, hb7⟩; have D7 : Hid (Below w4.heap.size w4 (w7.alloc (.cells #[.int .i64 0, .int .i64 1] 3))) := bal (bstep D5.out hb7) _; clear hb7)
      | (go_at_call 14; refine (aw14 _ _ [0, 1] _ (R4.out.below D7.out) (rd_lit [0, 1] rfl (by simp))).mono ?_; rintro e w8 ⟨rfl, hb8⟩; have D8 : Hid (Below w.heap.size w w8) := bstep B2.out (bstep C4.out (bstep D7.out hb8)); clear hb8))
    go_ret
    exact ⟨ret_bool rfl, D8.out⟩
end Go.Proofs.Ytgcdhenbpkcmgaa
