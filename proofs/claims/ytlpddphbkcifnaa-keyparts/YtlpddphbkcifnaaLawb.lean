/- Walks of layer 2's statements: may. -/
import Derived.Test.YtlpddphbkcifnaaLawa
namespace Go.Proofs.Ytlpddphbkcifnaa
open Go.RowKit

theorem one_word (x : Int) : wsl (txL [x] 7) = [x % 72057594037927936] := by
  have hl : (txL [x] 7).length = 7 := by rw [txL_length]; rfl
  unfold wsl
  rw [hl]
  have e : wUp (txL [x] 7) (nW 7) = [wAt (txL [x] 7) 0] := rfl
  rw [e, ← w7_bt x]
  congr 1
  exact w7_congr _ _ 7 (fun j hj => by rw [txL_byt [x] 7 0 j (by simp) hj (by omega)]; rfl)
theorem okT_one (x : Int) : okT [x] 7 = decide (0 ≤ x ∧ x < 72057594037927936) := by
  rw [okT_ws [x] 7 (by omega) rfl, decide_eq_decide]
  show wsl (txL [x] 7) = [x] ↔ _
  rw [one_word]
  simp
  omega

set_option maxRecDepth 100000 in
set_option maxHeartbeats 2000000 in
theorem walk_KeyMay (s : ByteArray) (n : Int) (x : Int) (w : World) (hs : s.size ≤ maxLen) (hn : (Lit.int .u8 n).wf = true) (hx : (Lit.int .i64 x).wf = true) :
    Calls Try.prog 7 #[.string s, .int .u8 n, .int .i64 x] w fun e w' => e = .returned (.bool true) ∧ Below w.heap.size w w' := by
  unfold maxLen at hs
  have hx' := wf_i64 hx
  have hn' : 0 ≤ n ∧ n < 256 := by
    simp [Lit.wf, IntKind.min, IntKind.max, IntKind.bits, IntKind.signed] at hn
    omega
  clear hx hn
  by_cases h1 : (s.size : Int) > 100
  · go_enter Try.func7, Try.ntmps7
    go_wp2_with (go_at_call 9; refine (awake_any _).mono ?_; rintro e w1 ⟨rfl, hb1⟩)
    go_ret
    exact ⟨rfl, hb1⟩
  · have hwr : wrap64 n = n := by unfold wrap64; omega
    have hR : ∀ W : World, Rd (W.alloc (.cells #[.int .i64 x] 3)) (.slice (some ⟨W.heap.size, 0, none⟩) 1 1) [x] := fun W => Rd.one W x hx'
    have hm0 : 0 ≤ n % ((s.size : Int) + 1) := Int.emod_nonneg n (by omega)
    have hm1 : n % ((s.size : Int) + 1) ≤ (s.size : Int) := by have := Int.emod_lt_of_pos n (show 0 < (s.size : Int) + 1 by omega); omega
    have hE : (txE [x] 7 = 0 ∧ 0 ≤ x ∧ x < 72057594037927936) ∨ (txE [x] 7 = 20 ∧ x < 0) ∨ (txE [x] 7 = 20 ∧ 0 ≤ x ∧ decide (x < 72057594037927936) = false) := by
      have h := okT_one x
      by_cases h2 : 0 ≤ x ∧ x < 72057594037927936
      · rw [decide_eq_true h2] at h
        exact .inl ⟨(txE_yes h).symm, h2⟩
      · rw [decide_eq_false h2] at h
        by_cases h3 : x < 0
        · exact .inr (.inl ⟨(txE_no h).symm, h3⟩)
        · exact .inr (.inr ⟨(txE_no h).symm, by omega, decide_eq_false (by omega)⟩)
    have hV : (chkV s = true ∧ chkV (s.extract 0 (n % ((s.size : Int) + 1)).toNat) = true ∧ chk s = decide (0 < s.size)) ∨ (chkV s = false ∧ chk s = false) := by
      by_cases h2 : s.size ≤ 21
      · refine .inl ⟨decide_eq_true h2, decide_eq_true (by simp; omega), ?_⟩
        unfold chk; rw [decide_eq_decide]; omega
      · exact .inr ⟨decide_eq_false h2, decide_eq_false (by omega)⟩
    rcases hE with ⟨e1, e2, e3⟩ | ⟨e1, e2⟩ | ⟨e1, e2, e3⟩ <;> rcases hV with ⟨v1, v2, v3⟩ | ⟨v1, v2⟩
    all_goals
      go_enter Try.func7, Try.ntmps7
      go_wp2_with (first
        | (go_at_call 9; refine (awake_any _).mono ?_; rintro e w1 ⟨rfl, hb1⟩)
        | (go_at_call 10; refine (text_any _ _ _ _ (hR _) (by omega)).mono ?_; rintro e w2 ⟨rfl, hb2⟩)
        | (go_at_call 12; refine (check_any _ _).mono ?_; rintro e w' ⟨rfl, hw⟩; rw [hw]; clear hw w')
        | (go_at_call 14; refine (checkV_any _ _).mono ?_; rintro e w' ⟨rfl, hw⟩; rw [hw]; clear hw w'))
      go_ret
      exact ⟨rfl, bstep (bstep hb1 ((Below.refl _ _).alloc (Nat.le_refl _) _)) hb2⟩
end Go.Proofs.Ytlpddphbkcifnaa
