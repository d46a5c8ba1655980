/- Walks of layer 2's statements: tells, back. -/
import Derived.Test.YtlpddphbkcifnaaRowin
namespace Go.Proofs.Ytlpddphbkcifnaa
open Go.RowKit

set_option maxRecDepth 100000 in
set_option maxHeartbeats 2000000 in
theorem walk_KeyTells (s : ByteArray) (a : Option Addr) (len cap : Nat) (zs : List Int) (n : Int) (w : World) (hs : s.size ≤ maxLen) (hr : IsRow .i64 w a len cap zs) (hn : (Lit.int .i64 n).wf = true) :
    Calls Try.prog 3 #[.string s, .slice a len cap, .int .i64 n] w fun e w' => e = .returned (.bool true) ∧ Below w.heap.size w w' := by
  unfold maxLen at hs
  have hn' := wf_i64 hn
  have hsm := hr.small
  clear hn
  by_cases h1 : (s.size : Int) > 300
  · go_enter Try.func3, Try.ntmps3
    go_wp2_with (go_at_call 9; refine (awake_any _).mono ?_; rintro e w1 ⟨rfl, hb1⟩)
    go_ret
    exact ⟨rfl, hb1⟩
  · by_cases h2 : (len : Int) > 300
    · go_enter Try.func3, Try.ntmps3
      go_wp2_with (go_at_call 9; refine (awake_any _).mono ?_; rintro e w1 ⟨rfl, hb1⟩)
      go_ret
      exact ⟨rfl, hb1⟩
    · have hR := Rd.of_row hr (by omega)
      have hs7 : s.size ≤ 7000 := by omega
      clear hr
      generalize zs.take len = ys at hR
      go_enter Try.func3, Try.ntmps3
      go_wp2_with (first
        | (go_at_call 9; refine (awake_any _).mono ?_; rintro e w1 ⟨rfl, hb1⟩; have hR1 := hR.below hb1)
        | (go_at_call 10; refine (text_any _ _ _ _ hR1 (by omega)).mono ?_; rintro e w2 ⟨rfl, hb2⟩; have hR2 := hR1.below hb2)
        | (go_at_call 11; refine (textR_any _ _ _ _ hR2).mono ?_; rintro e w3 ⟨rfl, hb3⟩)
        | (go_at_call 12; refine (check_any _ _).mono ?_; rintro e w' ⟨rfl, hw⟩; rw [hw]; clear hw w')
        | (go_at_call 13; refine (checkR_any _ _).mono ?_; rintro e w' ⟨rfl, hw⟩; rw [hw]; clear hw w')
        | (go_at_call 14; refine (checkV_any _ _).mono ?_; rintro e w' ⟨rfl, hw⟩; rw [hw]; clear hw w')
        | (go_at_call 15; refine (checkVR_any _ _).mono ?_; rintro e w' ⟨rfl, hw⟩; rw [hw]; clear hw w')
        | (go_at_call 17; refine (words_any _ _ hs7).mono ?_; rintro e w4 ⟨v4, rfl, _, hr4, hb4⟩)
        | (go_at_call 18; refine (wordsR_any _ _ hs7).mono ?_; rintro e w5 ⟨v5, rfl, hr5, hb5⟩)
        | (go_at_call 16; refine (numbers_any _ _ _ _ _ (hr4.below hb5) hr5).mono ?_; rintro e w6 ⟨rfl, hb6⟩))
      go_ret
      exact ⟨rfl, by repeat (first | assumption | refine bstep ?_ (by assumption))⟩

theorem str_ne {a b : ByteArray} (h : a ≠ b) : (a.toList == b.toList) = false := by
  rw [ByteArray.toList_eq, ByteArray.toList_eq]
  simpa using fun e => h (ba_ext (by simpa using e))

/-- Words that are a text's of as many bytes are its own words. -/
theorem back_only (ys : List Int) (s : ByteArray) (h : okT ys (s.size : Int) = true) : txS ys (s.size : Int) = s ↔ ys = wsl s.data.toList := by
  rw [← txS_yes h]
  have h3 := (of_decide_eq_true h).2.2
  rw [Int.toNat_natCast] at *
  constructor
  · intro e
    unfold txL at h3
    rw [e] at h3
    exact h3.symm
  · intro e; rw [e]; exact tx_of s
theorem back_S (s : ByteArray) : txS (wsl s.data.toList) (s.size : Int) = s := (back_only _ s (okT_of s)).2 rfl
theorem back_E (s : ByteArray) : txE (wsl s.data.toList) (s.size : Int) = 0 := (txE_yes (okT_of s)).symm

set_option maxRecDepth 100000 in
set_option maxHeartbeats 2000000 in
theorem walk_KeyBack (s : ByteArray) (a : Option Addr) (len cap : Nat) (zs : List Int) (w : World) (hs : s.size ≤ maxLen) (hr : IsRow .i64 w a len cap zs) :
    Calls Try.prog 4 #[.string s, .slice a len cap] w fun e w' => e = .returned (.bool true) ∧ Below w.heap.size w w' := by
  unfold maxLen at hs
  have hsm := hr.small
  by_cases h1 : (s.size : Int) > 300
  · go_enter Try.func4, Try.ntmps4
    go_wp2_with (go_at_call 9; refine (awake_any _).mono ?_; rintro e w1 ⟨rfl, hb1⟩)
    go_ret
    exact ⟨rfl, hb1⟩
  · by_cases h2 : (len : Int) > 300
    · go_enter Try.func4, Try.ntmps4
      go_wp2_with (go_at_call 9; refine (awake_any _).mono ?_; rintro e w1 ⟨rfl, hb1⟩)
      go_ret
      exact ⟨rfl, hb1⟩
    · have hR := Rd.of_row hr (by omega)
      have hs7 : s.size ≤ 7000 := by omega
      clear hr
      generalize zs.take len = ys at hR
      have eS := back_S s
      have eE := back_E s
      by_cases hk : okT ys (s.size : Int) = true
      · have hS := back_only ys s hk
        have hE : txE ys (s.size : Int) = 0 := (txE_yes hk).symm
        clear hk
        by_cases hq : ys = wsl s.data.toList
        · subst hq
          clear hS hE
          go_enter Try.func4, Try.ntmps4
          go_wp2_with (first
            | (go_at_call 9; refine (awake_any _).mono ?_; rintro e w1 ⟨rfl, hb1⟩; have hR := hR.below hb1)
            | (go_at_call 10; refine (text_any _ _ _ _ hr4 (by omega)).mono ?_; clear hr4; rintro e w2 ⟨rfl, hb2⟩; have hR := hR.below hb2)
            | (go_at_call 10; refine (text_any _ _ _ _ hR (by omega)).mono ?_; rintro e w3 ⟨rfl, hb3⟩; have hR := hR.below hb3)
            | (go_at_call 17; refine (words_any _ _ hs7).mono ?_; rintro e w4 ⟨v4, rfl, _, hr4, hb4⟩; have hR := hR.below hb4)
            | (go_at_call 16; refine (numbers_any _ _ _ _ _ hR hr4).mono ?_; rintro e w6 ⟨rfl, hb6⟩))
          go_ret
          exact ⟨rfl, by repeat (first | assumption | refine bstep ?_ (by assumption))⟩
        · have hq2 : decide (ys = wsl s.data.toList) = false := decide_eq_false hq
          have hS2 : ((txS ys (s.size : Int)).toList == s.toList) = false := str_ne (fun e => hq (hS.1 e))
          clear hS
          go_enter Try.func4, Try.ntmps4
          go_wp2_with (first
            | (go_at_call 9; refine (awake_any _).mono ?_; rintro e w1 ⟨rfl, hb1⟩; have hR := hR.below hb1)
            | (go_at_call 10; refine (text_any _ _ _ _ hr4 (by omega)).mono ?_; clear hr4; rintro e w2 ⟨rfl, hb2⟩; have hR := hR.below hb2)
            | (go_at_call 10; refine (text_any _ _ _ _ hR (by omega)).mono ?_; rintro e w3 ⟨rfl, hb3⟩; have hR := hR.below hb3)
            | (go_at_call 17; refine (words_any _ _ hs7).mono ?_; rintro e w4 ⟨v4, rfl, _, hr4, hb4⟩; have hR := hR.below hb4)
            | (go_at_call 16; refine (numbers_any _ _ _ _ _ hR hr4).mono ?_; rintro e w6 ⟨rfl, hb6⟩))
          go_ret
          exact ⟨rfl, by repeat (first | assumption | refine bstep ?_ (by assumption))⟩
      · have hk2 : okT ys (s.size : Int) = false := by simpa using hk
        have hE : txE ys (s.size : Int) = 20 := (txE_no hk2).symm
        clear hk hk2
        go_enter Try.func4, Try.ntmps4
        go_wp2_with (first
          | (go_at_call 9; refine (awake_any _).mono ?_; rintro e w1 ⟨rfl, hb1⟩; have hR := hR.below hb1)
          | (go_at_call 10; refine (text_any _ _ _ _ hr4 (by omega)).mono ?_; clear hr4; rintro e w2 ⟨rfl, hb2⟩; have hR := hR.below hb2)
          | (go_at_call 10; refine (text_any _ _ _ _ hR (by omega)).mono ?_; rintro e w3 ⟨rfl, hb3⟩; have hR := hR.below hb3)
          | (go_at_call 17; refine (words_any _ _ hs7).mono ?_; rintro e w4 ⟨v4, rfl, _, hr4, hb4⟩; have hR := hR.below hb4)
          | (go_at_call 16; refine (numbers_any _ _ _ _ _ hR hr4).mono ?_; rintro e w6 ⟨rfl, hb6⟩))
        go_ret
        exact ⟨rfl, by repeat (first | assumption | refine bstep ?_ (by assumption))⟩
end Go.Proofs.Ytlpddphbkcifnaa
