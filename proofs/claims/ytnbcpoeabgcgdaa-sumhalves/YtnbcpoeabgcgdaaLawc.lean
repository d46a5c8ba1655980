/- Walks of layer 3's statements: parts. -/
import Derived.Test.YtnbcpoeabgcgdaaLawb
namespace Go.Proofs.Ytnbcpoeabgcgdaa
open Go.RowKit

theorem bt_low (n m : Nat) (h : m < 8) : (n : Int) / 2 ^ (8 * m) % 256 = (bt n (7 - m) : Nat) := by
  rw [← bt_int, show 56 - 8 * (7 - m) = 8 * m by omega]
theorem wrap_u64_of (z : Int) : IntKind.u64.wrap z = (u64 z : Nat) := by rw [wrap_u64_eq]; unfold u64; omega

set_option maxRecDepth 100000 in
set_option maxHeartbeats 2000000 in
theorem walk_SumParts (a1 : Option Addr) (len1 cap1 : Nat) (z1 : List Int) (a2 : Option Addr) (len2 cap2 : Nat) (z2 : List Int) (w : World) (r1 : IsRow .i64 w a1 len1 cap1 z1) (r2 : IsRow .i64 w a2 len2 cap2 z2) :
    Calls Try.prog 6 #[.slice a1 len1 cap1, .slice a2 len2 cap2] w fun e w' => e = .returned (.bool true) ∧ Below w.heap.size w w' := by
  have s1 := r1.small
  have s2 := r2.small
  by_cases h1 : (len1 : Int) > 100
  · go_enter Try.func6, Try.ntmps6
    go_wp2_with (go_at_call 9; refine (awake_any _).mono ?_; rintro e w1 ⟨rfl, hb1⟩)
    go_ret
    exact ⟨rfl, hb1⟩
  · by_cases h2 : (len2 : Int) > 100
    · go_enter Try.func6, Try.ntmps6
      go_wp2_with (go_at_call 9; refine (awake_any _).mono ?_; rintro e w1 ⟨rfl, hb1⟩)
      go_ret
      exact ⟨rfl, hb1⟩
    · have R1 := Rd.of_row r1 (by omega)
      have R2 := Rd.of_row r2 (by omega)
      have l1 := r1.len
      have l2 := r2.len
      generalize z1.take len1 = x at R1 l1
      generalize z2.take len2 = y at R2 l2
      clear r1 r2
      have hof := ofF_lt x
      obtain ⟨c0, hc0⟩ : ∃ c0, goF 4294967295 x = c0 := ⟨_, rfl⟩
      have hc32 : c0 < 4294967296 := by rw [← hc0]; exact goF_lt x (by omega)
      have e1 : 4294967295 - (ofF x : Int) = (c0 : Int) := by unfold ofF; rw [hc0]; omega
      have HX : Hid (goF 4294967295 x = c0) := hc0
      have d1 : decide ((100 : Int) < (len1 : Int)) = false := decide_eq_false (by omega)
      have d2 : decide ((100 : Int) < (len2 : Int)) = false := decide_eq_false (by omega)
      have g1 : len1 ≤ 100 := by omega
      have g2 : len2 ≤ 100 := by omega
      clear hc0
      go_enter Try.func6, Try.ntmps6
      go_wp2_with (first
        | (go_at_call 9; refine (awake_any _).mono ?_; rintro e w1 ⟨rfl, hb1⟩; have R1' := R1.below hb1; have R2' := R2.below hb1)
        | (go_at_call 14; refine (of_any _ _ _ R1').mono ?_; rintro e w2 ⟨rfl, hb2⟩; have B2 := bstep hb1 hb2; clear R1' R2'))
      clear e1
      go_loopw [6, 7] (fun c i w3 => ∃ k : Nat, k ≤ len2 ∧ i = .int .i64 k ∧ c = .int .u32 (goF c0 (y.take k) : Nat) ∧ Below w.heap.size w w3) (fun _ i _ => len2 - (intOf i).toNat)
      case atStart => exact ⟨0, by omega, rfl, rfl, B2⟩
      case round =>
        obtain ⟨k, hk, rfl, rfl, B3⟩ := hrel
        have hg := goF_lt (y.take k) hc32
        by_cases hlt : k < len2
        · have hltI : (k : Int) < (len2 : Int) := by omega
          obtain ⟨z, hz⟩ : ∃ z, y[k]?.getD 0 = z := ⟨_, rfl⟩
          have HS : Hid (goF c0 (y.take (k + 1)) = wd (goF c0 (y.take k)) (u64 z)) := by
            have hky : k < y.length := by omega
            have he : y[k] = z := by rw [List.getElem?_eq_getElem hky] at hz; exact hz
            rw [← he]
            exact goF_take c0 y k hky
          obtain ⟨c, hcc⟩ : ∃ c, goF c0 (y.take k) = c := ⟨_, rfl⟩
          rw [hcc] at hg HS ⊢
          clear hcc
          have e2 := wrap_u64_of z
          obtain ⟨bb, off, rfl, hcell⟩ := (R2.below B3).at k (by omega)
          rw [hz] at hcell
          go_wp2
          go_loopw [8, 9] (fun d i w4 => ∃ m : Nat, m ≤ 8 ∧ i = .int .i64 ((m : Int) - 1) ∧ d = .int .u32 (wdU c (u64 z) (8 - m) : Nat) ∧ Below w.heap.size w w4) (fun _ i _ => (intOf i + 1).toNat)
          case atStart => exact ⟨8, by omega, rfl, rfl, B3⟩
          case round =>
            clear hcell B3
            obtain ⟨m, hm, rfl, rfl, B4⟩ := hrel
            obtain ⟨b', off', e4, hcell⟩ := (R2.below B4).at k (by omega)
            cases e4
            rw [hz] at hcell
            cases m with
            | zero =>
              rw [show ((0 : Nat) : Int) - 1 = -1 from rfl, show 8 - 0 = 8 from rfl, ← wd_eq]
              have hw := wd_lt (u64 z) hg
              go_wp2_with (go_at_call 12; refine (word_any _ _ _ hg).mono ?_; rintro e w5 ⟨rfl, hb5⟩)
              have B5 := bstep B4 hb5
              go_roundw
              case rel => exact ⟨k + 1, by omega, by go_num, by rw [HS.out], B5⟩
              case measure => simp [intOf]; omega
            | succ m =>
              have hmI : (m : Int) < 8 := by omega
              rw [show ((m + 1 : Nat) : Int) - 1 = (m : Int) by omega]
              have hwu := wdU_lt (u64 z) (8 - (m + 1)) hg
              have hbt := bt_lt (u64 z) (7 - m)
              have e5 := bt_low (u64 z) m (by omega)
              have HU : Hid (wdU c (u64 z) (8 - m) = byF (wdU c (u64 z) (8 - (m + 1))) (bt (u64 z) (7 - m))) := by
                rw [show 8 - m = 7 - m + 1 by omega, show 8 - (m + 1) = 7 - m by omega]
                exact rfl
              generalize wdU c (u64 z) (8 - (m + 1)) = d at hwu HU ⊢
              go_wp2_with (go_at_call 10; refine (byte_any _ _ _ hwu hbt).mono ?_; rintro e w5 ⟨rfl, hb5⟩)
              have B5 := bstep B4 hb5
              go_roundw
              case rel => exact ⟨m, by omega, by go_num, by rw [HU.out], B5⟩
              case measure => simp [intOf]
        · have HE : Hid (ofF (x ++ y) = 4294967295 - goF c0 (y.take k)) := by
            rw [List.take_of_length_le (by omega), ← HX.out, ← goF_append]
            exact rfl
          generalize goF c0 (y.take k) = g at hg HE
          have ho := ofF_lt (x ++ y)
          generalize ho' : ofF (x ++ y) = o at HE ho
          have e6 : 4294967295 - (g : Int) = (o : Int) := by have := HE.out; omega
          have hoI : (o : Int) < 4294967296 := by omega
          have hS3 := B3.size
          have t1 : Hid (0 = 0) := rfl
          go_wp2_with (first
            | (at_builtin; clear t1; refine wpList_append_rd rfl _ _ rfl w.heap.size _ 0 [] rfl (World.ownsRow_made (base := w.heap.size) (e := 3) (size := 1) wr #[] 0 hS3 (by omega) rfl) _ x rfl (R1.below (B3.alloc hS3 (.cells #[] 3))) (by omega) (by simp; omega) ?_; intro v4 w4 o4 g4; have B4 : Below w.heap.size w w4 := (B3.alloc hS3 (.cells #[] 3)).grown g4 (by simp; omega) (by intro q hq; cases hq; exact hS3))
            | (at_builtin; refine wpList_append_rd rfl _ _ rfl w.heap.size _ _ _ rfl o4 _ y rfl (R2.below B4) (by omega) B4.size ?_; intro v5 w5 o5 g5; have B5 : Below w.heap.size w w5 := B4.grown g5 B4.size (fun q hq => (o4.lt q hq).1); have X5 := own_two o5 R1.1 R2.1 (by simp; omega))
            | (go_at_call 14; refine (of_any _ _ _ X5).mono ?_; rw [ho']; rintro e w6 ⟨rfl, hb6⟩))
          go_ret
          exact ⟨rfl, bstep B5 hb6⟩
end Go.Proofs.Ytnbcpoeabgcgdaa
