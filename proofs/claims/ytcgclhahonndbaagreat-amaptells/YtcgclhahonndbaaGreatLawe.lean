/- Layer 12: the walk of AmapTells. -/
import Derived.Test.YtcgclhahonndbaaGreatRfh
import Derived.Test.YtcgclhahonndbaaGreatPin
namespace Go.Proofs.YtcgclhahonndbaaGreat
open Go.RowKit Go.Shelf Classical
set_option linter.unusedVariables false

theorem same_self (A : List Pa) (u v : Value) (W : World) (h1 : RdP W u A) (h2 : RdP W v A) : Calls Tryz.prog 12 #[u, v] W fun e w' => e = .returned (.bool true) ∧ Below W.heap.size W w' :=
  (sameP_any _ _ _ _ _ h1 h2).mono fun e w' ⟨q1, q2⟩ => ⟨by rw [q1, decide_eq_true rfl], q2⟩
set_option maxRecDepth 100000 in
set_option maxHeartbeats 4000000 in
theorem walk_AmapTells (a0 : Option Addr) (len0 cap0 : Nat) (block : Int) (a2 : Option Addr) (len2 cap2 : Nat) (key val : ByteArray) (w : World) (h0 : RowIn w a0 len0 cap0) (h2 : PIn w a2 len2 cap2) (h3 : key.size ≤ maxLen) (h4 : val.size ≤ maxLen) :
    Calls Tryz.prog 3 #[.slice a0 len0 cap0, .int .i64 block, .slice a2 len2 cap2, .string key, .string val] w fun e w' => e = .returned (.bool true) ∧ Below w.heap.size w w' := by
  obtain ⟨l, hI⟩ := h2
  have HI : Hid (InP w a2 len2 cap2 l) := hI
  have K5 : Hid (∀ W, InP W a2 len2 cap2 l → Calls Tryz.prog 5 #[.slice a2 len2 cap2, .int .i64 200] W fun e w' => e = .returned (.bool (shP l 200)) ∧ Below W.heap.size W w') := fun W h => short_any a2 len2 cap2 l 200 W h
  by_cases g0 : (len0 : Int) > 1000
  · clear h0 hI
    go_enter Tryz.func3, Tryz.ntmps3
    go_wp2_with (first
      | (go_at_call 4; refine (awake_any _).mono ?_; rintro e w1 ⟨rfl, hb1⟩; have B1 : Hid (Below w.heap.size w w1) := hb1; clear hb1))
    go_ret
    exact ⟨ret_bool rfl, B1.out⟩
  obtain ⟨zs, rfl, R0, F0⟩ := h0 (by omega)
  have F0 : Fits zs := F0
  have HR : Hid (Rl w (.slice a0 zs.length cap0) zs) := R0
  have hz9 : zs.length ≤ 1000 := by omega
  clear h0 R0
  cases hs : shP l 200 with
  | false =>
    rw [hs] at K5
    clear hI hs
    go_enter Tryz.func3, Tryz.ntmps3
    go_wp2_with (first
      | (go_at_call 4; refine (awake_any _).mono ?_; rintro e w1 ⟨rfl, hb1⟩; have B1 : Hid (Below w.heap.size w w1) := hb1; clear hb1)
      | (go_at_call 5; refine (K5.out _ (HI.out.below B1.out)).mono ?_; rintro e w2 ⟨rfl, hb2⟩; have B2 : Hid (Below w.heap.size w w2) := bstep B1.out hb2; clear hb2))
    go_ret
    exact ⟨ret_bool rfl, B2.out⟩
  | true =>
    obtain ⟨rfl, hl⟩ := hI.short hs
    rw [hs] at K5
    clear hs
    by_cases g1 : (key.size : Int) > 100
    · clear hI
      go_enter Tryz.func3, Tryz.ntmps3
      go_wp2_with (first
        | (go_at_call 4; refine (awake_any _).mono ?_; rintro e w1 ⟨rfl, hb1⟩; have B1 : Hid (Below w.heap.size w w1) := hb1; clear hb1)
        | (go_at_call 5; refine (K5.out _ (HI.out.below B1.out)).mono ?_; rintro e w2 ⟨rfl, hb2⟩; have B2 : Hid (Below w.heap.size w w2) := bstep B1.out hb2; clear hb2))
      go_ret
      exact ⟨ret_bool rfl, B2.out⟩
    by_cases g2 : (val.size : Int) > 100
    · clear hI
      go_enter Tryz.func3, Tryz.ntmps3
      go_wp2_with (first
        | (go_at_call 4; refine (awake_any _).mono ?_; rintro e w1 ⟨rfl, hb1⟩; have B1 : Hid (Below w.heap.size w w1) := hb1; clear hb1)
        | (go_at_call 5; refine (K5.out _ (HI.out.below B1.out)).mono ?_; rintro e w2 ⟨rfl, hb2⟩; have B2 : Hid (Below w.heap.size w w2) := bstep B1.out hb2; clear hb2))
      go_ret
      exact ⟨ret_bool rfl, B2.out⟩
    have RL : Hid (RdP w (.slice a2 l.length cap2) l) := hI.rd (by omega)
    have lO : (owL zs block).length ≤ 1000 := by
      unfold owL
      split
      · have := ownL_len zs block; omega
      · simp
    have lP : ((slL zs).flatMap (ownL zs)).length ≤ 1000 := by
      cases hs : sndB zs with
      | false => unfold slL; rw [hs]; simp
      | true =>
        obtain ⟨L, hL⟩ := snd_leaves hs
        have := lv_few hL hz9
        have h1 : slL zs = L := by unfold slL lvL; rw [hs, hL]; rfl
        rw [h1]
        have := flat_len zs L
        omega
    have lW := wiP_len l key val
    have lB := woP_len l key
    have K6 : Hid (∀ W, Rl W (.slice a0 zs.length cap0) zs → Calls Tryz.prog 6 #[.slice a0 zs.length cap0, .int .i64 block] W fun e w' => ∃ v', e = .returned (.tuple #[v', .int .i64 (owE zs block)]) ∧ RdP w' v' (owL zs block) ∧ Below W.heap.size W w') := fun W h => (owns_any _ zs block W h F0).mono fun e w' ⟨v', q1, q2, q3⟩ => ⟨v', q1, q2.rd lO, q3⟩
    have K7 : Hid (∀ W, Rl W (.slice a0 zs.length cap0) zs → Calls Tryz.prog 7 #[.slice a0 zs.length cap0, .int .i64 block] W fun e w' => ∃ v', e = .returned (.tuple #[v', .int .i64 (owE zs block)]) ∧ RdP w' v' (owL zs block) ∧ Below W.heap.size W w') := fun W h => ownsR_any _ zs block W h F0 hz9
    have K8 : Hid (∀ W, Rl W (.slice a0 zs.length cap0) zs → Calls Tryz.prog 8 #[.slice a0 zs.length cap0] W fun e w' => ∃ v', e = .returned (.tuple #[v', .int .i64 (chE zs)]) ∧ RdP w' v' ((slL zs).flatMap (ownL zs)) ∧ Below W.heap.size W w') := fun W h => (pairs_any _ zs W h F0).mono fun e w' ⟨v', q1, q2, q3⟩ => ⟨v', q1, q2.rd lP, q3⟩
    have K9 : Hid (∀ W, Rl W (.slice a0 zs.length cap0) zs → Calls Tryz.prog 9 #[.slice a0 zs.length cap0] W fun e w' => ∃ v', e = .returned (.tuple #[v', .int .i64 (chE zs)]) ∧ RdP w' v' ((slL zs).flatMap (ownL zs)) ∧ Below W.heap.size W w') := fun W h => pairsR_any _ zs W h F0 hz9
    have K10 : Hid (∀ v W, RdP W v l → Calls Tryz.prog 10 #[v, .string key] W fun e w' => e = .returned (.tuple #[.string (gvP l key), .bool (gbP l key)]) ∧ Below W.heap.size W w') := fun v W h => get_any v l key W h
    have K11 : Hid (∀ v W, RdP W v l → Calls Tryz.prog 11 #[v, .string key] W fun e w' => e = .returned (.tuple #[.string (gvP l key), .bool (gbP l key)]) ∧ Below W.heap.size W w') := fun v W h => getR_any v l key W h
    have K13 : Hid (∀ v W, RdP W v l → Calls Tryz.prog 13 #[v, .string key, .string val] W fun e w' => ∃ v', e = .returned v' ∧ RdP w' v' (wiP l key val) ∧ Below W.heap.size W w') := fun v W h => (with_any v l key val W h).mono fun e w' ⟨v', q1, q2, q3⟩ => ⟨v', q1, q2.rd (by omega), q3⟩
    have K14 : Hid (∀ v W, RdP W v l → Calls Tryz.prog 14 #[v, .string key, .string val] W fun e w' => ∃ v', e = .returned v' ∧ RdP w' v' (wiP l key val) ∧ Below W.heap.size W w') := fun v W h => (withR_any v l key val W h).mono fun e w' ⟨v', q1, q2, q3⟩ => ⟨v', q1, q2.rd (by omega), q3⟩
    have K15 : Hid (∀ v W, RdP W v l → Calls Tryz.prog 15 #[v, .string key] W fun e w' => ∃ v', e = .returned v' ∧ RdP w' v' (woP l key) ∧ Below W.heap.size W w') := fun v W h => (without_any v l key W h).mono fun e w' ⟨v', q1, q2, q3⟩ => ⟨v', q1, q2.rd (by omega), q3⟩
    have K16 : Hid (∀ v W, RdP W v l → Calls Tryz.prog 16 #[v, .string key] W fun e w' => ∃ v', e = .returned v' ∧ RdP w' v' (woP l key) ∧ Below W.heap.size W w') := fun v W h => (withoutR_any v l key W h).mono fun e w' ⟨v', q1, q2, q3⟩ => ⟨v', q1, q2.rd (by omega), q3⟩
    clear hI F0 lO lP lW lB
    generalize (slL zs).flatMap (ownL zs) = A at *
    generalize owL zs block = D at *
    generalize owE zs block = E at *
    generalize chE zs = C at *
    generalize wiP l key val = X at *
    generalize woP l key = Y at *
    generalize gvP l key = gv at *
    generalize gbP l key = gb at *
    have SA : Hid (∀ u v W, RdP W u A → RdP W v A → Calls Tryz.prog 12 #[u, v] W fun e w' => e = .returned (.bool true) ∧ Below W.heap.size W w') := fun u v W h1 h2 => same_self A u v W h1 h2
    have SD : Hid (∀ u v W, RdP W u D → RdP W v D → Calls Tryz.prog 12 #[u, v] W fun e w' => e = .returned (.bool true) ∧ Below W.heap.size W w') := fun u v W h1 h2 => same_self D u v W h1 h2
    have SX : Hid (∀ u v W, RdP W u X → RdP W v X → Calls Tryz.prog 12 #[u, v] W fun e w' => e = .returned (.bool true) ∧ Below W.heap.size W w') := fun u v W h1 h2 => same_self X u v W h1 h2
    have SY : Hid (∀ u v W, RdP W u Y → RdP W v Y → Calls Tryz.prog 12 #[u, v] W fun e w' => e = .returned (.bool true) ∧ Below W.heap.size W w') := fun u v W h1 h2 => same_self Y u v W h1 h2
    have eE : (E == E) = true := by simp
    have eC : (C == C) = true := by simp
    have eg : (gv.toList == gv.toList) = true := by simp
    have eb : (gb == gb) = true := by simp
    have t3 : Hid (0 = 0) := rfl
    have t4 : Hid (0 = 0) := rfl
    have t5 : Hid (0 = 0) := rfl
    have t6 : Hid (0 = 0) := rfl
    have t7 : Hid (0 = 0) := rfl
    have t8 : Hid (0 = 0) := rfl
    have t9 : Hid (0 = 0) := rfl
    have t10 : Hid (0 = 0) := rfl
    have t11 : Hid (0 = 0) := rfl
    have t12 : Hid (0 = 0) := rfl
    have t13 : Hid (0 = 0) := rfl
    have t14 : Hid (0 = 0) := rfl
    have t15 : Hid (0 = 0) := rfl
    have t16 : Hid (0 = 0) := rfl
    go_enter Tryz.func3, Tryz.ntmps3
    go_wp2_with (first
      | (go_at_call 4; refine (awake_any _).mono ?_; rintro e w1 ⟨rfl, hb1⟩; have B1 : Hid (Below w.heap.size w w1) := hb1; clear hb1)
      | (go_at_call 5; refine (K5.out _ (HI.out.below B1.out)).mono ?_; rintro e w2 ⟨rfl, hb2⟩; have B2 : Hid (Below w.heap.size w w2) := bstep B1.out hb2; clear hb2)
      | (clear t3; go_at_call 6; refine (K6.out _ (HR.out.below B2.out)).mono ?_; rintro e w3 ⟨v3, rfl, r3, hb3⟩; have R3 : Hid (RdP w3 v3 D) := r3; have H3 : Hid (Below w2.heap.size w2 w3) := hb3; clear hb3; have B3 : Hid (Below w.heap.size w w3) := bstep B2.out H3.out; clear r3)
      | (clear t4; go_at_call 7; refine (K7.out _ (HR.out.below B3.out)).mono ?_; rintro e w4 ⟨v4, rfl, r4, hb4⟩; have R4 : Hid (RdP w4 v4 D) := r4; have H4 : Hid (Below w3.heap.size w3 w4) := hb4; clear hb4; have B4 : Hid (Below w.heap.size w w4) := bstep B3.out H4.out; clear r4)
      | (clear t5; go_at_call 8; refine (K8.out _ (HR.out.below B4.out)).mono ?_; rintro e w5 ⟨v5, rfl, r5, hb5⟩; have R5 : Hid (RdP w5 v5 A) := r5; have H5 : Hid (Below w4.heap.size w4 w5) := hb5; clear hb5; have B5 : Hid (Below w.heap.size w w5) := bstep B4.out H5.out; clear r5)
      | (clear t6; go_at_call 9; refine (K9.out _ (HR.out.below B5.out)).mono ?_; rintro e w6 ⟨v6, rfl, r6, hb6⟩; have R6 : Hid (RdP w6 v6 A) := r6; have H6 : Hid (Below w5.heap.size w5 w6) := hb6; clear hb6; have B6 : Hid (Below w.heap.size w w6) := bstep B5.out H6.out; clear r6)
      | (clear t7; go_at_call 10; refine (K10.out _ _ (RL.out.below B6.out)).mono ?_; rintro e w7 ⟨rfl, hb7⟩; have H7 : Hid (Below w6.heap.size w6 w7) := hb7; clear hb7; have B7 : Hid (Below w.heap.size w w7) := bstep B6.out H7.out)
      | (clear t8; go_at_call 11; refine (K11.out _ _ (RL.out.below B7.out)).mono ?_; rintro e w8 ⟨rfl, hb8⟩; have H8 : Hid (Below w7.heap.size w7 w8) := hb8; clear hb8; have B8 : Hid (Below w.heap.size w w8) := bstep B7.out H8.out)
      | (clear t9; go_at_call 12; refine (SD.out _ _ _ (R3.out.below (bstep (bstep (bstep (bstep H4.out H5.out) H6.out) H7.out) H8.out)) (R4.out.below (bstep (bstep (bstep H5.out H6.out) H7.out) H8.out))).mono ?_; rintro e w9 ⟨rfl, hb9⟩; have H9 : Hid (Below w8.heap.size w8 w9) := hb9; clear hb9; have B9 : Hid (Below w.heap.size w w9) := bstep B8.out H9.out)
      | (clear t10; go_at_call 12; refine (SA.out _ _ _ (R5.out.below (bstep (bstep (bstep H6.out H7.out) H8.out) H9.out)) (R6.out.below (bstep (bstep H7.out H8.out) H9.out))).mono ?_; rintro e w10 ⟨rfl, hb10⟩; have H10 : Hid (Below w9.heap.size w9 w10) := hb10; clear hb10; have B10 : Hid (Below w.heap.size w w10) := bstep B9.out H10.out)
      | (clear t11; go_at_call 13; refine (K13.out _ _ (RL.out.below B10.out)).mono ?_; rintro e w11 ⟨v11, rfl, r11, hb11⟩; have R11 : Hid (RdP w11 v11 X) := r11; have H11 : Hid (Below w10.heap.size w10 w11) := hb11; clear hb11; have B11 : Hid (Below w.heap.size w w11) := bstep B10.out H11.out; clear r11)
      | (clear t12; go_at_call 14; refine (K14.out _ _ (RL.out.below B11.out)).mono ?_; rintro e w12 ⟨v12, rfl, r12, hb12⟩; have R12 : Hid (RdP w12 v12 X) := r12; have H12 : Hid (Below w11.heap.size w11 w12) := hb12; clear hb12; have B12 : Hid (Below w.heap.size w w12) := bstep B11.out H12.out; clear r12)
      | (clear t13; go_at_call 12; refine (SX.out _ _ _ (R11.out.below H12.out) R12.out).mono ?_; rintro e w13 ⟨rfl, hb13⟩; have H13 : Hid (Below w12.heap.size w12 w13) := hb13; clear hb13; have B13 : Hid (Below w.heap.size w w13) := bstep B12.out H13.out)
      | (clear t14; go_at_call 15; refine (K15.out _ _ (RL.out.below B13.out)).mono ?_; rintro e w14 ⟨v14, rfl, r14, hb14⟩; have R14 : Hid (RdP w14 v14 Y) := r14; have H14 : Hid (Below w13.heap.size w13 w14) := hb14; clear hb14; have B14 : Hid (Below w.heap.size w w14) := bstep B13.out H14.out; clear r14)
      | (clear t15; go_at_call 16; refine (K16.out _ _ (RL.out.below B14.out)).mono ?_; rintro e w15 ⟨v15, rfl, r15, hb15⟩; have R15 : Hid (RdP w15 v15 Y) := r15; have H15 : Hid (Below w14.heap.size w14 w15) := hb15; clear hb15; have B15 : Hid (Below w.heap.size w w15) := bstep B14.out H15.out; clear r15)
      | (clear t16; go_at_call 12; refine (SY.out _ _ _ (R14.out.below H15.out) R15.out).mono ?_; rintro e w16 ⟨rfl, hb16⟩; have H16 : Hid (Below w15.heap.size w15 w16) := hb16; clear hb16; have B16 : Hid (Below w.heap.size w w16) := bstep B15.out H16.out))
    go_ret
    exact ⟨ret_bool rfl, B16.out⟩
end Go.Proofs.YtcgclhahonndbaaGreat
