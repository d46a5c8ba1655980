/- The walk of AllocParts. -/
import Derived.Test.YtpfbnfnlbjjjoaaAll
import Derived.Test.YtpfbnfnlbjjjoaaQuietb
namespace Go.Proofs.Ytpfbnfnlbjjjoaa
open Go.RowKit
set_option linter.unusedVariables false

theorem parts_both (l : List Int) (A B : Nat) : l.take A ++ (l.drop A).take B = l.take (A + B) := by
  rw [List.take_add]
theorem parts_left (l : List Int) (A B : Nat) : (l.drop A).drop B = l.drop (A + B) := by
  rw [List.drop_drop]
theorem chk_take {l : List Int} (h : chk l = true) (k : Nat) : chk (l.take k) = true := chk_iff.2 (ok_take (chk_iff.1 h) k)
theorem chk_drop {l : List Int} (h : chk l = true) (k : Nat) : chk (l.drop k) = true := chk_iff.2 (ok_drop (chk_iff.1 h) k)

set_option maxRecDepth 100000 in
set_option maxHeartbeats 4000000 in
theorem walk_AllocParts (a1 : Option Addr) (len1 cap1 : Nat) (a b : Int) (w : World) (h1 : RowIn w a1 len1 cap1) (ha : (Lit.int .u8 a).wf = true) (hb : (Lit.int .u8 b).wf = true) :
    Calls Try.prog 7 #[.slice a1 len1 cap1, .int .u8 a, .int .u8 b] w fun e w' => e = .returned (.bool true) ∧ Below w.heap.size w w' := by
  obtain ⟨A, rfl, hA⟩ := wf_u8 ha
  obtain ⟨B, rfl, hB⟩ := wf_u8 hb
  clear ha hb
  by_cases g1 : (len1 : Int) > 1000
  · clear h1
    go_enter Try.func7, Try.ntmps7
    go_wp2_with (go_at_call 8; refine (awake_any _).mono ?_; rintro e w1 ⟨rfl, hb1⟩)
    go_ret
    exact ⟨ret_bool rfl, hb1⟩
  obtain ⟨free, rfl, R1, -⟩ := h1 (by omega)
  have H1 : Hid (Rd w (.slice a1 free.length cap1) free) := R1.rd (by omega)
  have k16 : Hid (∀ W, Below w.heap.size w W → Calls Try.prog 16 #[.slice a1 free.length cap1] W fun e w' => e = .returned (.bool (chk free)) ∧ w' = W) := fun W hb => check_any _ free W (H1.out.below hb)
  clear h1 R1
  cases hc : chk free with
  | false =>
    rw [hc] at k16
    go_enter Try.func7, Try.ntmps7
    go_wp2_with (first
      | (go_at_call 8; refine (awake_any _).mono ?_; rintro e w1 ⟨rfl, hb1⟩)
      | (go_at_call 16; refine (k16.out _ hb1).mono ?_; rintro e w12 ⟨rfl, hw⟩; rw [hw]; clear hw w12))
    go_ret
    exact ⟨ret_bool rfl, hb1⟩
  | true =>
    rw [hc] at k16
    have t1 : Hid (0 = 0) := rfl
    have t2 : Hid (0 = 0) := rfl
    have kA : Hid (∀ W, Below w.heap.size w W → Calls Try.prog 11 #[.slice a1 free.length cap1, .int .i64 (A : Int)] W fun e w' => ∃ v1 v2, e = .returned (.tuple #[v1, v2, .int .i64 (tkE free (A : Int))]) ∧ Rd w' v1 (tkA free (A : Int)) ∧ Rd w' v2 (tkR free (A : Int)) ∧ Below W.heap.size W w') := fun W hb => take_any _ free (A : Int) W (H1.out.below hb)
    have kZ : Hid (∀ W, Below w.heap.size w W → Calls Try.prog 11 #[.slice a1 free.length cap1, .int .i64 ((A : Int) + (B : Int))] W fun e w' => ∃ v1 v2, e = .returned (.tuple #[v1, v2, .int .i64 (tkE free ((A + B : Nat) : Int))]) ∧ Rd w' v1 (tkA free ((A + B : Nat) : Int)) ∧ Rd w' v2 (tkR free ((A + B : Nat) : Int)) ∧ Below W.heap.size W w') := fun W hb => (by have := take_any _ free ((A + B : Nat) : Int) W (H1.out.below hb); rwa [show ((A + B : Nat) : Int) = (A : Int) + (B : Int) by omega] at this ⊢)
    have HT : Hid (tkB free (A : Int) = true ∧ tkB free ((A + B : Nat) : Int) = true) := by
      constructor <;> (unfold tkB; rw [hc, decide_eq_true (by omega)]; rfl)
    by_cases c1 : free.length < A
    · obtain ⟨e1, e2, e3⟩ := tk_full (n := (A : Int)) HT.out.1 (by omega)
      rw [e1, e2, e3] at kA
      obtain ⟨f1, f2, f3⟩ := tk_full (n := ((A + B : Nat) : Int)) HT.out.2 (by omega)
      rw [f1, f2, f3] at kZ
      clear e1 e2 e3 f1 f2 f3
      go_enter Try.func7, Try.ntmps7
      go_wp2_with (first
        | (go_at_call 8; refine (awake_any _).mono ?_; rintro e w1 ⟨rfl, hb1⟩; have B1 : Hid (Below w.heap.size w w1) := hb1; clear hb1)
        | (go_at_call 16; refine (k16.out _ B1.out).mono ?_; rintro e w12 ⟨rfl, hw⟩; rw [hw]; clear hw w12)
        | (clear t1; go_at_call 11; refine (kA.out _ B1.out).mono ?_; rintro e w2 ⟨v2, u2, rfl, r2, q2, hb2⟩; have Q2 : Hid (Rd w2 u2 free) := q2; have B2 : Hid (Below w.heap.size w w2) := bstep B1.out hb2; clear r2 q2 hb2)
        | (clear t2; go_at_call 11; refine (take_any _ free (B : Int) _ Q2.out).mono ?_; rintro e w3 ⟨v3, u3, rfl, r3, q3, hb3⟩; have B3 : Hid (Below w.heap.size w w3) := bstep B2.out hb3; clear r3 q3 hb3; generalize tkE free (B : Int) = E3 at *)
        | (go_at_call 11; refine (kZ.out _ B3.out).mono ?_; rintro e w4 ⟨v4, u4, rfl, r4, q4, hb4⟩; have Q4 : Hid (Rd w4 u4 free) := q4; have B4 : Hid (Below w.heap.size w w4) := bstep B3.out hb4; clear r4 q4 hb4)
        | (go_at_call 15; refine (aw15 _ _ free _ Q4.out (H1.out.below B4.out)).mono ?_; rintro e w5 ⟨rfl, hb5⟩; have B5 : Hid (Below w.heap.size w w5) := bstep B4.out hb5; clear hb5))
      go_ret
      exact ⟨ret_bool rfl, B5.out⟩
    · obtain ⟨e1, e2, e3⟩ := tk_yes (n := A) hc (by omega)
      rw [e1, e2, e3] at kA
      clear e1 e2 e3
      have hcd := chk_drop hc A
      by_cases c2 : free.length - A < B
      · obtain ⟨f1, f2, f3⟩ := tk_full (n := ((A + B : Nat) : Int)) HT.out.2 (by omega)
        rw [f1, f2, f3] at kZ
        have kB : Hid (∀ v W, Rd W v (free.drop A) → Calls Try.prog 11 #[v, .int .i64 (B : Int)] W fun e w' => ∃ v1 v2, e = .returned (.tuple #[v1, v2, .int .i64 100]) ∧ Below W.heap.size W w') := fun v W hR => (take_any v (free.drop A) (B : Int) W hR).mono (fun e w' ⟨v1, v2, he, _, _, hb⟩ => ⟨v1, v2, by rw [he, (tk_full (by unfold tkB; rw [hcd]; simp) (by simp; omega)).1], hb⟩)
        clear f1 f2 f3 hcd
        go_enter Try.func7, Try.ntmps7
        go_wp2_with (first
          | (go_at_call 8; refine (awake_any _).mono ?_; rintro e w1 ⟨rfl, hb1⟩; have B1 : Hid (Below w.heap.size w w1) := hb1; clear hb1)
          | (go_at_call 16; refine (k16.out _ B1.out).mono ?_; rintro e w12 ⟨rfl, hw⟩; rw [hw]; clear hw w12)
          | (clear t1; go_at_call 11; refine (kA.out _ B1.out).mono ?_; rintro e w2 ⟨v2, u2, rfl, r2, q2, hb2⟩; have Q2 : Hid (Rd w2 u2 (free.drop A)) := q2; have B2 : Hid (Below w.heap.size w w2) := bstep B1.out hb2; clear r2 q2 hb2)
          | (clear t2; go_at_call 11; refine (kB.out _ _ Q2.out).mono ?_; rintro e w3 ⟨v3, u3, rfl, hb3⟩; have B3 : Hid (Below w.heap.size w w3) := bstep B2.out hb3; clear hb3)
          | (go_at_call 11; refine (kZ.out _ B3.out).mono ?_; rintro e w4 ⟨v4, u4, rfl, r4, q4, hb4⟩; have Q4 : Hid (Rd w4 u4 free) := q4; have B4 : Hid (Below w.heap.size w w4) := bstep B3.out hb4; clear r4 q4 hb4)
          | (go_at_call 15; refine (aw15 _ _ free _ Q4.out (H1.out.below B4.out)).mono ?_; rintro e w5 ⟨rfl, hb5⟩; have B5 : Hid (Below w.heap.size w w5) := bstep B4.out hb5; clear hb5))
        go_ret
        exact ⟨ret_bool rfl, B5.out⟩
      · obtain ⟨f1, f2, f3⟩ := tk_yes (n := A + B) hc (by omega)
        rw [f1, f2, f3] at kZ
        have kB : Hid (∀ v W, Rd W v (free.drop A) → Calls Try.prog 11 #[v, .int .i64 (B : Int)] W fun e w' => ∃ v1 v2, e = .returned (.tuple #[v1, v2, .int .i64 0]) ∧ Rd w' v1 ((free.drop A).take B) ∧ Rd w' v2 (free.drop (A + B)) ∧ Below W.heap.size W w') := fun v W hR => (by
          obtain ⟨g1, g2, g3⟩ := tk_yes (n := B) hcd (by simp; omega)
          have := take_any v (free.drop A) (B : Int) W hR
          rw [g1, g2, g3, parts_left] at this
          exact this)
        have HP : Hid (free.take A ++ (free.drop A).take B = free.take (A + B)) := parts_both free A B
        have K1 : Hid (chk (free.take (A + B)) = true) := chk_take hc _
        have K2 : Hid (chk (free.drop (A + B)) = true) := chk_drop hc _
        have HS : Hid (∀ y z, y ∈ free.take (A + B) → z ∈ free.drop (A + B) → y < z) := fun y z hy hz => by
          have := (chk_iff.1 hc).1
          rw [← List.take_append_drop (A + B) free, List.pairwise_append] at this
          exact this.2.2 y hy z hz
        have L0 : Hid ((free.take A).length ≤ 900 ∧ ((free.drop A).take B).length ≤ 900 ∧ (free.take (A + B)).length ≤ 900 ∧ (free.drop (A + B)).length ≤ 900) := (by
          have := ok_len (chk_iff.1 hc)
          refine ⟨?_, ?_, ?_, ?_⟩ <;> (show _ ≤ _; simp; omega))
        clear f1 f2 f3 hcd hc HT c1 c2
        generalize free.take (A + B) = BL at *
        generalize free.drop (A + B) = LL at *
        generalize free.take A = P at *
        generalize (free.drop A).take B = Q at *
        obtain ⟨nb, hnb⟩ : ∃ nb, BL.length = nb := ⟨_, rfl⟩
        obtain ⟨nl, hnl⟩ : ∃ nl, LL.length = nl := ⟨_, rfl⟩
        have HNB : Hid (BL.length = nb) := hnb
        have HNL : Hid (LL.length = nl) := hnl
        have b900 : (nb : Int) ≤ 900 := by have := L0.out.2.2.1; omega
        have l900 : (nl : Int) ≤ 900 := by have := L0.out.2.2.2; omega
        clear hnb hnl
        go_enter Try.func7, Try.ntmps7
        go_wp2_with (first
          | (go_at_call 8; refine (awake_any _).mono ?_; rintro e w1 ⟨rfl, hb1⟩; have B1 : Hid (Below w.heap.size w w1) := hb1; clear hb1)
          | (go_at_call 16; refine (k16.out _ B1.out).mono ?_; rintro e w12 ⟨rfl, hw⟩; rw [hw]; clear hw w12)
          | (clear t1; go_at_call 11; refine (kA.out _ B1.out).mono ?_; rintro e w2 ⟨v2, u2, rfl, r2, q2, hb2⟩; have R2 : Hid (Rd w2 v2 P) := r2; have Q2 : Hid (Rd w2 u2 (free.drop A)) := q2; have B2 : Hid (Below w.heap.size w w2) := bstep B1.out hb2; clear r2 q2 hb2)
          | (clear t2; go_at_call 11; refine (kB.out _ _ Q2.out).mono ?_; rintro e w3 ⟨v3, u3, rfl, r3, q3, hb3⟩; have R3 : Hid (Rd w3 v3 Q) := r3; obtain ⟨_, a3, c3, rfl⟩ := q3.form; rw [HNL.out] at q3 ⊢; have Q3 : Hid (Rd w3 (.slice a3 nl c3) LL) := q3; have R23 : Hid (Rd w3 v2 P) := R2.out.below hb3; have B3 : Hid (Below w.heap.size w w3) := bstep B2.out hb3; clear r3 q3 hb3)
          | (go_at_call 11; refine (kZ.out _ B3.out).mono ?_; rintro e w4 ⟨v4, u4, rfl, r4, q4, hb4⟩; have R4 : Hid (Rd w4 v4 BL) := r4; have Q4 : Hid (Rd w4 u4 LL) := q4; have D4 : Hid (Below w3.heap.size w3 w4) := hb4; have B4 : Hid (Below w.heap.size w w4) := bstep B3.out hb4; clear r4 q4 hb4; have t3 : Hid (0 = 0) := rfl)
          | (clear t3; at_builtin; refine append_own_rd rfl (.tmp 71) (.tmp 72) rfl w4.heap.size (.slice (some ⟨w4.heap.size, 0, none⟩) 0 0) [] rfl (own_none w4 (Nat.le_refl _)) v2 P rfl ((R23.out.below D4.out).below ((Below.refl _ _).alloc (Nat.le_refl _) _)) (by simp) (by simp) P (List.nil_append P) ?_; intro a5 c5 w5 o5 b5; have O5 : Hid (OwnI w5 w4.heap.size (.slice a5 P.length c5) P) := o5; have D5 : Hid (Below w4.heap.size w4 w5) := ((Below.refl _ _).alloc (Nat.le_refl _) _).trans b5; clear o5 b5)
          | (at_builtin; refine append_own_rd rfl (.tmp 73) (.tmp 74) rfl w4.heap.size (.slice a5 P.length c5) P rfl O5.out v3 Q rfl ((R3.out.below D4.out).below D5.out) (by have := L0.out.1; omega) (by have := D5.out.size; omega) BL HP.out ?_; intro a6 c6 w6 o6 b6; rw [HNB.out] at o6 ⊢; have R6 : Hid (Rd w6 (.slice a6 nb c6) BL) := OwnI.rd o6 (by have := L0.out.2.2.1; omega); have D6 : Hid (Below w4.heap.size w4 w6) := D5.out.trans b6; clear o6 b6))
        have z6 : Hid (Rd w6 v4 BL) := R4.out.below D6.out
        have e6 : Hid (Rd w6 u4 LL) := Q4.out.below D6.out
        have l6 : Hid (Rd w6 (.slice a3 nl c3) LL) := (Q3.out.below D4.out).below D6.out
        have q15a : ∀ p : BW w6, Calls Try.prog 15 #[v4, .slice a6 nb c6] p.w fun e w' => e = .returned (.bool true) ∧ Below p.w.heap.size p.w w' := fun p => aw15 _ _ BL _ (z6.out.below p.b) (R6.out.below p.b)
        have q15b : ∀ p : BW w6, Calls Try.prog 15 #[.slice a3 nl c3, u4] p.w fun e w' => e = .returned (.bool true) ∧ Below p.w.heap.size p.w w' := fun p => aw15 _ _ LL _ (l6.out.below p.b) (e6.out.below p.b)
        have q16a : ∀ p : BW w6, Calls Try.prog 16 #[.slice a6 nb c6] p.w fun e w' => e = .returned (.bool true) ∧ w' = p.w := fun p => (by have := check_any _ BL _ (R6.out.below p.b); rwa [K1.out] at this)
        have q16b : ∀ p : BW w6, Calls Try.prog 16 #[.slice a3 nl c3] p.w fun e w' => e = .returned (.bool true) ∧ w' = p.w := fun p => (by have := check_any _ LL _ (l6.out.below p.b); rwa [K2.out] at this)
        have BF : Hid (Below w.heap.size w w6) := bstep B4.out D6.out
        by_cases hb0 : nb = 0
        · subst hb0
          refine wp_region_bw (by kernel_rfl) (by kernel_rfl) (fun hbw0 => ?_)
          repeat (refine QW.step (fun K hK => ?_); go_simp; first | (refine hK _ ?_; clear hK K) | (apply Exists.intro; refine ⟨fun _ => ?_, hK _ ?_⟩; (first | with_reducible exact Calls.bw_of (q15a _) | with_reducible exact Calls.bw_of (q15b _) | with_reducible exact Calls.bw_same (q16a _) | with_reducible exact Calls.bw_same (q16b _)); clear hK K))
          refine QW.nil ?_
          rintro ⟨w8, hb8⟩
          dsimp only
          go_wp2
          go_ret
          exact ⟨ret_bool rfl, bstep BF.out hb8⟩
        · by_cases hl0 : nl = 0
          · subst hl0
            have d1 : decide (nb = 0) = false := decide_eq_false hb0
            have d2 : (nb == 0) = false := by simpa using hb0
            refine wp_region_bw (by kernel_rfl) (by kernel_rfl) (fun hbw0 => ?_)
            repeat (refine QW.step (fun K hK => ?_); go_simp; first | (refine hK _ ?_; clear hK K) | (apply Exists.intro; refine ⟨fun _ => ?_, hK _ ?_⟩; (first | with_reducible exact Calls.bw_of (q15a _) | with_reducible exact Calls.bw_of (q15b _) | with_reducible exact Calls.bw_same (q16a _) | with_reducible exact Calls.bw_same (q16b _)); clear hK K))
            refine QW.nil ?_
            rintro ⟨w8, hb8⟩
            dsimp only
            go_wp2
            go_ret
            exact ⟨ret_bool rfl, bstep BF.out hb8⟩
          · obtain ⟨m, hm⟩ : ∃ m, nb = m + 1 := ⟨nb - 1, by omega⟩
            obtain ⟨y, hy⟩ : ∃ y, BL[m]? = some y := ⟨_, List.getElem?_eq_getElem (by have := HNB.out; omega)⟩
            obtain ⟨z, hz⟩ : ∃ z, LL[0]? = some z := ⟨_, List.getElem?_eq_getElem (by have := HNL.out; omega)⟩
            obtain ⟨b, off, rfl, hcy0⟩ := at_of R6.out hy
            obtain ⟨b2, off2, rfl, hcz0⟩ := at_of l6.out hz
            rw [Nat.add_zero] at hcz0
            have hcy : ∀ p : BW w6, p.w.cell? ⟨b, off + m, none⟩ = some (.int .i64 y) := fun p => (p.b.cell (World.block_lt_of_cell? _ _ hcy0)).trans hcy0
            have hcz : ∀ p : BW w6, p.w.cell? ⟨b2, off2, none⟩ = some (.int .i64 z) := fun p => (p.b.cell (World.block_lt_of_cell? _ _ hcz0)).trans hcz0
            have hyz : y < z := HS.out y z (List.mem_of_getElem? hy) (List.mem_of_getElem? hz)
            have d1 : decide (nb = 0) = false := decide_eq_false hb0
            have d2 : decide (nl = 0) = false := decide_eq_false hl0
            have d3 : decide (y < z) = true := decide_eq_true hyz
            have d4 : (nb == 0) = false := by simpa using hb0
            have d5 : (nl == 0) = false := by simpa using hl0
            have hm2 : (nb : Int) - 1 = (m : Int) := by omega
            have hmw : IntKind.i64.wrap (m : Int) = (m : Int) := by rw [IntKind.wrap_i64]; omega
            have hm3 : (m : Int) < (nb : Int) := by omega
            have hl1 : (0 : Int) < (nl : Int) := by omega
            have hl2 : 0 < nl := by omega
            clear hcy0 hcz0 hy hz hm
            refine wp_region_bw (by kernel_rfl) (by kernel_rfl) (fun hbw0 => ?_)
            repeat (refine QW.step (fun K hK => ?_); go_simp; first | (refine hK _ ?_; clear hK K) | (apply Exists.intro; refine ⟨fun _ => ?_, hK _ ?_⟩; (first | with_reducible exact Calls.bw_of (q15a _) | with_reducible exact Calls.bw_of (q15b _) | with_reducible exact Calls.bw_same (q16a _) | with_reducible exact Calls.bw_same (q16b _)); clear hK K))
            refine QW.nil ?_
            rintro ⟨w8, hb8⟩
            dsimp only
            go_wp2
            go_ret
            exact ⟨ret_bool rfl, bstep BF.out hb8⟩
end Go.Proofs.Ytpfbnfnlbjjjoaa
