/- Walks of layer 8: the document's Read. -/
import Derived.Test.YtmenkolceahebaaSupc
import Derived.Test.YtmenkolceahebaaSupe
namespace Go.Proofs.Ytmenkolceahebaa
open Go.RowKit Go.Shelf
set_option linter.unusedVariables false

def S2 (b off : Nat) (x1 x3 : Int) (W : World) : Prop := W.cell? ⟨b, off + 1, none⟩ = some (.int .i64 x1) ∧ W.cell? ⟨b, off + 3, none⟩ = some (.int .i64 x3)
theorem S2.of {W : World} {b off n c : Nat} {zs : List Int} {x1 x3 : Int} (h : Rl W (.slice (some ⟨b, off, none⟩) n c) zs) (h1 : zs[1]? = some x1) (h3 : zs[3]? = some x3) : S2 b off x1 x3 W := ⟨h.cell h1, h.cell h3⟩

set_option maxRecDepth 100000 in
theorem readR_short (v : Value) (zs : List Int) (w : World) (hR : Rl w v zs) (h : zs.length < 32) : Calls Try.prog 11 #[v] w fun e w' => e = .returned (.tuple #[.int .i64 0, .int .i64 0, .int .i64 80]) ∧ Below w.heap.size w w' := by
  obtain ⟨hl, a, cap, rfl, hcap⟩ := hR.form
  obtain ⟨n, hn⟩ : ∃ n, zs.length = n := ⟨_, rfl⟩
  rw [hn] at h ⊢
  have h3 : (n : Int) < 32 := by omega
  clear hn hR hl hcap
  go_enter Try.func11, Try.ntmps11
  go_wp2
  refine bodyPost_ret (results_tmp3 Try.results11 _ _ _) rfl ⟨rfl, Below.refl _ _⟩

set_option maxRecDepth 100000 in
set_option maxHeartbeats 2000000 in
theorem readR_err (v : Value) (zs : List Int) (x1 x3 : Int) (w : World) (hR : Rl w v zs) (h32 : 32 ≤ zs.length) (h1 : zs[1]? = some x1) (h3 : zs[3]? = some x3) (hc : mbB x1 x3 = false) : Calls Try.prog 11 #[v] w fun e w' => e = .returned (.tuple #[.int .i64 0, .int .i64 0, .int .i64 80]) ∧ Below w.heap.size w w' := by
  obtain ⟨hl, a, cap, rfl, hcap⟩ := hR.form
  obtain ⟨b, off, rfl, -⟩ := hR.base (by omega)
  obtain ⟨n, hn⟩ : ∃ n, zs.length = n := ⟨_, rfl⟩
  have HR : Hid (Rl w (.slice (some ⟨b, off, none⟩) zs.length cap) zs) := hR
  have hw9 : Hid (∀ W, Calls Try.prog 9 #[.int .i64 x1, .int .i64 x3] W fun e w' => ∃ v, e = .returned (.tuple #[v, .int .i64 1]) ∧ Rd w' v [] ∧ Below W.heap.size W w') := fun W => by have := wordsR_any x1 x3 W; rwa [(wd_no hc).1, (wd_no hc).2] at this
  have h16 : 16 ≤ zs.length := by omega
  have hnb := nb_eq zs hn
  rw [hn] at h32 hl hcap HR ⊢
  have d1 : ¬ ((n : Int) < 32) := by omega
  have d2 : (1 : Int) < (n : Int) := by omega
  have d3 : (3 : Int) < (n : Int) := by omega
  have d4 : (16 : Int) ≤ (cap : Int) := by omega
  have R0 : Hid (Rl w.drew (.slice (some ⟨b, off, none⟩) n cap) zs) := show Rl _ _ _ from HR.out.below (Below.refl _ _).drew
  have S0 : Hid (S2 b off x1 x3 w.drew) := S2.of R0.out h1 h3
  clear hnb hn
  go_enter Try.func11, Try.ntmps11
  go_wp2
  go_region_held3 (fun W2 => W2.cell? ⟨b, off + 1, none⟩ = some (.int .i64 x1) ∧ W2.cell? ⟨b, off + 3, none⟩ = some (.int .i64 x3))
    (first | exact S0.out | exact S1.out)
    (first | (go_at_call 9; refine (hw9.out _).mono ?_; rintro e w1 ⟨v1, rfl, r1, hb1⟩; obtain ⟨_, a1, c1, rfl⟩ := r1.form; have S1 : Hid (S2 b off x1 x3 w1) := S2.of (R0.out.below hb1) h1 h3))
  have R1 : Hid (Rl w1 (.slice (some ⟨b, off, none⟩) n cap) zs) := show Rl _ _ _ from R0.out.below hb1
  have B1 : Hid (Below w.heap.size w w1) := show Below _ _ _ from bstep (Below.refl _ _).drew hb1
  have c1' := S1.out.1
  have c3' := S1.out.2
  clear R0 S0 S1 hb1
  go_wp2
  refine bodyPost_ret (results_tmp3 Try.results11 _ _ _) rfl ⟨rfl, B1.out⟩

set_option maxRecDepth 100000 in
set_option maxHeartbeats 2000000 in
theorem readR_many (v : Value) (zs : List Int) (x1 x3 : Int) (w : World) (hR : Rl w v zs) (h32 : 32 ≤ zs.length) (h1 : zs[1]? = some x1) (h3 : zs[3]? = some x3) (hc : mbB x1 x3 = true) (hne : x1 ≠ nbI zs) : Calls Try.prog 11 #[v] w fun e w' => e = .returned (.tuple #[.int .i64 0, .int .i64 0, .int .i64 80]) ∧ Below w.heap.size w w' := by
  obtain ⟨hl, a, cap, rfl, hcap⟩ := hR.form
  obtain ⟨b, off, rfl, -⟩ := hR.base (by omega)
  obtain ⟨n, hn⟩ : ∃ n, zs.length = n := ⟨_, rfl⟩
  have HR : Hid (Rl w (.slice (some ⟨b, off, none⟩) zs.length cap) zs) := hR
  have hw9 : Hid (∀ W, Calls Try.prog 9 #[.int .i64 x1, .int .i64 x3] W fun e w' => ∃ v, e = .returned (.tuple #[v, .int .i64 0]) ∧ Rd w' v (hdW x1 x3) ∧ Below W.heap.size W w') := fun W => by have := wordsR_any x1 x3 W; rwa [(wd_yes hc).1, (wd_yes hc).2] at this
  have h16 : 16 ≤ zs.length := by omega
  have hnb := nb_eq zs hn
  rw [hn] at h32 hl hcap HR ⊢
  have d1 : ¬ ((n : Int) < 32) := by omega
  have d2 : (1 : Int) < (n : Int) := by omega
  have d3 : (3 : Int) < (n : Int) := by omega
  have d4 : (16 : Int) ≤ (cap : Int) := by omega
  have R0 : Hid (Rl w.drew (.slice (some ⟨b, off, none⟩) n cap) zs) := show Rl _ _ _ from HR.out.below (Below.refl _ _).drew
  have S0 : Hid (S2 b off x1 x3 w.drew) := S2.of R0.out h1 h3
  rw [hnb] at hne
  have hne' : (x1 != (n : Int) / 16) = true := by simpa using hne
  clear hnb hn hne
  go_enter Try.func11, Try.ntmps11
  go_wp2
  go_region_held3 (fun W2 => W2.cell? ⟨b, off + 1, none⟩ = some (.int .i64 x1) ∧ W2.cell? ⟨b, off + 3, none⟩ = some (.int .i64 x3))
    (first | exact S0.out | exact S1.out)
    (first | (go_at_call 9; refine (hw9.out _).mono ?_; rintro e w1 ⟨v1, rfl, r1, hb1⟩; obtain ⟨_, a1, c1, rfl⟩ := r1.form; have S1 : Hid (S2 b off x1 x3 w1) := S2.of (R0.out.below hb1) h1 h3))
  have R1 : Hid (Rl w1 (.slice (some ⟨b, off, none⟩) n cap) zs) := show Rl _ _ _ from R0.out.below hb1
  have B1 : Hid (Below w.heap.size w w1) := show Below _ _ _ from bstep (Below.refl _ _).drew hb1
  have c1' := S1.out.1
  have c3' := S1.out.2
  clear R0 S0 S1 hb1
  go_wp2
  refine bodyPost_ret (results_tmp3 Try.results11 _ _ _) rfl ⟨rfl, B1.out⟩

set_option maxRecDepth 100000 in
set_option maxHeartbeats 2000000 in
theorem readR_diff (v : Value) (zs : List Int) (x3 : Int) (w : World) (hR : Rl w v zs) (h32 : 32 ≤ zs.length) (h1 : zs[1]? = some (nbI zs)) (h3 : zs[3]? = some x3) (hc : mbB (nbI zs) x3 = true) (hd : decide (hdW (nbI zs) x3 = zs.take 16) = false) : Calls Try.prog 11 #[v] w fun e w' => e = .returned (.tuple #[.int .i64 0, .int .i64 0, .int .i64 80]) ∧ Below w.heap.size w w' := by
  obtain ⟨hl, a, cap, rfl, hcap⟩ := hR.form
  obtain ⟨b, off, rfl, -⟩ := hR.base (by omega)
  obtain ⟨n, hn⟩ : ∃ n, zs.length = n := ⟨_, rfl⟩
  have HR : Hid (Rl w (.slice (some ⟨b, off, none⟩) zs.length cap) zs) := hR
  have hw9 : Hid (∀ W, Calls Try.prog 9 #[.int .i64 (nbI zs), .int .i64 x3] W fun e w' => ∃ v, e = .returned (.tuple #[v, .int .i64 0]) ∧ Rd w' v (hdW (nbI zs) x3) ∧ Below W.heap.size W w') := fun W => by have := wordsR_any (nbI zs) x3 W; rwa [(wd_yes hc).1, (wd_yes hc).2] at this
  have H16 : Hid (16 ≤ zs.length) := show 16 ≤ _ by omega
  have hnb := nb_eq zs hn
  obtain ⟨H, hH⟩ : ∃ H, H = hdW (nbI zs) x3 := ⟨_, rfl⟩
  obtain ⟨T, hT⟩ : ∃ T, T = zs.take 16 := ⟨_, rfl⟩
  have HT : Hid (T = zs.take 16) := hT
  rw [← hH] at hw9 hd
  rw [← hT] at hd
  rw [hnb] at h1 hw9
  rw [hn] at h32 hl hcap HR ⊢
  clear hc hnb hn hH hT hR
  have d1 : ¬ ((n : Int) < 32) := by omega
  have d2 : (1 : Int) < (n : Int) := by omega
  have d3 : (3 : Int) < (n : Int) := by omega
  have d4 : (16 : Int) ≤ (cap : Int) := by omega
  have d5 : (16 : Int) ≤ (n : Int) := by omega
  have R0 : Hid (Rl w.drew (.slice (some ⟨b, off, none⟩) n cap) zs) := show Rl _ _ _ from HR.out.below (Below.refl _ _).drew
  have S0 : Hid (S2 b off ((n : Int) / 16) x3 w.drew) := S2.of R0.out h1 h3
  have Hh1 : Hid (zs[1]? = some ((n : Int) / 16)) := h1
  have Hh3 : Hid (zs[3]? = some x3) := h3
  clear h1 h3
  go_enter Try.func11, Try.ntmps11
  go_wp2
  go_region_held3 (fun W2 => W2.cell? ⟨b, off + 1, none⟩ = some (.int .i64 ((n : Int) / 16)) ∧ W2.cell? ⟨b, off + 3, none⟩ = some (.int .i64 x3))
    (first | exact S0.out | exact S1.out)
    (first | (go_at_call 9; refine (hw9.out _).mono ?_; rintro e w1 ⟨v1, rfl, r1, hb1⟩; obtain ⟨_, a1, c1, rfl⟩ := r1.form; have S1 : Hid (S2 b off ((n : Int) / 16) x3 w1) := S2.of (R0.out.below hb1) Hh1.out Hh3.out))
  have R1 : Hid (Rl w1 (.slice (some ⟨b, off, none⟩) n cap) zs) := show Rl _ _ _ from R0.out.below hb1
  have B1 : Hid (Below w.heap.size w w1) := show Below _ _ _ from bstep (Below.refl _ _).drew hb1
  have T1 : Hid (Rd w1 (.slice (some ⟨b, off, none⟩) 16 cap) T) := show Rd _ _ _ by rw [HT.out]; exact R1.out.take 16 H16.out (by omega)
  have r1 : Hid (Rd w1 (.slice a1 H.length c1) H) := r1
  have c1' := S1.out.1
  have c3' := S1.out.2
  clear R0 S0 S1 hb1
  go_wp2_with (go_at_call 14; refine (numbers_any _ _ H T _ r1.out T1.out).mono ?_; rintro e w2 ⟨rfl, hb2⟩; rw [hd])
  refine bodyPost_ret (results_tmp3 Try.results11 _ _ _) rfl ⟨rfl, bstep B1.out hb2⟩

set_option maxRecDepth 100000 in
set_option maxHeartbeats 2000000 in
theorem readR_right (v : Value) (zs : List Int) (x3 : Int) (w : World) (hR : Rl w v zs) (h32 : 32 ≤ zs.length) (h1 : zs[1]? = some (nbI zs)) (h3 : zs[3]? = some x3) (hc : mbB (nbI zs) x3 = true) (hd : decide (hdW (nbI zs) x3 = zs.take 16) = true) : Calls Try.prog 11 #[v] w fun e w' => e = .returned (.tuple #[.int .i64 (nbI zs), .int .i64 x3, .int .i64 0]) ∧ Below w.heap.size w w' := by
  obtain ⟨hl, a, cap, rfl, hcap⟩ := hR.form
  obtain ⟨b, off, rfl, -⟩ := hR.base (by omega)
  obtain ⟨n, hn⟩ : ∃ n, zs.length = n := ⟨_, rfl⟩
  have HR : Hid (Rl w (.slice (some ⟨b, off, none⟩) zs.length cap) zs) := hR
  have hw9 : Hid (∀ W, Calls Try.prog 9 #[.int .i64 (nbI zs), .int .i64 x3] W fun e w' => ∃ v, e = .returned (.tuple #[v, .int .i64 0]) ∧ Rd w' v (hdW (nbI zs) x3) ∧ Below W.heap.size W w') := fun W => by have := wordsR_any (nbI zs) x3 W; rwa [(wd_yes hc).1, (wd_yes hc).2] at this
  have H16 : Hid (16 ≤ zs.length) := show 16 ≤ _ by omega
  have hnb := nb_eq zs hn
  obtain ⟨H, hH⟩ : ∃ H, H = hdW (nbI zs) x3 := ⟨_, rfl⟩
  obtain ⟨T, hT⟩ : ∃ T, T = zs.take 16 := ⟨_, rfl⟩
  have HT : Hid (T = zs.take 16) := hT
  rw [← hH] at hw9 hd
  rw [← hT] at hd
  rw [hnb] at h1 hw9 ⊢
  rw [hn] at h32 hl hcap HR ⊢
  clear hc hnb hn hH hT hR
  have d1 : ¬ ((n : Int) < 32) := by omega
  have d2 : (1 : Int) < (n : Int) := by omega
  have d3 : (3 : Int) < (n : Int) := by omega
  have d4 : (16 : Int) ≤ (cap : Int) := by omega
  have d5 : (16 : Int) ≤ (n : Int) := by omega
  have R0 : Hid (Rl w.drew (.slice (some ⟨b, off, none⟩) n cap) zs) := show Rl _ _ _ from HR.out.below (Below.refl _ _).drew
  have S0 : Hid (S2 b off ((n : Int) / 16) x3 w.drew) := S2.of R0.out h1 h3
  have Hh1 : Hid (zs[1]? = some ((n : Int) / 16)) := h1
  have Hh3 : Hid (zs[3]? = some x3) := h3
  clear h1 h3
  go_enter Try.func11, Try.ntmps11
  go_wp2
  go_region_held3 (fun W2 => W2.cell? ⟨b, off + 1, none⟩ = some (.int .i64 ((n : Int) / 16)) ∧ W2.cell? ⟨b, off + 3, none⟩ = some (.int .i64 x3))
    (first | exact S0.out | exact S1.out)
    (first | (go_at_call 9; refine (hw9.out _).mono ?_; rintro e w1 ⟨v1, rfl, r1, hb1⟩; obtain ⟨_, a1, c1, rfl⟩ := r1.form; have S1 : Hid (S2 b off ((n : Int) / 16) x3 w1) := S2.of (R0.out.below hb1) Hh1.out Hh3.out))
  have R1 : Hid (Rl w1 (.slice (some ⟨b, off, none⟩) n cap) zs) := show Rl _ _ _ from R0.out.below hb1
  have B1 : Hid (Below w.heap.size w w1) := show Below _ _ _ from bstep (Below.refl _ _).drew hb1
  have T1 : Hid (Rd w1 (.slice (some ⟨b, off, none⟩) 16 cap) T) := show Rd _ _ _ by rw [HT.out]; exact R1.out.take 16 H16.out (by omega)
  have r1 : Hid (Rd w1 (.slice a1 H.length c1) H) := r1
  have c1' := S1.out.1
  have c3' := S1.out.2
  clear R0 S0 S1 hb1
  go_wp2_with (go_at_call 14; refine (numbers_any _ _ H T _ r1.out T1.out).mono ?_; rintro e w2 ⟨rfl, hb2⟩; rw [hd])
  have B2 := bstep B1.out hb2
  have R2 := R1.out.below hb2
  have e1 : ∀ p : BW w2, p.w.cell? ⟨b, off + 1, none⟩ = some (.int .i64 ((n : Int) / 16)) := fun p => (R2.below p.b).cell Hh1.out
  have e3 : ∀ p : BW w2, p.w.cell? ⟨b, off + 3, none⟩ = some (.int .i64 x3) := fun p => (R2.below p.b).cell Hh3.out
  refine wp_region_bw (by kernel_rfl) (by kernel_rfl) (fun hbw0 => ?_)
  repeat (refine QW.step (fun K hK => ?_); go_simp; first | (refine hK _ ?_; clear hK K))
  refine QW.nil ?_
  rintro ⟨w5, hb5⟩
  dsimp only
  go_wp2
  refine bodyPost_ret (results_tmp3 Try.results11 _ _ _) rfl ⟨rfl, bstep B2 hb5⟩

/-- What the document's Read tells of any words. -/
theorem readR_any (v : Value) (zs : List Int) (w : World) (hR : Rl w v zs) : Calls Try.prog 11 #[v] w fun e w' => e = .returned (.tuple #[.int .i64 (rdN zs), .int .i64 (rdR zs), .int .i64 (rdE zs)]) ∧ Below w.heap.size w w' := by
  by_cases h : zs.length < 32
  · obtain ⟨e1, e2, e3⟩ := rd_no (rdB_short h)
    rw [e1, e2, e3]
    exact readR_short v zs w hR h
  · obtain ⟨x1, h1⟩ : ∃ x, zs[1]? = some x := ⟨_, List.getElem?_eq_getElem (by omega)⟩
    obtain ⟨x3, h3⟩ : ∃ x, zs[3]? = some x := ⟨_, List.getElem?_eq_getElem (by omega)⟩
    have hrt : rtI zs = x3 := by unfold rtI; rw [List.getD_eq_getElem?_getD, h3]; rfl
    have ht1 : ∀ q, zs.take 16 = hdW q (rtI zs) → x1 = q := by
      intro q hq
      have e : (zs.take 16)[1]? = some x1 := by rw [List.getElem?_take, if_pos (by omega)]; exact h1
      rw [hq] at e
      exact (Option.some.inj e).symm
    have no : (rdB zs = true → False) → rdB zs = false := fun h => by cases e : rdB zs with | false => rfl | true => exact (h e).elim
    have yes : rdB zs = true → x1 = nbI zs ∧ mbB x1 x3 = true ∧ zs.take 16 = hdW (nbI zs) x3 := by
      intro hb
      unfold rdB at hb
      rw [Bool.and_eq_true, decide_eq_true_eq] at hb
      have e1 := ht1 _ hb.2
      rw [hrt] at hb
      exact ⟨e1, by rw [e1]; exact hb.1, hb.2⟩
    cases hc : mbB x1 x3 with
    | false =>
      obtain ⟨e1, e2, e3⟩ := rd_no (no fun hb => by have := (yes hb).2.1; rw [hc] at this; cases this)
      rw [e1, e2, e3]
      exact readR_err v zs x1 x3 w hR (by omega) h1 h3 hc
    | true =>
      by_cases hn : x1 = nbI zs
      · rw [hn] at h1 hc
        cases hd : decide (hdW (nbI zs) x3 = zs.take 16) with
        | false =>
          obtain ⟨e1, e2, e3⟩ := rd_no (no fun hb => of_decide_eq_false hd (yes hb).2.2.symm)
          rw [e1, e2, e3]
          exact readR_diff v zs x3 w hR (by omega) h1 h3 hc hd
        | true =>
          have hE := of_decide_eq_true hd
          obtain ⟨e1, e2, e3⟩ := rd_yes (show rdB zs = true by unfold rdB; rw [hrt, hc, decide_eq_true hE.symm]; rfl)
          rw [e1, e2, e3, hrt]
          exact readR_right v zs x3 w hR (by omega) h1 h3 hc hd
      · obtain ⟨e1, e2, e3⟩ := rd_no (no fun hb => hn (yes hb).1)
        rw [e1, e2, e3]
        exact readR_many v zs x1 x3 w hR (by omega) h1 h3 hc hn
end Go.Proofs.Ytmenkolceahebaa
