/- Set over from a lower layer: Supf. · Set over from a lower layer: Keynums. · Set over from a lower layer: Keywalka. -/
import Derived.Test.YtcgclhahonndbaaGreatSSumz
import Derived.Test.YtcgclhahonndbaaGreatRKeywalkc
import Derived.Test.YtcgclhahonndbaaGreatArf
import Derived.Test.YtcgclhahonndbaaGreatXNNoda
import Derived.Test.YtcgclhahonndbaaGreatBase
import Derived.Test.YtcgclhahonndbaaGreatXSSupc
import Derived.Laws.StructEq
import Derived.WalkMore
import Derived.ScopeJumps
import Derived.Test.YtcgclhahonndbaaGreatRKeywalka
import Derived.WalkKit
import Derived.Laws.BytesArg
import Derived.Deep.QuietTactic
import Derived.BigQuiet
import Derived.WalkSmall
import Derived.Laws.BitsAllLaws
import Derived.RangeFuncBox
import Derived.RangeFuncNested
import Derived.RangeFuncBound
import Derived.RangeFuncCalls
import Derived.RangeFuncLeaves
import Derived.Shelf.Abstract
import Derived.Shelf.RegionOpen
import Derived.OwnWalkIn
import Derived.TacticsInMore
import Derived.LoopNIn
import Derived.LoopIn
import Derived.Maps.AppendAt
import Derived.WalkSpells
import Derived.WalkLawsBesides
import Derived.LoopN
import Derived.Laws.AppendOwnNone
namespace Go.Proofs.YtcgclhahonndbaaGreat
open Go.RowKit Go.Shelf
set_option linter.unusedVariables false
def SS2 (b off : Nat) (x1 x3 : Int) (W : World) : Prop := W.cell? ⟨b, off + 1, none⟩ = some (.int .i64 x1) ∧ W.cell? ⟨b, off + 3, none⟩ = some (.int .i64 x3)
theorem SS2.of {W : World} {b off n c : Nat} {zs : List Int} {x1 x3 : Int} (h : Rl W (.slice (some ⟨b, off, none⟩) n c) zs) (h1 : zs[1]? = some x1) (h3 : zs[3]? = some x3) : SS2 b off x1 x3 W := ⟨h.cell h1, h.cell h3⟩
set_option maxRecDepth 100000 in
theorem readR_short (v : Value) (zs : List Int) (w : World) (hR : Rl w v zs) (h : zs.length < 32) : Calls Tryz.prog 46 #[v] w fun e w' => e = .returned (.tuple #[.int .i64 0, .int .i64 0, .int .i64 80]) ∧ Below w.heap.size w w' := by
  obtain ⟨hl, a, cap, rfl, hcap⟩ := hR.form
  obtain ⟨n, hn⟩ : ∃ n, zs.length = n := ⟨_, rfl⟩
  rw [hn] at h ⊢
  have h3 : (n : Int) < 32 := by omega
  clear hn hR hl hcap
  go_enter Tryz.func46, Tryz.ntmps46
  go_wp2
  refine bodyPost_ret (results_tmp3 Tryz.results46 _ _ _) rfl ⟨rfl, Below.refl _ _⟩
set_option maxRecDepth 100000 in
set_option maxHeartbeats 2000000 in
theorem readR_err (v : Value) (zs : List Int) (x1 x3 : Int) (w : World) (hR : Rl w v zs) (h32 : 32 ≤ zs.length) (h1 : zs[1]? = some x1) (h3 : zs[3]? = some x3) (hc : mbB x1 x3 = false) : Calls Tryz.prog 46 #[v] w fun e w' => e = .returned (.tuple #[.int .i64 0, .int .i64 0, .int .i64 80]) ∧ Below w.heap.size w w' := by
  obtain ⟨hl, a, cap, rfl, hcap⟩ := hR.form
  obtain ⟨b, off, rfl, -⟩ := hR.base (by omega)
  obtain ⟨n, hn⟩ : ∃ n, zs.length = n := ⟨_, rfl⟩
  have HR : Hid (Rl w (.slice (some ⟨b, off, none⟩) zs.length cap) zs) := hR
  have hw9 : Hid (∀ W, Calls Tryz.prog 73 #[.int .i64 x1, .int .i64 x3] W fun e w' => ∃ v, e = .returned (.tuple #[v, .int .i64 1]) ∧ Rd w' v [] ∧ Below W.heap.size W w') := fun W => by have := wordsR_any x1 x3 W; rwa [(wd_no hc).1, (wd_no hc).2] at this
  have h16 : 16 ≤ zs.length := by omega
  have hnb := nb_eq zs hn
  rw [hn] at h32 hl hcap HR ⊢
  have d1 : ¬ ((n : Int) < 32) := by omega
  have d2 : (1 : Int) < (n : Int) := by omega
  have d3 : (3 : Int) < (n : Int) := by omega
  have d4 : (16 : Int) ≤ (cap : Int) := by omega
  have R0 : Hid (Rl w.drew (.slice (some ⟨b, off, none⟩) n cap) zs) := show Rl _ _ _ from HR.out.below (Below.refl _ _).drew
  have S0 : Hid (SS2 b off x1 x3 w.drew) := SS2.of R0.out h1 h3
  clear hnb hn
  go_enter Tryz.func46, Tryz.ntmps46
  go_wp2
  go_region_held3 (fun W2 => W2.cell? ⟨b, off + 1, none⟩ = some (.int .i64 x1) ∧ W2.cell? ⟨b, off + 3, none⟩ = some (.int .i64 x3))
    (first | exact S0.out | exact S1.out)
    (first | (go_at_call 73; refine (hw9.out _).mono ?_; rintro e w1 ⟨v1, rfl, r1, hb1⟩; obtain ⟨_, a1, c1, rfl⟩ := r1.form; have S1 : Hid (SS2 b off x1 x3 w1) := SS2.of (R0.out.below hb1) h1 h3))
  have R1 : Hid (Rl w1 (.slice (some ⟨b, off, none⟩) n cap) zs) := show Rl _ _ _ from R0.out.below hb1
  have B1 : Hid (Below w.heap.size w w1) := show Below _ _ _ from bstep (Below.refl _ _).drew hb1
  have c1' := S1.out.1
  have c3' := S1.out.2
  clear R0 S0 S1 hb1
  go_wp2
  refine bodyPost_ret (results_tmp3 Tryz.results46 _ _ _) rfl ⟨rfl, B1.out⟩
set_option maxRecDepth 100000 in
set_option maxHeartbeats 2000000 in
theorem readR_many (v : Value) (zs : List Int) (x1 x3 : Int) (w : World) (hR : Rl w v zs) (h32 : 32 ≤ zs.length) (h1 : zs[1]? = some x1) (h3 : zs[3]? = some x3) (hc : mbB x1 x3 = true) (hne : x1 ≠ nbI zs) : Calls Tryz.prog 46 #[v] w fun e w' => e = .returned (.tuple #[.int .i64 0, .int .i64 0, .int .i64 80]) ∧ Below w.heap.size w w' := by
  obtain ⟨hl, a, cap, rfl, hcap⟩ := hR.form
  obtain ⟨b, off, rfl, -⟩ := hR.base (by omega)
  obtain ⟨n, hn⟩ : ∃ n, zs.length = n := ⟨_, rfl⟩
  have HR : Hid (Rl w (.slice (some ⟨b, off, none⟩) zs.length cap) zs) := hR
  have hw9 : Hid (∀ W, Calls Tryz.prog 73 #[.int .i64 x1, .int .i64 x3] W fun e w' => ∃ v, e = .returned (.tuple #[v, .int .i64 0]) ∧ Rd w' v (hdW x1 x3) ∧ Below W.heap.size W w') := fun W => by have := wordsR_any x1 x3 W; rwa [(wd_yes hc).1, (wd_yes hc).2] at this
  have h16 : 16 ≤ zs.length := by omega
  have hnb := nb_eq zs hn
  rw [hn] at h32 hl hcap HR ⊢
  have d1 : ¬ ((n : Int) < 32) := by omega
  have d2 : (1 : Int) < (n : Int) := by omega
  have d3 : (3 : Int) < (n : Int) := by omega
  have d4 : (16 : Int) ≤ (cap : Int) := by omega
  have R0 : Hid (Rl w.drew (.slice (some ⟨b, off, none⟩) n cap) zs) := show Rl _ _ _ from HR.out.below (Below.refl _ _).drew
  have S0 : Hid (SS2 b off x1 x3 w.drew) := SS2.of R0.out h1 h3
  rw [hnb] at hne
  have hne' : (x1 != (n : Int) / 16) = true := by simpa using hne
  clear hnb hn hne
  go_enter Tryz.func46, Tryz.ntmps46
  go_wp2
  go_region_held3 (fun W2 => W2.cell? ⟨b, off + 1, none⟩ = some (.int .i64 x1) ∧ W2.cell? ⟨b, off + 3, none⟩ = some (.int .i64 x3))
    (first | exact S0.out | exact S1.out)
    (first | (go_at_call 73; refine (hw9.out _).mono ?_; rintro e w1 ⟨v1, rfl, r1, hb1⟩; obtain ⟨_, a1, c1, rfl⟩ := r1.form; have S1 : Hid (SS2 b off x1 x3 w1) := SS2.of (R0.out.below hb1) h1 h3))
  have R1 : Hid (Rl w1 (.slice (some ⟨b, off, none⟩) n cap) zs) := show Rl _ _ _ from R0.out.below hb1
  have B1 : Hid (Below w.heap.size w w1) := show Below _ _ _ from bstep (Below.refl _ _).drew hb1
  have c1' := S1.out.1
  have c3' := S1.out.2
  clear R0 S0 S1 hb1
  go_wp2
  refine bodyPost_ret (results_tmp3 Tryz.results46 _ _ _) rfl ⟨rfl, B1.out⟩
set_option maxRecDepth 100000 in
set_option maxHeartbeats 2000000 in
theorem readR_diff (v : Value) (zs : List Int) (x3 : Int) (w : World) (hR : Rl w v zs) (h32 : 32 ≤ zs.length) (h1 : zs[1]? = some (nbI zs)) (h3 : zs[3]? = some x3) (hc : mbB (nbI zs) x3 = true) (hd : decide (hdW (nbI zs) x3 = zs.take 16) = false) : Calls Tryz.prog 46 #[v] w fun e w' => e = .returned (.tuple #[.int .i64 0, .int .i64 0, .int .i64 80]) ∧ Below w.heap.size w w' := by
  obtain ⟨hl, a, cap, rfl, hcap⟩ := hR.form
  obtain ⟨b, off, rfl, -⟩ := hR.base (by omega)
  obtain ⟨n, hn⟩ : ∃ n, zs.length = n := ⟨_, rfl⟩
  have HR : Hid (Rl w (.slice (some ⟨b, off, none⟩) zs.length cap) zs) := hR
  have hw9 : Hid (∀ W, Calls Tryz.prog 73 #[.int .i64 (nbI zs), .int .i64 x3] W fun e w' => ∃ v, e = .returned (.tuple #[v, .int .i64 0]) ∧ Rd w' v (hdW (nbI zs) x3) ∧ Below W.heap.size W w') := fun W => by have := wordsR_any (nbI zs) x3 W; rwa [(wd_yes hc).1, (wd_yes hc).2] at this
  have H16 : Hid (16 ≤ zs.length) := show 16 ≤ _ by omega
  have hnb := nb_eq zs hn
  obtain ⟨H, hH⟩ : ∃ H, H = hdW (nbI zs) x3 := ⟨_, rfl⟩
  obtain ⟨T, hT⟩ : ∃ T, T = zs.take 16 := ⟨_, rfl⟩
  have HT : Hid (T = zs.take 16) := hT
  rw [← hH] at hw9 hd
  rw [← hT] at hd
  rw [hnb] at h1 hw9
  rw [hn] at h32 hl hcap HR ⊢
  clear hc hnb hn hH hT hR
  have d1 : ¬ ((n : Int) < 32) := by omega
  have d2 : (1 : Int) < (n : Int) := by omega
  have d3 : (3 : Int) < (n : Int) := by omega
  have d4 : (16 : Int) ≤ (cap : Int) := by omega
  have d5 : (16 : Int) ≤ (n : Int) := by omega
  have R0 : Hid (Rl w.drew (.slice (some ⟨b, off, none⟩) n cap) zs) := show Rl _ _ _ from HR.out.below (Below.refl _ _).drew
  have S0 : Hid (SS2 b off ((n : Int) / 16) x3 w.drew) := SS2.of R0.out h1 h3
  have Hh1 : Hid (zs[1]? = some ((n : Int) / 16)) := h1
  have Hh3 : Hid (zs[3]? = some x3) := h3
  clear h1 h3
  go_enter Tryz.func46, Tryz.ntmps46
  go_wp2
  go_region_held3 (fun W2 => W2.cell? ⟨b, off + 1, none⟩ = some (.int .i64 ((n : Int) / 16)) ∧ W2.cell? ⟨b, off + 3, none⟩ = some (.int .i64 x3))
    (first | exact S0.out | exact S1.out)
    (first | (go_at_call 73; refine (hw9.out _).mono ?_; rintro e w1 ⟨v1, rfl, r1, hb1⟩; obtain ⟨_, a1, c1, rfl⟩ := r1.form; have S1 : Hid (SS2 b off ((n : Int) / 16) x3 w1) := SS2.of (R0.out.below hb1) Hh1.out Hh3.out))
  have R1 : Hid (Rl w1 (.slice (some ⟨b, off, none⟩) n cap) zs) := show Rl _ _ _ from R0.out.below hb1
  have B1 : Hid (Below w.heap.size w w1) := show Below _ _ _ from bstep (Below.refl _ _).drew hb1
  have T1 : Hid (Rd w1 (.slice (some ⟨b, off, none⟩) 16 cap) T) := show Rd _ _ _ by rw [HT.out]; exact R1.out.take 16 H16.out (by omega)
  have r1 : Hid (Rd w1 (.slice a1 H.length c1) H) := r1
  have c1' := S1.out.1
  have c3' := S1.out.2
  clear R0 S0 S1 hb1
  go_wp2_with (go_at_call 72; refine (numbers_any _ _ H T _ r1.out T1.out).mono ?_; rintro e w2 ⟨rfl, hb2⟩; rw [hd])
  refine bodyPost_ret (results_tmp3 Tryz.results46 _ _ _) rfl ⟨rfl, bstep B1.out hb2⟩
set_option maxRecDepth 100000 in
set_option maxHeartbeats 2000000 in
theorem readR_right (v : Value) (zs : List Int) (x3 : Int) (w : World) (hR : Rl w v zs) (h32 : 32 ≤ zs.length) (h1 : zs[1]? = some (nbI zs)) (h3 : zs[3]? = some x3) (hc : mbB (nbI zs) x3 = true) (hd : decide (hdW (nbI zs) x3 = zs.take 16) = true) : Calls Tryz.prog 46 #[v] w fun e w' => e = .returned (.tuple #[.int .i64 (nbI zs), .int .i64 x3, .int .i64 0]) ∧ Below w.heap.size w w' := by
  obtain ⟨hl, a, cap, rfl, hcap⟩ := hR.form
  obtain ⟨b, off, rfl, -⟩ := hR.base (by omega)
  obtain ⟨n, hn⟩ : ∃ n, zs.length = n := ⟨_, rfl⟩
  have HR : Hid (Rl w (.slice (some ⟨b, off, none⟩) zs.length cap) zs) := hR
  have hw9 : Hid (∀ W, Calls Tryz.prog 73 #[.int .i64 (nbI zs), .int .i64 x3] W fun e w' => ∃ v, e = .returned (.tuple #[v, .int .i64 0]) ∧ Rd w' v (hdW (nbI zs) x3) ∧ Below W.heap.size W w') := fun W => by have := wordsR_any (nbI zs) x3 W; rwa [(wd_yes hc).1, (wd_yes hc).2] at this
  have H16 : Hid (16 ≤ zs.length) := show 16 ≤ _ by omega
  have hnb := nb_eq zs hn
  obtain ⟨H, hH⟩ : ∃ H, H = hdW (nbI zs) x3 := ⟨_, rfl⟩
  obtain ⟨T, hT⟩ : ∃ T, T = zs.take 16 := ⟨_, rfl⟩
  have HT : Hid (T = zs.take 16) := hT
  rw [← hH] at hw9 hd
  rw [← hT] at hd
  rw [hnb] at h1 hw9 ⊢
  rw [hn] at h32 hl hcap HR ⊢
  clear hc hnb hn hH hT hR
  have d1 : ¬ ((n : Int) < 32) := by omega
  have d2 : (1 : Int) < (n : Int) := by omega
  have d3 : (3 : Int) < (n : Int) := by omega
  have d4 : (16 : Int) ≤ (cap : Int) := by omega
  have d5 : (16 : Int) ≤ (n : Int) := by omega
  have R0 : Hid (Rl w.drew (.slice (some ⟨b, off, none⟩) n cap) zs) := show Rl _ _ _ from HR.out.below (Below.refl _ _).drew
  have S0 : Hid (SS2 b off ((n : Int) / 16) x3 w.drew) := SS2.of R0.out h1 h3
  have Hh1 : Hid (zs[1]? = some ((n : Int) / 16)) := h1
  have Hh3 : Hid (zs[3]? = some x3) := h3
  clear h1 h3
  go_enter Tryz.func46, Tryz.ntmps46
  go_wp2
  go_region_held3 (fun W2 => W2.cell? ⟨b, off + 1, none⟩ = some (.int .i64 ((n : Int) / 16)) ∧ W2.cell? ⟨b, off + 3, none⟩ = some (.int .i64 x3))
    (first | exact S0.out | exact S1.out)
    (first | (go_at_call 73; refine (hw9.out _).mono ?_; rintro e w1 ⟨v1, rfl, r1, hb1⟩; obtain ⟨_, a1, c1, rfl⟩ := r1.form; have S1 : Hid (SS2 b off ((n : Int) / 16) x3 w1) := SS2.of (R0.out.below hb1) Hh1.out Hh3.out))
  have R1 : Hid (Rl w1 (.slice (some ⟨b, off, none⟩) n cap) zs) := show Rl _ _ _ from R0.out.below hb1
  have B1 : Hid (Below w.heap.size w w1) := show Below _ _ _ from bstep (Below.refl _ _).drew hb1
  have T1 : Hid (Rd w1 (.slice (some ⟨b, off, none⟩) 16 cap) T) := show Rd _ _ _ by rw [HT.out]; exact R1.out.take 16 H16.out (by omega)
  have r1 : Hid (Rd w1 (.slice a1 H.length c1) H) := r1
  have c1' := S1.out.1
  have c3' := S1.out.2
  clear R0 S0 S1 hb1
  go_wp2_with (go_at_call 72; refine (numbers_any _ _ H T _ r1.out T1.out).mono ?_; rintro e w2 ⟨rfl, hb2⟩; rw [hd])
  have B2 := bstep B1.out hb2
  have R2 := R1.out.below hb2
  have e1 : ∀ p : BW w2, p.w.cell? ⟨b, off + 1, none⟩ = some (.int .i64 ((n : Int) / 16)) := fun p => (R2.below p.b).cell Hh1.out
  have e3 : ∀ p : BW w2, p.w.cell? ⟨b, off + 3, none⟩ = some (.int .i64 x3) := fun p => (R2.below p.b).cell Hh3.out
  refine wp_region_bw (by kernel_rfl) (by kernel_rfl) (fun hbw0 => ?_)
  repeat (refine QW.step (fun K hK => ?_); go_simp; first | (refine hK _ ?_; clear hK K))
  refine QW.nil ?_
  rintro ⟨w5, hb5⟩
  dsimp only
  go_wp2
  refine bodyPost_ret (results_tmp3 Tryz.results46 _ _ _) rfl ⟨rfl, bstep B2 hb5⟩
/-- What the document's Read tells of any words. -/
theorem SreadR_any (v : Value) (zs : List Int) (w : World) (hR : Rl w v zs) : Calls Tryz.prog 46 #[v] w fun e w' => e = .returned (.tuple #[.int .i64 (rdN zs), .int .i64 (rdR zs), .int .i64 (rdE zs)]) ∧ Below w.heap.size w w' := by
  by_cases h : zs.length < 32
  · obtain ⟨e1, e2, e3⟩ := rd_no (rdB_short h)
    rw [e1, e2, e3]
    exact readR_short v zs w hR h
  · obtain ⟨x1, h1⟩ : ∃ x, zs[1]? = some x := ⟨_, List.getElem?_eq_getElem (by omega)⟩
    obtain ⟨x3, h3⟩ : ∃ x, zs[3]? = some x := ⟨_, List.getElem?_eq_getElem (by omega)⟩
    have hrt : rtI zs = x3 := by unfold rtI; rw [List.getD_eq_getElem?_getD, h3]; rfl
    have ht1 : ∀ q, zs.take 16 = hdW q (rtI zs) → x1 = q := by
      intro q hq
      have e : (zs.take 16)[1]? = some x1 := by rw [List.getElem?_take, if_pos (by omega)]; exact h1
      rw [hq] at e
      exact (Option.some.inj e).symm
    have no : (rdB zs = true → False) → rdB zs = false := fun h => by cases e : rdB zs with | false => rfl | true => exact (h e).elim
    have yes : rdB zs = true → x1 = nbI zs ∧ mbB x1 x3 = true ∧ zs.take 16 = hdW (nbI zs) x3 := by
      intro hb
      unfold rdB at hb
      rw [Bool.and_eq_true, decide_eq_true_eq] at hb
      have e1 := ht1 _ hb.2
      rw [hrt] at hb
      exact ⟨e1, by rw [e1]; exact hb.1, hb.2⟩
    cases hc : mbB x1 x3 with
    | false =>
      obtain ⟨e1, e2, e3⟩ := rd_no (no fun hb => by have := (yes hb).2.1; rw [hc] at this; cases this)
      rw [e1, e2, e3]
      exact readR_err v zs x1 x3 w hR (by omega) h1 h3 hc
    | true =>
      by_cases hn : x1 = nbI zs
      · rw [hn] at h1 hc
        cases hd : decide (hdW (nbI zs) x3 = zs.take 16) with
        | false =>
          obtain ⟨e1, e2, e3⟩ := rd_no (no fun hb => of_decide_eq_false hd (yes hb).2.2.symm)
          rw [e1, e2, e3]
          exact readR_diff v zs x3 w hR (by omega) h1 h3 hc hd
        | true =>
          have hE := of_decide_eq_true hd
          obtain ⟨e1, e2, e3⟩ := rd_yes (show rdB zs = true by unfold rdB; rw [hrt, hc, decide_eq_true hE.symm]; rfl)
          rw [e1, e2, e3, hrt]
          exact readR_right v zs x3 w hR (by omega) h1 h3 hc hd
      · obtain ⟨e1, e2, e3⟩ := rd_no (no fun hb => hn (yes hb).1)
        rw [e1, e2, e3]
        exact readR_many v zs x1 x3 w hR (by omega) h1 h3 hc hn
end Go.Proofs.YtcgclhahonndbaaGreat
namespace Go.Proofs.YtcgclhahonndbaaGreat.Ky
theorem byt_ext (l m : List UInt8) (hl : l.length = m.length) (h : ∀ i, i < l.length → byt l i = byt m i) : l = m := by
  apply List.ext_getElem hl
  intro i h1 h2
  have := h i h1
  rw [byt_in l i h1, byt_in m i h2] at this
  exact UInt8.toNat_inj.1 (by omega)
theorem wUp_succ (l : List UInt8) (k : Nat) : wUp l (k + 1) = wUp l k ++ [wAt l k] := by simp [wUp, List.range_succ]
theorem wsl_get (l : List UInt8) (i : Nat) (h : i < nW l.length) : (wsl l)[i]? = some (wAt l i) := by
  unfold wsl wUp; rw [List.getElem?_map, List.getElem?_range h]; rfl
theorem bt_bd (w : Int) (j : Nat) : 0 ≤ bt w j ∧ bt w j < 256 := by unfold bt; omega
theorem lt7 {j : Nat} (h : j < 7) : j = 0 ∨ j = 1 ∨ j = 2 ∨ j = 3 ∨ j = 4 ∨ j = 5 ∨ j = 6 := by omega
theorem w7_7 (f : Nat → Int) : w7 f 7 = ((((((f 0 * 256 + f 1) * 256 + f 2) * 256 + f 3) * 256 + f 4) * 256 + f 5) * 256 + f 6) := by
  simp [w7]
theorem bt_w7 (f : Nat → Int) (h : ∀ j, 0 ≤ f j ∧ f j < 256) (j : Nat) (hj : j < 7) : bt (w7 f 7) j = f j := by
  rw [w7_7]
  have h0 := h 0; have h1 := h 1; have h2 := h 2; have h3 := h 3; have h4 := h 4; have h5 := h 5; have h6 := h 6
  unfold bt
  rcases lt7 hj with rfl | rfl | rfl | rfl | rfl | rfl | rfl <;> simp only [Nat.reduceSub, Nat.reduceMul, Int.reducePow] <;> omega
theorem txB_get (l : List Int) : ∀ (i j : Nat) (h : i < l.length), j < 7 → (txB l)[7 * i + j]? = some (bt l[i] j) := by
  induction l with
  | nil => intro i j h; simp at h
  | cons w l ih =>
    intro i j h hj
    show (bUp w 7 ++ txB l)[7 * i + j]? = _
    cases i with
    | zero =>
      rw [List.getElem?_append_left (by rw [bUp_length]; omega)]
      unfold bUp
      rw [Nat.mul_zero, Nat.zero_add, List.getElem?_map, List.getElem?_range hj]; rfl
    | succ i =>
      rw [List.getElem?_append_right (by rw [bUp_length]; omega), bUp_length, show 7 * (i + 1) + j - 7 = 7 * i + j by omega]
      rw [ih i j (by simpa using h) hj]; rfl
theorem byte_nat (x : Int) (h : 0 ≤ x ∧ x < 256) : ((UInt8.ofNat x.toNat).toNat : Int) = x := by
  rw [UInt8.toNat_ofNat']; omega
theorem txL_byt (l : List Int) (n i j : Nat) (h : i < l.length) (hj : j < 7) (hn : 7 * i + j < n) : byt (txL l n) (7 * i + j) = bt l[i] j := by
  unfold byt txL tx
  rw [strOfNums_data, List.getElem?_map, List.getElem?_take, if_pos hn, txB_get l i j h hj]
  exact byte_nat _ (bt_bd _ _)
/-- A text's words are turned to it again. -/
theorem tx_wsl (s : List UInt8) : txL (wsl s) s.length = s := by
  apply byt_ext
  · rw [txL_length, wsl_length]; unfold nW; omega
  · intro p hp
    rw [txL_length, wsl_length] at hp
    have hi : p / 7 < nW s.length := by unfold nW at *; omega
    have e : p = 7 * (p / 7) + p % 7 := by omega
    have hg := wsl_get s (p / 7) hi
    have hl : p / 7 < (wsl s).length := by rw [wsl_length]; exact hi
    rw [e, txL_byt (wsl s) s.length (p / 7) (p % 7) hl (by omega) (by omega)]
    rw [List.getElem?_eq_getElem hl] at hg
    rw [Option.some.inj hg]
    exact bt_w7 _ (fun _ => byt_bd _ _) _ (by omega)
theorem tx_of (s : ByteArray) : tx (wsl s.data.toList) s.size = s := ba_ext (by
  have := tx_wsl s.data.toList
  rwa [show s.data.toList.length = s.size from by simp] at this)
theorem okT_of (s : ByteArray) : okT (wsl s.data.toList) (s.size : Int) = true := by
  have := tx_wsl s.data.toList
  rw [show s.data.toList.length = s.size from by simp] at this
  refine decide_eq_true ⟨by omega, ?_, ?_⟩
  · rw [wsl_length, Int.toNat_natCast]; simp
  · rw [Int.toNat_natCast, this]
end Go.Proofs.YtcgclhahonndbaaGreat.Ky
namespace Go.Proofs.YtcgclhahonndbaaGreat.Ky
open Go.RowKit
theorem checkR_any (s : ByteArray) (w : World) : Calls Tryz.prog 121 #[.string s] w fun e w' => e = .returned (.bool (chk s)) ∧ w' = w := by
  unfold chk
  by_cases h : (s.size : Int) ≥ 1
  · go_enter Tryz.func121, Tryz.ntmps121
    go_wp2
    go_ret
    exact ⟨ret_bool (by first | exact (decide_eq_false (by omega)).symm | (rw [decide_eq_decide]; omega)), rfl⟩
  · go_enter Tryz.func121, Tryz.ntmps121
    go_wp2
    go_ret
    exact ⟨ret_bool (by first | exact (decide_eq_false (by omega)).symm | (rw [decide_eq_false (show ¬ 1 ≤ s.size by omega)]; rfl)), rfl⟩
theorem checkVR_any (s : ByteArray) (w : World) : Calls Tryz.prog 122 #[.string s] w fun e w' => e = .returned (.bool (chkV s)) ∧ w' = w := by
  unfold chkV
  go_enter Tryz.func122, Tryz.ntmps122
  go_wp2
  go_ret
  exact ⟨ret_bool (by rw [decide_eq_decide]; omega), rfl⟩
set_option maxRecDepth 100000 in
set_option maxHeartbeats 1000000 in
theorem numbers_any (u v : Value) (zs ys : List Int) (w : World) (hu : Rd w u zs) (hv : Rd w v ys) : Calls Tryz.prog 72 #[u, v] w fun e w' => e = .returned (.bool (decide (zs = ys))) ∧ Below w.heap.size w w' := by
  have hu' := hu
  have hv' := hv
  obtain ⟨zb, zl, a, cap, rfl, ha⟩ := hu
  obtain ⟨yb, yl, a2, cap2, rfl, ha2⟩ := hv
  clear ha ha2
  by_cases hl : zs.length = ys.length
  · have hl2 : ((zs.length : Int) != (ys.length : Int)) = false := by simp [hl]
    have Hl : Hid (zs.length = ys.length) := hl
    clear hl
    go_enter Tryz.func72, Tryz.ntmps72
    go_wp2
    go_loopw [5] (fun i w1 => ∃ k : Nat, k ≤ zs.length ∧ i = .int .i64 k ∧ zs.take k = ys.take k ∧ Below w.heap.size w w1) (fun i _ => zs.length - (Go.RowKit.intOf i).toNat)
    case atStart => exact ⟨0, Nat.zero_le _, rfl, rfl, Below.refl _ _⟩
    case round =>
      obtain ⟨k, hk, rfl, ht, hbel⟩ := hrel
      by_cases hlt : k < zs.length
      · have hlt2 : k < ys.length := by have := Hl.out; omega
        obtain ⟨b, off, rfl, hc⟩ := (hu'.below hbel).at k hlt
        obtain ⟨b2, off2, rfl, hc2⟩ := (hv'.below hbel).at k hlt2
        have Ht : Hid (zs.take k = ys.take k) := ht
        clear ht
        by_cases hne : zs[k] = ys[k]
        · have hne2 : (zs[k] != ys[k]) = false := by simpa using hne
          have Hn : Hid (zs.take (k + 1) = ys.take (k + 1)) := by rw [List.take_succ_eq_append_getElem hlt, List.take_succ_eq_append_getElem hlt2, Ht.out, hne]; exact rfl
          clear hne
          go_wp2
          go_quiet (fail)
          go_wp2
          go_roundw
          case rel => exact ⟨k + 1, by omega, by go_num, Hn.out, below_drewN hbel _⟩
          case measure => simp [Go.RowKit.intOf]; omega
        · have hne2 : (zs[k] != ys[k]) = true := by simpa using hne
          have Hn : Hid (decide (zs = ys) = false) := decide_eq_false (fun e => hne (by subst e; rfl))
          go_wp2
          go_quiet (fail)
          go_wp2
          go_ret
          exact ⟨ret_bool Hn.out.symm, below_drewN hbel _⟩
      · have hkk : k = zs.length := by omega
        have Hn : Hid (decide (zs = ys) = true) := decide_eq_true (by rw [List.take_of_length_le (by omega), List.take_of_length_le (by have := Hl.out; omega)] at ht; exact ht)
        clear ht
        go_wp2
        go_ret
        exact ⟨ret_bool Hn.out.symm, hbel⟩
  · have hl2 : ((zs.length : Int) != (ys.length : Int)) = true := by simp; omega
    go_enter Tryz.func72, Tryz.ntmps72
    go_wp2
    go_ret
    exact ⟨ret_bool (decide_eq_false (fun e => hl (by rw [e]))).symm, Below.refl _ _⟩
end Go.Proofs.YtcgclhahonndbaaGreat.Ky
namespace Go.Proofs.YtcgclhahonndbaaGreat.Ky
open Go.RowKit Go.Shelf
attribute [local go_sem] Oper.semAt_some
end Go.Proofs.YtcgclhahonndbaaGreat.Ky
