/- Layer 11: the walk of ArenaRoots. -/
import Derived.Test.YtgcdhenbpkcmgaaLawa
namespace Go.Proofs.Ytgcdhenbpkcmgaa
open Go.RowKit Go.Shelf
set_option linter.unusedVariables false

theorem wf_u8 {z : Int} (h : (Lit.int .u8 z).wf = true) : ∃ n : Nat, z = (n : Int) ∧ n < 256 := by
  simp [Lit.wf, IntKind.min, IntKind.max, IntKind.bits, IntKind.signed] at h
  exact ⟨z.toNat, by omega, by omega⟩

set_option maxRecDepth 100000 in
set_option maxHeartbeats 2000000 in
theorem walk_ArenaRoots (a1 : Option Addr) (len1 cap1 : Nat) (r : Int) (w : World) (h1 : RowIn w a1 len1 cap1) (fr : (Lit.int .u8 r).wf = true) :
    Calls Try.prog 8 #[.slice a1 len1 cap1, .int .u8 r] w fun e w' => e = .returned (.bool true) ∧ Below w.heap.size w w' := by
  obtain ⟨n, rfl, hn9⟩ := wf_u8 fr
  clear fr
  have hwn : IntKind.i64.wrap (n : Int) = (n : Int) := by rw [IntKind.wrap_i64]; omega
  by_cases g1 : (len1 : Int) > 1000
  · clear h1
    go_enter Try.func8, Try.ntmps8
    go_wp2_with (go_at_call 9; refine (awake_any _).mono ?_; rintro e w1 ⟨rfl, hb1⟩)
    go_ret
    exact ⟨ret_bool rfl, hb1⟩
  by_cases g2 : (len1 : Int) < 32
  · clear h1
    go_enter Try.func8, Try.ntmps8
    go_wp2_with (go_at_call 9; refine (awake_any _).mono ?_; rintro e w1 ⟨rfl, hb1⟩)
    go_ret
    exact ⟨ret_bool rfl, hb1⟩
  by_cases g3 : (n : Int) < 1
  · clear h1
    go_enter Try.func8, Try.ntmps8
    go_wp2_with (go_at_call 9; refine (awake_any _).mono ?_; rintro e w1 ⟨rfl, hb1⟩)
    go_ret
    exact ⟨ret_bool rfl, hb1⟩
  have hq : IntKind.i64.wrap ((len1 : Int) / 16) = (len1 : Int) / 16 := by rw [IntKind.wrap_i64]; omega
  by_cases g4 : (len1 : Int) / 16 ≤ (n : Int)
  · clear h1
    go_enter Try.func8, Try.ntmps8
    go_wp2_with (go_at_call 9; refine (awake_any _).mono ?_; rintro e w1 ⟨rfl, hb1⟩)
    go_ret
    exact ⟨ret_bool rfl, hb1⟩
  obtain ⟨zs, rfl, R1, F1⟩ := h1 (by omega)
  have F1 : Fits zs := F1
  have HR : Hid (Rl w (.slice a1 zs.length cap1) zs) := R1
  have H9 : Hid (zs.length ≤ 1000) := show zs.length ≤ 1000 by omega
  have hn0 : 0 < zs.length := by omega
  have h3l : (3 : Int) < (zs.length : Int) := by omega
  obtain ⟨y, hy⟩ : ∃ y, zs[3]? = some y := ⟨_, List.getElem?_eq_getElem (by omega)⟩
  have HY : Hid (zs[3]? = some y) := hy
  have Hr : Hid (1 ≤ (n : Int) ∧ (n : Int) < nbI zs) := show _ ∧ _ by unfold nbI; omega
  have hl3 : (zs.set 3 (n : Int)).length = zs.length := List.length_set ..
  have hl1 : (zs.set 3 (1 : Int)).length = zs.length := List.length_set ..
  have FY : Fits (zs.set 3 (n : Int)) := fits_set F1 3 _ (by omega)
  have FB : Fits (zs.set 3 (1 : Int)) := fits_set F1 3 _ (by omega)
  clear h1 R1 hy
  cases hs : sndB zs with
  | false =>
    have K13 : Hid (∀ v W, Rl W v zs → Calls Try.prog 13 #[v] W fun e w' => e = .returned (.int .i64 110) ∧ Below W.heap.size W w') := (told_no hs F1).2
    have K11 : Hid (∀ v W, Rl W v zs → Calls Try.prog 11 #[v] W fun e w' => ∃ v', e = .returned (.tuple #[v', .int .i64 (lvE zs)]) ∧ Rd w' v' (lvL zs) ∧ Below W.heap.size W w') := told_leaves
    obtain ⟨ys, hys⟩ : ∃ ys, ys = zs.set 3 (n : Int) := ⟨_, rfl⟩
    rw [← hys] at hl3
    have Hys : Hid (ys = zs.set 3 (n : Int)) := hys
    have Hl3 : Hid (ys.length = zs.length) := hl3
    have K11y : Hid (∀ v W, Rl W v ys → Calls Try.prog 11 #[v] W fun e w' => ∃ v', e = .returned (.tuple #[v', .int .i64 (lvE ys)]) ∧ Rd w' v' (lvL ys) ∧ Below W.heap.size W w') := told_leaves
    have t1 : Hid (0 = 0) := rfl
    clear hs F1 FY FB hl3 hl1 hys
    go_enter Try.func8, Try.ntmps8
    go_wp2_with (first
      | (go_at_call 9; refine (awake_any _).mono ?_; rintro e w1 ⟨rfl, hb1⟩; have B1 : Hid (Below w.heap.size w w1) := hb1; have N1 : Hid (Below w1.heap.size w1 (w1.alloc (.cells #[] 3))) := below_new w1 _; clear hb1)
      | (at_builtin; refine append_own_rd rfl (.tmp 40) (.tmp 41) rfl w1.heap.size (.slice (some ⟨w1.heap.size, 0, none⟩) 0 0) [] rfl (own_none w1 (Nat.le_refl _)) (.slice a1 zs.length cap1) zs rfl ((HR.out.below (bstep B1.out N1.out)).rd H9.out) (by simp) (by simp) zs rfl ?_; intro a8 c8 w8 o8 b8; obtain ⟨g, c8', e8, hbg⟩ := own_slot o8 hn0; cases e8; obtain ⟨cK, fK, hset⟩ := OwnI.at o8 HY.out; have HS : Hid (Rl (w8.setCell ⟨g, 3, none⟩ (.int .i64 (n : Int))) (.slice (some ⟨g, 0, none⟩) zs.length c8) ys) := (by show Rl _ _ _; have := (hset (n : Int)); rw [← Hys.out] at this; exact (this.rd (by rw [Hl3.out]; exact H9.out)).rl); have B8 : Hid (Below w1.heap.size w1 (w8.setCell ⟨g, 3, none⟩ (.int .i64 (n : Int)))) := (N1.out.trans b8).setCell (p := ⟨g, 3, none⟩) hbg _; clear o8 b8 hset)
      | (clear t1; go_at_call 11; refine (K11.out _ _ (HR.out.below (bstep B1.out B8.out))).mono ?_; rintro e w3 ⟨v3, rfl, r3, hb3⟩; have B3 : Hid (Below _ _ w3) := hb3; clear r3 hb3)
      | (go_at_call 11; refine (K11y.out _ _ (HS.out.below B3.out)).mono ?_; rintro e w4 ⟨v4, rfl, r4, hb4⟩; have B4 : Hid (Below w.heap.size w w4) := bstep B1.out (bstep B8.out (bstep B3.out hb4)); clear r4 hb4)
      | (go_at_call 13; refine (K13.out _ _ (HR.out.below B4.out)).mono ?_; rintro e w5 ⟨rfl, hb5⟩; have B5 : Hid (Below w.heap.size w w5) := bstep B4.out hb5; clear hb5))
    go_ret
    exact ⟨ret_bool rfl, B5.out⟩
  | true =>
    obtain ⟨L, hL⟩ := snd_leaves hs
    have HL9 : Hid (L.length ≤ 1000) := show L.length ≤ 1000 by
      have := lvL_ok (zs := zs)
      rw [show lvL zs = L by unfold lvL; rw [hL]; rfl] at this
      omega
    have K13 : Hid (∀ v W, Rl W v zs → Calls Try.prog 13 #[v] W fun e w' => e = .returned (.int .i64 0) ∧ Below W.heap.size W w') := (told_yes hL hs F1).2.1
    have K11 : Hid (∀ v W, Rl W v zs → Calls Try.prog 11 #[v] W fun e w' => ∃ v', e = .returned (.tuple #[v', .int .i64 0]) ∧ Rd w' v' L ∧ Below W.heap.size W w') := (told_yes hL hs F1).2.2
    obtain ⟨qy1, qy2⟩ := root_same hL hs Hr.out
    obtain ⟨qb1, qb2⟩ := root_same (r := 1) hL hs ⟨by omega, by have := Hr.out; omega⟩
    have HRR : Hid (∀ M N, RcS (zs.set 3 (n : Int)) L M → RcS (zs.set 3 (1 : Int)) L N → ∀ x ∈ N, x ∈ M) := fun M N hM hN => root_reach hL hM hN (by
      have q := (lvA_out hL).2.2
      exact (q.1 1 (List.mem_of_mem_head? q.2)).2.2)
    have ky := told_yes qy1 qy2 FY
    have kb := told_yes qb1 qb2 FB
    obtain ⟨ys, hys⟩ : ∃ ys, ys = zs.set 3 (n : Int) := ⟨_, rfl⟩
    obtain ⟨bs, hbs⟩ : ∃ bs, bs = zs.set 3 (1 : Int) := ⟨_, rfl⟩
    rw [← hys] at hl3 ky HRR
    rw [← hbs] at hl1 kb HRR
    have Hys : Hid (ys = zs.set 3 (n : Int)) := hys
    have Hl3 : Hid (ys.length = zs.length) := hl3
    have Hbs : Hid (bs = zs.set 3 (1 : Int)) := hbs
    have Hl1 : Hid (bs.length = zs.length) := hl1
    have K12y : Hid (∀ v W, Rl W v ys → Calls Try.prog 12 #[v] W fun e w' => ∃ v' M, e = .returned (.tuple #[v', .int .i64 0]) ∧ Rd w' v' M ∧ RcS ys L M ∧ Below W.heap.size W w') := ky.1
    have K13y : Hid (∀ v W, Rl W v ys → Calls Try.prog 13 #[v] W fun e w' => e = .returned (.int .i64 0) ∧ Below W.heap.size W w') := ky.2.1
    have K11y : Hid (∀ v W, Rl W v ys → Calls Try.prog 11 #[v] W fun e w' => ∃ v', e = .returned (.tuple #[v', .int .i64 0]) ∧ Rd w' v' L ∧ Below W.heap.size W w') := ky.2.2
    have K12b : Hid (∀ v W, Rl W v bs → Calls Try.prog 12 #[v] W fun e w' => ∃ v' M, e = .returned (.tuple #[v', .int .i64 0]) ∧ Rd w' v' M ∧ RcS bs L M ∧ Below W.heap.size W w') := kb.1
    have t1 : Hid (0 = 0) := rfl
    have t2 : Hid (0 = 0) := rfl
    have t3 : Hid (0 = 0) := rfl
    clear hs hL F1 FY FB hl3 hl1 hys hbs ky kb qy1 qy2 qb1 qb2
    go_enter Try.func8, Try.ntmps8
    go_wp2_with (first
      | (go_at_call 9; refine (awake_any _).mono ?_; rintro e w1 ⟨rfl, hb1⟩; have B1 : Hid (Below w.heap.size w w1) := hb1; have N1 : Hid (Below w1.heap.size w1 (w1.alloc (.cells #[] 3))) := below_new w1 _; clear hb1)
      | (clear t2; at_builtin; refine append_own_rd rfl (.tmp 40) (.tmp 41) rfl w1.heap.size (.slice (some ⟨w1.heap.size, 0, none⟩) 0 0) [] rfl (own_none w1 (Nat.le_refl _)) (.slice a1 zs.length cap1) zs rfl ((HR.out.below (bstep B1.out N1.out)).rd H9.out) (by simp) (by simp) zs rfl ?_; intro a8 c8 w8 o8 b8; obtain ⟨g, c8', e8, hbg⟩ := own_slot o8 hn0; cases e8; obtain ⟨cK, fK, hset⟩ := OwnI.at o8 HY.out; have HS : Hid (Rl (w8.setCell ⟨g, 3, none⟩ (.int .i64 (n : Int))) (.slice (some ⟨g, 0, none⟩) zs.length c8) ys) := (by show Rl _ _ _; have := (hset (n : Int)); rw [← Hys.out] at this; exact (this.rd (by rw [Hl3.out]; exact H9.out)).rl); have B8 : Hid (Below w1.heap.size w1 (w8.setCell ⟨g, 3, none⟩ (.int .i64 (n : Int)))) := (N1.out.trans b8).setCell (p := ⟨g, 3, none⟩) hbg _; clear o8 b8 hset)
      | (clear t1; go_at_call 11; refine (K11.out _ _ (HR.out.below (bstep B1.out B8.out))).mono ?_; rintro e w3 ⟨v3, rfl, r3, hb3⟩; have R3 : Hid (Rd w3 v3 L) := r3; have B3 : Hid (Below _ _ w3) := hb3; clear r3 hb3)
      | (go_at_call 11; refine (K11y.out _ _ (HS.out.below B3.out)).mono ?_; rintro e w4 ⟨v4, rfl, r4, hb4⟩; have R4 : Hid (Rd w4 v4 L) := r4; have S4 : Hid (Rd w4 v3 L) := R3.out.below hb4; have T4 : Hid (Rl w4 (.slice (some ⟨g, 0, none⟩) zs.length c8) ys) := HS.out.below (bstep B3.out hb4); have B4 : Hid (Below w.heap.size w w4) := bstep B1.out (bstep B8.out (bstep B3.out hb4)); clear r4 hb4)
      | (clear t3; go_at_call 13; refine (K13.out _ _ (HR.out.below B4.out)).mono ?_; rintro e w5 ⟨rfl, hb5⟩; have B5 : Hid (Below w.heap.size w w5) := bstep B4.out hb5; have R5 : Hid (Rd w5 v4 L) := R4.out.below hb5; have S5 : Hid (Rd w5 v3 L) := S4.out.below hb5; have T5 : Hid (Rl w5 (.slice (some ⟨g, 0, none⟩) zs.length c8) ys) := T4.out.below hb5; have N5 : Hid (Below w5.heap.size w5 (w5.alloc (.cells #[] 3))) := below_new w5 _; clear hb5)
      | (at_builtin; refine append_own_rd rfl (.tmp 61) (.tmp 62) rfl w5.heap.size (.slice (some ⟨w5.heap.size, 0, none⟩) 0 0) [] rfl (own_none w5 (Nat.le_refl _)) (.slice a1 zs.length cap1) zs rfl ((HR.out.below (bstep B5.out N5.out)).rd H9.out) (by simp) (by simp) zs rfl ?_; intro a9 c9 w9 o9 b9; obtain ⟨g9, c9', e9, hbg9⟩ := own_slot o9 hn0; cases e9; obtain ⟨cK9, fK9, hset⟩ := OwnI.at o9 HY.out; have HS9 : Hid (Rl (w9.setCell ⟨g9, 3, none⟩ (.int .i64 1)) (.slice (some ⟨g9, 0, none⟩) zs.length c9) bs) := (by show Rl _ _ _; have := (hset 1); rw [← Hbs.out] at this; exact (this.rd (by rw [Hl1.out]; exact H9.out)).rl); have B9 : Hid (Below w5.heap.size w5 (w9.setCell ⟨g9, 3, none⟩ (.int .i64 1))) := (N5.out.trans b9).setCell (p := ⟨g9, 3, none⟩) hbg9 _; clear o9 b9 hset)
      | (go_at_call 12; refine (K12y.out _ _ (T5.out.below B9.out)).mono ?_; rintro e w10 ⟨v10, M, rfl, r10, hM, hb10⟩; obtain ⟨_, a10, c10, rfl⟩ := r10.form; have R10 : Hid (Rd w10 (.slice a10 M.length c10) M) := r10; have HM : Hid (RcS ys L M) := hM; have B10 : Hid (Below _ _ w10) := hb10; clear r10 hb10 hM)
      | (go_at_call 12; refine (K12b.out _ _ (HS9.out.below B10.out)).mono ?_; rintro e w11 ⟨v11, N, rfl, r11, hN, hb11⟩; obtain ⟨_, a11, c11, rfl⟩ := r11.form; have R11 : Hid (Rd w11 (.slice a11 N.length c11) N) := r11; have S11 : Hid (Rd w11 (.slice a10 M.length c10) M) := R10.out.below hb11; have HN : Hid (RcS bs L N) := hN; have B11 : Hid (Below w5.heap.size w5 w11) := bstep B9.out (bstep B10.out hb11); clear r11 hb11 hN))
    go_loop [16] (fun i => ∃ j : Nat, j ≤ N.length ∧ i = .int .i64 j) (fun i => N.length - (intOf i).toNat)
    case atStart => exact ⟨0, Nat.zero_le _, rfl⟩
    case round =>
      obtain ⟨j, hj, rfl⟩ := hrel
      by_cases hlt : j < N.length
      · have hltJ : (j : Int) < (N.length : Int) := by omega
        obtain ⟨x, hx⟩ : ∃ x, N[j]? = some x := ⟨_, List.getElem?_eq_getElem hlt⟩
        obtain ⟨b, off, rfl, hcell⟩ := at_of R11.out hx
        have HX : Hid (decide (x ∈ M) = true) := decide_eq_true (HRR.out M N HM.out HN.out x (List.mem_of_getElem? hx))
        clear hx
        go_wp2_with (first
          | (go_at_call 15; refine (in_any _ M x _ S11.out).mono ?_; rintro e w6 ⟨rfl, hw⟩; rw [hw, HX.out]; clear hw w6))
        go_round
        case rel => exact ⟨j + 1, by omega, by go_num⟩
        case measure => simp [intOf]; omega
      · have hgeJ : ¬ (j : Int) < (N.length : Int) := by omega
        go_wp2_with (first
          | (go_at_call 13; refine (K13y.out _ _ (T5.out.below B11.out)).mono ?_; rintro e w12 ⟨rfl, hb12⟩; have B12 : Hid (Below w5.heap.size w5 w12) := bstep B11.out hb12; clear hb12)
          | (go_at_call 14; refine (aw14 _ _ L _ (S5.out.below B12.out) (R5.out.below B12.out)).mono ?_; rintro e w13 ⟨rfl, hb13⟩; have B13 : Hid (Below w.heap.size w w13) := bstep B5.out (bstep B12.out hb13); clear hb13))
        go_ret
        exact ⟨ret_bool rfl, B13.out⟩
end Go.Proofs.Ytgcdhenbpkcmgaa
