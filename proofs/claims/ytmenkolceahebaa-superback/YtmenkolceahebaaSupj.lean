/- Layer 8: SuperBack, walked. -/
import Derived.Test.YtmenkolceahebaaSuph
namespace Go.Proofs.Ytmenkolceahebaa
open Go.RowKit Go.Shelf
set_option linter.unusedVariables false

theorem nb_set (zs : List Int) (j : Nat) (y : Int) : nbI (zs.set j y) = nbI zs := by unfold nbI; rw [List.length_set]
theorem back_no {n r : Int} {ys : List Int} (h : mbB n r = true) (hn : n = ((1 + ys.length / 16 : Nat) : Int)) {j : Nat} {x d : Int} (hj : j < 16) (h3 : j ≠ 3) (hx : (hdW n r ++ ys)[j]? = some x) (h0 : d ≠ 0) (hd : -9223372036854775808 ≤ d ∧ d < 9223372036854775808) :
    rdB ((hdW n r ++ ys).set j (bits .xor .i64 x d)) = false := by
  obtain ⟨_, hb⟩ := rd_back h hn
  have hr : rtI ((hdW n r ++ ys).set j (bits .xor .i64 x d)) = r := by
    have : rtI (hdW n r ++ ys) = r := hd_root n r ys
    unfold rtI at this ⊢
    rw [List.getD_eq_getElem?_getD, List.getElem?_set_ne h3, ← List.getD_eq_getElem?_getD]
    exact this
  cases e : rdB ((hdW n r ++ ys).set j (bits .xor .i64 x d)) with
  | false => rfl
  | true =>
    unfold rdB at e
    rw [nb_set, hb, hr, Bool.and_eq_true, decide_eq_true_eq] at e
    have e2 := congrArg (fun l => l[j]?) e.2
    have hl : j < (hdW n r ++ ys).length := by rw [List.length_append, hdW_length]; omega
    rw [List.getElem?_take, if_pos hj, List.getElem?_set_self hl] at e2
    rw [List.getElem?_append_left (by rw [hdW_length]; exact hj), ← e2] at hx
    exact absurd (Option.some.inj hx) (Sm.xor_other x d h0 hd)
theorem back_3 {n r : Int} {ys : List Int} (y : Int) : rtI ((hdW n r ++ ys).set 3 y) = y := by
  unfold rtI
  rw [List.getD_eq_getElem?_getD, List.getElem?_set_self (by rw [List.length_append, hdW_length]; omega)]
  rfl
theorem back_nums (m : Nat) (h : m < 256) : ∃ j : Nat, j < 16 ∧ (m : Int).tmod 16 = (j : Int) ∧ (m : Int) % 16 = (j : Int) ∧ IntKind.u8.wrap (j : Int) = (j : Int) ∧ IntKind.i64.wrap (j : Int) = (j : Int) ∧ m % 16 = j := by
  obtain ⟨j, h1, h2, h3, h4, h5, h6, _⟩ := rem_nums m h
  exact ⟨j, h2, h3, h1, h4, h5, h6⟩

set_option maxRecDepth 100000 in
set_option maxHeartbeats 2000000 in
/-- Words that may not be. -/
theorem back_err (r : Int) (a : Option Addr) (len cap m : Nat) (d : Int) (w : World) (h1 : ¬ ((len : Int) > 4080)) (h2 : ¬ ((len : Int) < 16)) (h3 : (d == 0) = false) (hc : mbB (1 + (len : Int) / 16) r = false) :
    Calls Try.prog 4 #[.int .i64 r, .slice a len cap, .int .u8 (m : Int), .int .i64 d] w fun e w' => e = .returned (.bool true) ∧ Below w.heap.size w w' := by
  have hb1 : len ≤ 4080 := by omega
  have k8 : Hid (∀ w, Calls Try.prog 8 #[.int .i64 (1 + (len : Int) / 16), .int .i64 r] w fun e w' => ∃ v, e = .returned (.tuple #[v, .int .i64 1]) ∧ Below w.heap.size w w') := fun w => by
    have := words_any (1 + (len : Int) / 16) r w
    rw [(wd_no hc).2] at this
    exact this.mono fun e w' ⟨v, he, _, hb⟩ => ⟨v, he, hb⟩
  have hr : r < 1 ∨ r ≥ 1 + (len : Int) / 16 := by
    by_cases h : r < 1
    · exact .inl h
    · right
      have hm : ¬ (mbB (1 + (len : Int) / 16) r = true) := by rw [hc]; simp
      rw [mbB_iff] at hm
      omega
  clear hc
  by_cases hr1 : r < 1
  · clear hr
    go_enter Try.func4, Try.ntmps4
    go_wp2_with (first
      | (go_at_call 7; refine (awake_any _).mono ?_; rintro e w1 ⟨rfl, hb1⟩)
      | (go_at_call 8; refine (k8.out _).mono ?_; rintro e w2 ⟨v2, rfl, hb2⟩))
    go_ret
    exact ⟨ret_bool rfl, bstep hb1 hb2⟩
  · have hr2 : r ≥ 1 + (len : Int) / 16 := by omega
    clear hr
    go_enter Try.func4, Try.ntmps4
    go_wp2_with (first
      | (go_at_call 7; refine (awake_any _).mono ?_; rintro e w1 ⟨rfl, hb1⟩)
      | (go_at_call 8; refine (k8.out _).mono ?_; rintro e w2 ⟨v2, rfl, hb2⟩))
    go_ret
    exact ⟨ret_bool rfl, bstep hb1 hb2⟩

set_option maxRecDepth 100000 in
set_option maxHeartbeats 4000000 in
theorem back_other (r : Int) (a : Option Addr) (len cap m j : Nat) (d x : Int) (ys : List Int) (w : World) (hl : ys.length = len) (hR : Rl w (.slice a len cap) ys) (h1 : ¬ ((len : Int) > 4080)) (h2 : ¬ ((len : Int) < 16)) (h3 : (d == 0) = false) (hc : mbB (1 + (len : Int) / 16) r = true) (hj : j < 16) (g1 : (m : Int).tmod 16 = (j : Int)) (g2 : (m : Int) % 16 = (j : Int)) (g3 : IntKind.u8.wrap (j : Int) = (j : Int)) (g4 : IntKind.i64.wrap (j : Int) = (j : Int)) (g5 : m % 16 = j) (hx : (hdW (1 + (len : Int) / 16) r ++ ys)[j]? = some x) (e3 : ((j : Int) == 3) = false) (e4 : ((j : Int) != 3) = true) (hE : rdB ((hdW (1 + (len : Int) / 16) r ++ ys).set j (bits .xor .i64 x d)) = false) :
    Calls Try.prog 4 #[.int .i64 r, .slice a len cap, .int .u8 (m : Int), .int .i64 d] w fun e w' => e = .returned (.bool true) ∧ Below w.heap.size w w' := by
  have hb1 : len ≤ 4080 := by omega
  have hN : 1 + (len : Int) / 16 = ((1 + ys.length / 16 : Nat) : Int) := by rw [hl]; omega
  obtain ⟨hB, hBn⟩ := rd_back hc hN
  have k8 : Hid (∀ w, Calls Try.prog 8 #[.int .i64 (1 + (len : Int) / 16), .int .i64 r] w fun e w' => ∃ v, e = .returned (.tuple #[v, .int .i64 0]) ∧ Rd w' v (hdW (1 + (len : Int) / 16) r) ∧ Below w.heap.size w w') := fun w => by
    have := words_any (1 + (len : Int) / 16) r w
    rwa [(wd_yes hc).2, (wd_yes hc).1] at this
  have k10a : Hid (∀ v w, Rl w v (hdW (1 + (len : Int) / 16) r ++ ys) → Calls Try.prog 10 #[v] w fun e w' => e = .returned (.tuple #[.int .i64 (1 + (len : Int) / 16), .int .i64 r, .int .i64 0]) ∧ Below w.heap.size w w') := fun v w hR => by
    have := read_any v _ w hR
    obtain ⟨e1, e2, e3⟩ := rd_yes hB
    rwa [e1, e2, e3, hBn, hd_root] at this
  have k10b : Hid (∀ v w, Rl w v ((hdW (1 + (len : Int) / 16) r ++ ys).set j (bits .xor .i64 x d)) → Calls Try.prog 10 #[v] w fun e w' => e = .returned (.tuple #[.int .i64 0, .int .i64 0, .int .i64 80]) ∧ Below w.heap.size w w') := fun v w hR => by
    have := read_any v _ w hR
    obtain ⟨e1, e2, e3⟩ := rd_no hE
    rwa [e1, e2, e3] at this
  obtain ⟨A, hA⟩ : ∃ A, A = hdW (1 + (len : Int) / 16) r := ⟨_, rfl⟩
  have lA : A.length = 16 := by rw [hA]; rfl
  rw [← hA] at k8 k10a k10b hx
  obtain ⟨M, hM⟩ : ∃ M, A ++ ys = M := ⟨_, rfl⟩
  have lM : M.length = 16 + len := by rw [← hM, List.length_append, lA, hl]
  rw [hM] at k10a k10b hx
  have HM : Hid (A ++ ys = M) := hM
  have HlA : Hid (A.length = 16) := lA
  have HlM : Hid (M.length = 16 + len) := lM
  have HX : Hid (M[j]? = some x) := hx
  have R0 : Hid (Rl w (.slice a len cap) ys) := hR
  have hd1 : (j : Int) < 16 + (len : Int) := by omega
  have hd2 : (0 : Int) ≤ (j : Int) := by omega
  have t1 : Hid (0 = 0) := rfl
  have t2 : Hid (0 = 0) := rfl
  clear hA lA hM lM hx hR hB hBn hN hc hl hE
  go_enter Try.func4, Try.ntmps4
  go_wp2_with (first
    | (go_at_call 7; refine (awake_any _).mono ?_; rintro e w1 ⟨rfl, hb1⟩; have H1 : Hid (Below w.heap.size w w1) := hb1; clear hb1)
    | (go_at_call 8; refine (k8.out _).mono ?_; rintro e w2 ⟨v2, rfl, r2, hb2⟩; obtain ⟨_, a2, c2, rfl⟩ := r2.form; have R2 : Hid (Rd w2 (.slice a2 A.length c2) A) := r2; have H2 : Hid (Below w.heap.size w w2) := bstep H1.out hb2; clear r2 hb2)
    | (at_builtin; clear t1; refine append_own_rd rfl (.tmp 57) (.tmp 58) rfl w2.heap.size (.slice (some ⟨w2.heap.size, 0, none⟩) 0 0) [] rfl (own_none w2 (Nat.le_refl _)) (.slice a2 A.length c2) A rfl (R2.out.below ((Below.refl _ _).alloc (Nat.le_refl _) _)) (by simp) (by simp) A rfl ?_; intro a3 c3 w3 o3 b3; have O3 : Hid (OwnI w3 w2.heap.size (.slice a3 A.length c3) A) := o3; have H3 : Hid (Below w2.heap.size w2 w3) := ((Below.refl _ w2).alloc (Nat.le_refl _) _).trans b3; clear o3 b3)
    | (at_builtin; clear t2; refine append_own_rl rfl (.tmp 59) (.tmp 60) rfl w2.heap.size (.slice a3 A.length c3) A rfl O3.out (.slice a len cap) ys rfl (R0.out.below (bstep H2.out H3.out)) (by rw [HlA.out]; omega) H3.out.size M HM.out ?_; intro a4 c4 w4 o4 b4; rw [HlM.out] at o4 ⊢; obtain ⟨q4, rfl, hq4, hq5, _⟩ := o4.put (k := 0) (by rw [HlM.out]; omega); have O4 : Hid (OwnI w4 w2.heap.size (.slice (some ⟨q4, 0, none⟩) (16 + len) c4) M) := o4; have H4 : Hid (Below w2.heap.size w2 w4) := H3.out.trans b4; clear o4 b4)
    | (go_at_call 10; refine (k10a.out _ _ (O4.out.rl (by rw [HlM.out]; omega))).mono ?_; rintro e w5 ⟨rfl, hb5⟩; have O5 : Hid (OwnI w5 w2.heap.size (.slice (some ⟨q4, 0, none⟩) (16 + len) c4) M) := O4.out.below hb5; have H5 : Hid (Below w2.heap.size w2 w5) := bstep H4.out hb5; obtain ⟨x0, xf, xs⟩ := O5.out.at HX.out; have O6 : Hid (OwnI (w5.setCell ⟨q4, j, none⟩ (.int .i64 (bits .xor .i64 x d))) w2.heap.size (.slice (some ⟨q4, 0, none⟩) (16 + len) c4) (M.set j (bits .xor .i64 x d))) := xs (bits .xor .i64 x d); have H6 : Hid (Below w2.heap.size w2 (w5.setCell ⟨q4, j, none⟩ (.int .i64 (bits .xor .i64 x d)))) := H5.out.setCell (p := ⟨q4, j, none⟩) hq4 _; clear k10a xs hb5)
    | (go_at_call 10; refine (k10b.out _ _ (O6.out.rl (by rw [List.length_set, HlM.out]; omega))).mono ?_; rintro e w7 ⟨rfl, hb7⟩; have H7 : Hid (Below w.heap.size w w7) := bstep H2.out (bstep H6.out hb7); clear k10b hb7))
  go_ret
  exact ⟨ret_bool rfl, H7.out⟩

set_option maxRecDepth 100000 in
set_option maxHeartbeats 4000000 in
theorem back_root0 (r : Int) (a : Option Addr) (len cap m j : Nat) (d x : Int) (ys : List Int) (w : World) (hl : ys.length = len) (hR : Rl w (.slice a len cap) ys) (h1 : ¬ ((len : Int) > 4080)) (h2 : ¬ ((len : Int) < 16)) (h3 : (d == 0) = false) (hc : mbB (1 + (len : Int) / 16) r = true) (hj : j < 16) (g1 : (m : Int).tmod 16 = (j : Int)) (g2 : (m : Int) % 16 = (j : Int)) (g3 : IntKind.u8.wrap (j : Int) = (j : Int)) (g4 : IntKind.i64.wrap (j : Int) = (j : Int)) (g5 : m % 16 = j) (hx : (hdW (1 + (len : Int) / 16) r ++ ys)[j]? = some x) (e3 : ((j : Int) == 3) = true) (e4 : ((j : Int) != 3) = false) (hE : rdB ((hdW (1 + (len : Int) / 16) r ++ ys).set j (bits .xor .i64 x d)) = false) :
    Calls Try.prog 4 #[.int .i64 r, .slice a len cap, .int .u8 (m : Int), .int .i64 d] w fun e w' => e = .returned (.bool true) ∧ Below w.heap.size w w' := by
  have hb1 : len ≤ 4080 := by omega
  have hN : 1 + (len : Int) / 16 = ((1 + ys.length / 16 : Nat) : Int) := by rw [hl]; omega
  obtain ⟨hB, hBn⟩ := rd_back hc hN
  have k8 : Hid (∀ w, Calls Try.prog 8 #[.int .i64 (1 + (len : Int) / 16), .int .i64 r] w fun e w' => ∃ v, e = .returned (.tuple #[v, .int .i64 0]) ∧ Rd w' v (hdW (1 + (len : Int) / 16) r) ∧ Below w.heap.size w w') := fun w => by
    have := words_any (1 + (len : Int) / 16) r w
    rwa [(wd_yes hc).2, (wd_yes hc).1] at this
  have k10a : Hid (∀ v w, Rl w v (hdW (1 + (len : Int) / 16) r ++ ys) → Calls Try.prog 10 #[v] w fun e w' => e = .returned (.tuple #[.int .i64 (1 + (len : Int) / 16), .int .i64 r, .int .i64 0]) ∧ Below w.heap.size w w') := fun v w hR => by
    have := read_any v _ w hR
    obtain ⟨e1, e2, e3⟩ := rd_yes hB
    rwa [e1, e2, e3, hBn, hd_root] at this
  have k10b : Hid (∀ v w, Rl w v ((hdW (1 + (len : Int) / 16) r ++ ys).set j (bits .xor .i64 x d)) → Calls Try.prog 10 #[v] w fun e w' => e = .returned (.tuple #[.int .i64 0, .int .i64 0, .int .i64 80]) ∧ Below w.heap.size w w') := fun v w hR => by
    have := read_any v _ w hR
    obtain ⟨e1, e2, e3⟩ := rd_no hE
    rwa [e1, e2, e3] at this
  obtain ⟨A, hA⟩ : ∃ A, A = hdW (1 + (len : Int) / 16) r := ⟨_, rfl⟩
  have lA : A.length = 16 := by rw [hA]; rfl
  rw [← hA] at k8 k10a k10b hx
  obtain ⟨M, hM⟩ : ∃ M, A ++ ys = M := ⟨_, rfl⟩
  have lM : M.length = 16 + len := by rw [← hM, List.length_append, lA, hl]
  rw [hM] at k10a k10b hx
  have HM : Hid (A ++ ys = M) := hM
  have HlA : Hid (A.length = 16) := lA
  have HlM : Hid (M.length = 16 + len) := lM
  have HX : Hid (M[j]? = some x) := hx
  have R0 : Hid (Rl w (.slice a len cap) ys) := hR
  have hd1 : (j : Int) < 16 + (len : Int) := by omega
  have hd2 : (0 : Int) ≤ (j : Int) := by omega
  have t1 : Hid (0 = 0) := rfl
  have t2 : Hid (0 = 0) := rfl
  clear hA lA hM lM hx hR hB hBn hN hc hl hE
  go_enter Try.func4, Try.ntmps4
  go_wp2_with (first
    | (go_at_call 7; refine (awake_any _).mono ?_; rintro e w1 ⟨rfl, hb1⟩; have H1 : Hid (Below w.heap.size w w1) := hb1; clear hb1)
    | (go_at_call 8; refine (k8.out _).mono ?_; rintro e w2 ⟨v2, rfl, r2, hb2⟩; obtain ⟨_, a2, c2, rfl⟩ := r2.form; have R2 : Hid (Rd w2 (.slice a2 A.length c2) A) := r2; have H2 : Hid (Below w.heap.size w w2) := bstep H1.out hb2; clear r2 hb2)
    | (at_builtin; clear t1; refine append_own_rd rfl (.tmp 57) (.tmp 58) rfl w2.heap.size (.slice (some ⟨w2.heap.size, 0, none⟩) 0 0) [] rfl (own_none w2 (Nat.le_refl _)) (.slice a2 A.length c2) A rfl (R2.out.below ((Below.refl _ _).alloc (Nat.le_refl _) _)) (by simp) (by simp) A rfl ?_; intro a3 c3 w3 o3 b3; have O3 : Hid (OwnI w3 w2.heap.size (.slice a3 A.length c3) A) := o3; have H3 : Hid (Below w2.heap.size w2 w3) := ((Below.refl _ w2).alloc (Nat.le_refl _) _).trans b3; clear o3 b3)
    | (at_builtin; clear t2; refine append_own_rl rfl (.tmp 59) (.tmp 60) rfl w2.heap.size (.slice a3 A.length c3) A rfl O3.out (.slice a len cap) ys rfl (R0.out.below (bstep H2.out H3.out)) (by rw [HlA.out]; omega) H3.out.size M HM.out ?_; intro a4 c4 w4 o4 b4; rw [HlM.out] at o4 ⊢; obtain ⟨q4, rfl, hq4, hq5, _⟩ := o4.put (k := 0) (by rw [HlM.out]; omega); have O4 : Hid (OwnI w4 w2.heap.size (.slice (some ⟨q4, 0, none⟩) (16 + len) c4) M) := o4; have H4 : Hid (Below w2.heap.size w2 w4) := H3.out.trans b4; clear o4 b4)
    | (go_at_call 10; refine (k10a.out _ _ (O4.out.rl (by rw [HlM.out]; omega))).mono ?_; rintro e w5 ⟨rfl, hb5⟩; have O5 : Hid (OwnI w5 w2.heap.size (.slice (some ⟨q4, 0, none⟩) (16 + len) c4) M) := O4.out.below hb5; have H5 : Hid (Below w2.heap.size w2 w5) := bstep H4.out hb5; obtain ⟨x0, xf, xs⟩ := O5.out.at HX.out; have O6 : Hid (OwnI (w5.setCell ⟨q4, j, none⟩ (.int .i64 (bits .xor .i64 x d))) w2.heap.size (.slice (some ⟨q4, 0, none⟩) (16 + len) c4) (M.set j (bits .xor .i64 x d))) := xs (bits .xor .i64 x d); have H6 : Hid (Below w2.heap.size w2 (w5.setCell ⟨q4, j, none⟩ (.int .i64 (bits .xor .i64 x d)))) := H5.out.setCell (p := ⟨q4, j, none⟩) hq4 _; clear k10a xs hb5)
    | (go_at_call 10; refine (k10b.out _ _ (O6.out.rl (by rw [List.length_set, HlM.out]; omega))).mono ?_; rintro e w7 ⟨rfl, hb7⟩; have H7 : Hid (Below w.heap.size w w7) := bstep H2.out (bstep H6.out hb7); clear k10b hb7))
  go_ret
  exact ⟨ret_bool rfl, H7.out⟩

set_option maxRecDepth 100000 in
set_option maxHeartbeats 4000000 in
theorem back_root1 (r : Int) (a : Option Addr) (len cap m j : Nat) (d x : Int) (ys : List Int) (w : World) (hl : ys.length = len) (hR : Rl w (.slice a len cap) ys) (h1 : ¬ ((len : Int) > 4080)) (h2 : ¬ ((len : Int) < 16)) (h3 : (d == 0) = false) (hc : mbB (1 + (len : Int) / 16) r = true) (hj : j < 16) (g1 : (m : Int).tmod 16 = (j : Int)) (g2 : (m : Int) % 16 = (j : Int)) (g3 : IntKind.u8.wrap (j : Int) = (j : Int)) (g4 : IntKind.i64.wrap (j : Int) = (j : Int)) (g5 : m % 16 = j) (hx : (hdW (1 + (len : Int) / 16) r ++ ys)[j]? = some x) (e3 : ((j : Int) == 3) = true) (e4 : ((j : Int) != 3) = false) (hE : rdB ((hdW (1 + (len : Int) / 16) r ++ ys).set j (bits .xor .i64 x d)) = true) (hrt : rtI ((hdW (1 + (len : Int) / 16) r ++ ys).set j (bits .xor .i64 x d)) = bits .xor .i64 r d) :
    Calls Try.prog 4 #[.int .i64 r, .slice a len cap, .int .u8 (m : Int), .int .i64 d] w fun e w' => e = .returned (.bool true) ∧ Below w.heap.size w w' := by
  have hb1 : len ≤ 4080 := by omega
  have hN : 1 + (len : Int) / 16 = ((1 + ys.length / 16 : Nat) : Int) := by rw [hl]; omega
  obtain ⟨hB, hBn⟩ := rd_back hc hN
  have k8 : Hid (∀ w, Calls Try.prog 8 #[.int .i64 (1 + (len : Int) / 16), .int .i64 r] w fun e w' => ∃ v, e = .returned (.tuple #[v, .int .i64 0]) ∧ Rd w' v (hdW (1 + (len : Int) / 16) r) ∧ Below w.heap.size w w') := fun w => by
    have := words_any (1 + (len : Int) / 16) r w
    rwa [(wd_yes hc).2, (wd_yes hc).1] at this
  have k10a : Hid (∀ v w, Rl w v (hdW (1 + (len : Int) / 16) r ++ ys) → Calls Try.prog 10 #[v] w fun e w' => e = .returned (.tuple #[.int .i64 (1 + (len : Int) / 16), .int .i64 r, .int .i64 0]) ∧ Below w.heap.size w w') := fun v w hR => by
    have := read_any v _ w hR
    obtain ⟨e1, e2, e3⟩ := rd_yes hB
    rwa [e1, e2, e3, hBn, hd_root] at this
  have k10b : Hid (∀ v w, Rl w v ((hdW (1 + (len : Int) / 16) r ++ ys).set j (bits .xor .i64 x d)) → Calls Try.prog 10 #[v] w fun e w' => e = .returned (.tuple #[.int .i64 (nbI ((hdW (1 + (len : Int) / 16) r ++ ys).set j (bits .xor .i64 x d))), .int .i64 (bits .xor .i64 r d), .int .i64 0]) ∧ Below w.heap.size w w') := fun v w hR => by
    have := read_any v _ w hR
    obtain ⟨e1, e2, e3⟩ := rd_yes hE
    rwa [e1, e2, e3, hrt] at this
  generalize nbI ((hdW (1 + (len : Int) / 16) r ++ ys).set j (bits .xor .i64 x d)) = nb at k10b
  obtain ⟨A, hA⟩ : ∃ A, A = hdW (1 + (len : Int) / 16) r := ⟨_, rfl⟩
  have lA : A.length = 16 := by rw [hA]; rfl
  rw [← hA] at k8 k10a k10b hx
  obtain ⟨M, hM⟩ : ∃ M, A ++ ys = M := ⟨_, rfl⟩
  have lM : M.length = 16 + len := by rw [← hM, List.length_append, lA, hl]
  rw [hM] at k10a k10b hx
  have HM : Hid (A ++ ys = M) := hM
  have HlA : Hid (A.length = 16) := lA
  have HlM : Hid (M.length = 16 + len) := lM
  have HX : Hid (M[j]? = some x) := hx
  have R0 : Hid (Rl w (.slice a len cap) ys) := hR
  have hd1 : (j : Int) < 16 + (len : Int) := by omega
  have hd2 : (0 : Int) ≤ (j : Int) := by omega
  have t1 : Hid (0 = 0) := rfl
  have t2 : Hid (0 = 0) := rfl
  clear hA lA hM lM hx hR hB hBn hN hc hl hE hrt
  go_enter Try.func4, Try.ntmps4
  go_wp2_with (first
    | (go_at_call 7; refine (awake_any _).mono ?_; rintro e w1 ⟨rfl, hb1⟩; have H1 : Hid (Below w.heap.size w w1) := hb1; clear hb1)
    | (go_at_call 8; refine (k8.out _).mono ?_; rintro e w2 ⟨v2, rfl, r2, hb2⟩; obtain ⟨_, a2, c2, rfl⟩ := r2.form; have R2 : Hid (Rd w2 (.slice a2 A.length c2) A) := r2; have H2 : Hid (Below w.heap.size w w2) := bstep H1.out hb2; clear r2 hb2)
    | (at_builtin; clear t1; refine append_own_rd rfl (.tmp 57) (.tmp 58) rfl w2.heap.size (.slice (some ⟨w2.heap.size, 0, none⟩) 0 0) [] rfl (own_none w2 (Nat.le_refl _)) (.slice a2 A.length c2) A rfl (R2.out.below ((Below.refl _ _).alloc (Nat.le_refl _) _)) (by simp) (by simp) A rfl ?_; intro a3 c3 w3 o3 b3; have O3 : Hid (OwnI w3 w2.heap.size (.slice a3 A.length c3) A) := o3; have H3 : Hid (Below w2.heap.size w2 w3) := ((Below.refl _ w2).alloc (Nat.le_refl _) _).trans b3; clear o3 b3)
    | (at_builtin; clear t2; refine append_own_rl rfl (.tmp 59) (.tmp 60) rfl w2.heap.size (.slice a3 A.length c3) A rfl O3.out (.slice a len cap) ys rfl (R0.out.below (bstep H2.out H3.out)) (by rw [HlA.out]; omega) H3.out.size M HM.out ?_; intro a4 c4 w4 o4 b4; rw [HlM.out] at o4 ⊢; obtain ⟨q4, rfl, hq4, hq5, _⟩ := o4.put (k := 0) (by rw [HlM.out]; omega); have O4 : Hid (OwnI w4 w2.heap.size (.slice (some ⟨q4, 0, none⟩) (16 + len) c4) M) := o4; have H4 : Hid (Below w2.heap.size w2 w4) := H3.out.trans b4; clear o4 b4)
    | (go_at_call 10; refine (k10a.out _ _ (O4.out.rl (by rw [HlM.out]; omega))).mono ?_; rintro e w5 ⟨rfl, hb5⟩; have O5 : Hid (OwnI w5 w2.heap.size (.slice (some ⟨q4, 0, none⟩) (16 + len) c4) M) := O4.out.below hb5; have H5 : Hid (Below w2.heap.size w2 w5) := bstep H4.out hb5; obtain ⟨x0, xf, xs⟩ := O5.out.at HX.out; have O6 : Hid (OwnI (w5.setCell ⟨q4, j, none⟩ (.int .i64 (bits .xor .i64 x d))) w2.heap.size (.slice (some ⟨q4, 0, none⟩) (16 + len) c4) (M.set j (bits .xor .i64 x d))) := xs (bits .xor .i64 x d); have H6 : Hid (Below w2.heap.size w2 (w5.setCell ⟨q4, j, none⟩ (.int .i64 (bits .xor .i64 x d)))) := H5.out.setCell (p := ⟨q4, j, none⟩) hq4 _; clear k10a xs hb5)
    | (go_at_call 10; refine (k10b.out _ _ (O6.out.rl (by rw [List.length_set, HlM.out]; omega))).mono ?_; rintro e w7 ⟨rfl, hb7⟩; have H7 : Hid (Below w.heap.size w w7) := bstep H2.out (bstep H6.out hb7); clear k10b hb7))
  go_ret
  exact ⟨ret_bool rfl, H7.out⟩

set_option maxRecDepth 100000 in
set_option maxHeartbeats 2000000 in
theorem walk_SuperBack (r : Int) (a : Option Addr) (len cap : Nat) (t d : Int) (w : World) (hK : RowIn w a len cap) (ft : (Lit.int .u8 t).wf = true) (fd : (Lit.int .i64 d).wf = true) :
    Calls Try.prog 4 #[.int .i64 r, .slice a len cap, .int .u8 t, .int .i64 d] w fun e w' => e = .returned (.bool true) ∧ Below w.heap.size w w' := by
  obtain ⟨m, rfl, hm9⟩ := wf_u8 ft
  have hd := wf_i64 fd
  clear ft fd
  by_cases h1 : (len : Int) > 4080
  · clear hK
    go_enter Try.func4, Try.ntmps4
    go_wp2_with (go_at_call 7; refine (awake_any _).mono ?_; rintro e w1 ⟨rfl, hb1⟩)
    go_ret
    exact ⟨ret_bool rfl, hb1⟩
  · by_cases h2 : (len : Int) < 16
    · clear hK
      go_enter Try.func4, Try.ntmps4
      go_wp2_with (go_at_call 7; refine (awake_any _).mono ?_; rintro e w1 ⟨rfl, hb1⟩)
      go_ret
      exact ⟨ret_bool rfl, hb1⟩
    · cases h3 : (d == 0) with
      | true =>
        clear hK
        go_enter Try.func4, Try.ntmps4
        go_wp2_with (go_at_call 7; refine (awake_any _).mono ?_; rintro e w1 ⟨rfl, hb1⟩)
        go_ret
        exact ⟨ret_bool rfl, hb1⟩
      | false =>
        cases hc : mbB (1 + (len : Int) / 16) r with
        | false => exact back_err r a len cap m d w h1 h2 h3 hc
        | true =>
          obtain ⟨ys, hl, hR, -⟩ := hK (by omega)
          obtain ⟨j, hj, g1, g2, g3, g4, g5⟩ := back_nums m hm9
          have hN : 1 + (len : Int) / 16 = ((1 + ys.length / 16 : Nat) : Int) := by rw [hl]; omega
          obtain ⟨x, hx⟩ : ∃ x, (hdW (1 + (len : Int) / 16) r ++ ys)[j]? = some x := ⟨_, List.getElem?_eq_getElem (by rw [List.length_append, hdW_length]; omega)⟩
          have hd0 : d ≠ 0 := by simpa using h3
          by_cases e3 : j = 3
          · have e4 : ((j : Int) == 3) = true := by simp; omega
            have e5 : ((j : Int) != 3) = false := by simp; omega
            have hxr : x = r := by
              subst e3
              exact (Option.some.inj hx).symm
            cases hE : rdB ((hdW (1 + (len : Int) / 16) r ++ ys).set j (bits .xor .i64 x d)) with
            | false => exact back_root0 r a len cap m j d x ys w hl hR h1 h2 h3 hc hj g1 g2 g3 g4 g5 hx e4 e5 hE
            | true => exact back_root1 r a len cap m j d x ys w hl hR h1 h2 h3 hc hj g1 g2 g3 g4 g5 hx e4 e5 hE (by rw [e3, hxr]; exact back_3 _)
          · exact back_other r a len cap m j d x ys w hl hR h1 h2 h3 hc hj g1 g2 g3 g4 g5 hx (by simp; omega) (by simp; omega) (back_no hc hN hj e3 hx hd0 hd)
end Go.Proofs.Ytmenkolceahebaa
