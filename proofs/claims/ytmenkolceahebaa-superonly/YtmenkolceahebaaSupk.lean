/- Layer 8: SuperOnly, walked. -/
import Derived.Test.YtmenkolceahebaaSuph
namespace Go.Proofs.Ytmenkolceahebaa
open Go.RowKit Go.Shelf
set_option linter.unusedVariables false

theorem Rl.cap {W : World} {a : Option Addr} {n c : Nat} {zs : List Int} (h : Rl W (.slice a n c) zs) : n ≤ c := by
  obtain ⟨_, a', c', e, h, _⟩ := h
  cases e
  exact h
theorem rdB_facts {zs : List Int} (h : rdB zs = true) : mbB (nbI zs) (rtI zs) = true ∧ zs.take 16 = hdW (nbI zs) (rtI zs) ∧ 32 ≤ zs.length := by
  unfold rdB at h
  rw [Bool.and_eq_true, decide_eq_true_eq] at h
  refine ⟨h.1, h.2, ?_⟩
  have := (mbB_iff.1 h.1).1
  unfold nbI at this
  omega
theorem only_same {n r : Int} {ys : List Int} (h : mbB n r = true) (hs : nbI (hdW n r ++ ys) = n) : rdB (hdW n r ++ ys) = true := by
  unfold rdB
  rw [hs, hd_root, h, hd_take, decide_eq_true rfl]
  rfl
theorem only_other {n r : Int} {ys : List Int} (hs : nbI (hdW n r ++ ys) ≠ n) : rdB (hdW n r ++ ys) = false := by
  cases e : rdB (hdW n r ++ ys) with
  | false => rfl
  | true =>
    have e2 := (rdB_facts e).2.1
    rw [hd_take, hd_root] at e2
    have e3 := congrArg (fun l => l[1]?) e2
    exact absurd (Option.some.inj e3).symm hs

set_option maxRecDepth 100000 in
set_option maxHeartbeats 2000000 in
theorem only_err (a a2 : Option Addr) (len cap len2 cap2 : Nat) (zs : List Int) (w : World) (hR : Rl w (.slice a len cap) zs) (h1 : ¬ ((len : Int) > 5000)) (h2 : ¬ ((len2 : Int) > 5000)) (hE : rdB zs = false) :
    Calls Try.prog 6 #[.slice a len cap, .slice a2 len2 cap2] w fun e w' => e = .returned (.bool true) ∧ Below w.heap.size w w' := by
  have k10 : Hid (∀ W, Below w.heap.size w W → Calls Try.prog 10 #[.slice a len cap] W fun e w' => e = .returned (.tuple #[.int .i64 0, .int .i64 0, .int .i64 80]) ∧ Below W.heap.size W w') := fun W hb => by
    have := read_any _ zs W (hR.below hb)
    obtain ⟨e1, e2, e3⟩ := rd_no hE
    rwa [e1, e2, e3] at this
  clear hE hR
  go_enter Try.func6, Try.ntmps6
  go_wp2_with (first
    | (go_at_call 7; refine (awake_any _).mono ?_; rintro e w1 ⟨rfl, hb1⟩; have H1 : Hid (Below w.heap.size w w1) := hb1; clear hb1)
    | (go_at_call 10; refine (k10.out _ H1.out).mono ?_; rintro e w2 ⟨rfl, hb2⟩; have H2 : Hid (Below w.heap.size w w2) := bstep H1.out hb2; clear hb2))
  go_ret
  exact ⟨ret_bool rfl, H2.out⟩

set_option maxRecDepth 100000 in
set_option maxHeartbeats 4000000 in
theorem only_yes (a a2 : Option Addr) (len cap len2 cap2 : Nat) (zs ys : List Int) (w : World) (hl : zs.length = len) (hl2 : ys.length = len2) (hR : Rl w (.slice a len cap) zs) (hR2 : Rl w (.slice a2 len2 cap2) ys) (h1 : ¬ ((len : Int) > 5000)) (h2 : ¬ ((len2 : Int) > 5000)) (hE : rdB zs = true) (hs : ((16 + (len2 : Int)) / 16 == (len : Int) / 16) = true) :
    Calls Try.prog 6 #[.slice a len cap, .slice a2 len2 cap2] w fun e w' => e = .returned (.bool true) ∧ Below w.heap.size w w' := by
  obtain ⟨hc, hT, h32⟩ := rdB_facts hE
  have hnb : nbI zs = (len : Int) / 16 := by unfold nbI; omega
  have hnm : nbI (hdW ((len : Int) / 16) (rtI zs) ++ ys) = (16 + (len2 : Int)) / 16 := by
    unfold nbI
    rw [List.length_append, hdW_length, hl2]
    omega
  obtain ⟨e1, e2, e3⟩ := rd_yes hE
  have k10a : Hid (∀ W, Below w.heap.size w W → Calls Try.prog 10 #[.slice a len cap] W fun e w' => e = .returned (.tuple #[.int .i64 ((len : Int) / 16), .int .i64 (rtI zs), .int .i64 0]) ∧ Below W.heap.size W w') := fun W hb => by
    have := read_any _ zs W (hR.below hb)
    rwa [e1, e2, e3, hnb] at this
  rw [hnb] at hc hT
  have k8 : Hid (∀ w, Calls Try.prog 8 #[.int .i64 ((len : Int) / 16), .int .i64 (rtI zs)] w fun e w' => ∃ v, e = .returned (.tuple #[v, .int .i64 0]) ∧ Rd w' v (hdW ((len : Int) / 16) (rtI zs)) ∧ Below w.heap.size w w') := fun w => by
    have := words_any ((len : Int) / 16) (rtI zs) w
    rwa [(wd_yes hc).2, (wd_yes hc).1] at this
  have hs' : nbI (hdW ((len : Int) / 16) (rtI zs) ++ ys) = (len : Int) / 16 := by rw [hnm]; simpa using hs
  have k10b : Hid (∀ v w, Rl w v (hdW ((len : Int) / 16) (rtI zs) ++ ys) → Calls Try.prog 10 #[v] w fun e w' => e = .returned (.tuple #[.int .i64 ((len : Int) / 16), .int .i64 (rtI zs), .int .i64 0]) ∧ Below w.heap.size w w') := fun v w hR => by
    have := read_any v _ w hR
    obtain ⟨f1, f2, f3⟩ := rd_yes (only_same hc hs')
    rwa [f1, f2, f3, hs', hd_root] at this
  clear hs'
  have hcap := hR.cap
  obtain ⟨b, off, rfl, -⟩ := hR.base (by omega)
  have hT0 := hR.take 16 (by omega) (by omega)
  rw [hT] at hT0
  generalize rtI zs = r at *
  obtain ⟨T, hT2⟩ : ∃ T, T = hdW ((len : Int) / 16) r := ⟨_, rfl⟩
  have lT : T.length = 16 := by rw [hT2]; rfl
  rw [← hT2] at hT0 k8 k10b
  obtain ⟨M, hM⟩ : ∃ M, T ++ ys = M := ⟨_, rfl⟩
  have lM : M.length = 16 + len2 := by rw [← hM, List.length_append, lT, hl2]
  rw [hM] at k10b
  have HM : Hid (T ++ ys = M) := hM
  have HlT : Hid (T.length = 16) := lT
  have HlM : Hid (M.length ≤ 6000) := show M.length ≤ 6000 by omega
  have R0 : Hid (Rd w (.slice (some ⟨b, off, none⟩) 16 cap) T) := hT0
  have R2 : Hid (Rl w (.slice a2 len2 cap2) ys) := hR2
  have d1 : (16 : Int) ≤ (cap : Int) := by omega
  have d2 : (16 : Int) ≤ (len : Int) := by omega
  have b1 : len ≤ 5000 := by omega
  have b2 : len2 ≤ 5000 := by omega
  have t1 : Hid (0 = 0) := rfl
  clear hT hT0 hT2 lT hM lM hR hR2 hE hc hnb hnm e1 e2 e3 hl hl2 h32 hcap
  go_enter Try.func6, Try.ntmps6
  go_wp2_with (first
    | (go_at_call 7; refine (awake_any _).mono ?_; rintro e w1 ⟨rfl, hb1⟩; have H1 : Hid (Below w.heap.size w w1) := hb1; clear hb1)
    | (go_at_call 10; clear t1; refine (k10a.out _ H1.out).mono ?_; rintro e w2 ⟨rfl, hb2⟩; have H2 : Hid (Below w.heap.size w w2) := bstep H1.out hb2; clear hb2 k10a)
    | (go_at_call 8; refine (k8.out _).mono ?_; rintro e w3 ⟨v3, rfl, r3, hb3⟩; have R3 : Hid (Rd w3 v3 T) := r3; have H3 : Hid (Below w.heap.size w w3) := bstep H2.out hb3; clear r3 hb3)
    | (at_builtin; refine append_own_rd rfl (.tmp 53) (.tmp 55) rfl w3.heap.size (.slice (some ⟨w3.heap.size, 0, none⟩) 0 0) [] rfl (own_none w3 (Nat.le_refl _)) (.slice (some ⟨b, off, none⟩) 16 cap) T rfl (R0.out.below (bstep H3.out ((Below.refl _ _).alloc (Nat.le_refl _) _))) (by simp) (by simp) T rfl ?_; intro a4 c4 w4 o4 b4; have O4 : Hid (OwnI w4 w3.heap.size (.slice a4 T.length c4) T) := o4; have H4 : Hid (Below w3.heap.size w3 w4) := ((Below.refl _ w3).alloc (Nat.le_refl _) _).trans b4; clear o4 b4)
    | (at_builtin; refine append_own_rl rfl (.tmp 56) (.tmp 57) rfl w3.heap.size (.slice a4 T.length c4) T rfl O4.out (.slice a2 len2 cap2) ys rfl (R2.out.below (bstep H3.out H4.out)) (by rw [HlT.out]; omega) H4.out.size M HM.out ?_; intro a5 c5 w5 o5 b5; have O5 : Hid (Rl w5 (.slice a5 M.length c5) M) := o5.rl HlM.out; have H5 : Hid (Below w3.heap.size w3 w5) := H4.out.trans b5; clear o5 b5)
    | (go_at_call 10; refine (k10b.out _ _ O5.out).mono ?_; rintro e w6 ⟨rfl, hb6⟩; have H6 : Hid (Below w3.heap.size w3 w6) := bstep H5.out hb6; clear k10b hb6)
    | (go_at_call 14; refine (numbers_any _ _ T T _ (R3.out.below H6.out) (R0.out.below (bstep H3.out H6.out))).mono ?_; rintro e w7 ⟨rfl, hb7⟩; rw [decide_eq_true rfl]; have H7 : Hid (Below w.heap.size w w7) := bstep (bstep H3.out H6.out) hb7; clear hb7))
  go_ret
  exact ⟨ret_bool rfl, H7.out⟩

set_option maxRecDepth 100000 in
set_option maxHeartbeats 4000000 in
theorem only_no (a a2 : Option Addr) (len cap len2 cap2 : Nat) (zs ys : List Int) (w : World) (hl : zs.length = len) (hl2 : ys.length = len2) (hR : Rl w (.slice a len cap) zs) (hR2 : Rl w (.slice a2 len2 cap2) ys) (h1 : ¬ ((len : Int) > 5000)) (h2 : ¬ ((len2 : Int) > 5000)) (hE : rdB zs = true) (hs : ((16 + (len2 : Int)) / 16 == (len : Int) / 16) = false) :
    Calls Try.prog 6 #[.slice a len cap, .slice a2 len2 cap2] w fun e w' => e = .returned (.bool true) ∧ Below w.heap.size w w' := by
  obtain ⟨hc, hT, h32⟩ := rdB_facts hE
  have hnb : nbI zs = (len : Int) / 16 := by unfold nbI; omega
  have hnm : nbI (hdW ((len : Int) / 16) (rtI zs) ++ ys) = (16 + (len2 : Int)) / 16 := by
    unfold nbI
    rw [List.length_append, hdW_length, hl2]
    omega
  obtain ⟨e1, e2, e3⟩ := rd_yes hE
  have k10a : Hid (∀ W, Below w.heap.size w W → Calls Try.prog 10 #[.slice a len cap] W fun e w' => e = .returned (.tuple #[.int .i64 ((len : Int) / 16), .int .i64 (rtI zs), .int .i64 0]) ∧ Below W.heap.size W w') := fun W hb => by
    have := read_any _ zs W (hR.below hb)
    rwa [e1, e2, e3, hnb] at this
  rw [hnb] at hc hT
  have k8 : Hid (∀ w, Calls Try.prog 8 #[.int .i64 ((len : Int) / 16), .int .i64 (rtI zs)] w fun e w' => ∃ v, e = .returned (.tuple #[v, .int .i64 0]) ∧ Rd w' v (hdW ((len : Int) / 16) (rtI zs)) ∧ Below w.heap.size w w') := fun w => by
    have := words_any ((len : Int) / 16) (rtI zs) w
    rwa [(wd_yes hc).2, (wd_yes hc).1] at this
  have hs' : nbI (hdW ((len : Int) / 16) (rtI zs) ++ ys) ≠ (len : Int) / 16 := by rw [hnm]; simpa using hs
  have k10b : Hid (∀ v w, Rl w v (hdW ((len : Int) / 16) (rtI zs) ++ ys) → Calls Try.prog 10 #[v] w fun e w' => e = .returned (.tuple #[.int .i64 0, .int .i64 0, .int .i64 80]) ∧ Below w.heap.size w w') := fun v w hR => by
    have := read_any v _ w hR
    obtain ⟨f1, f2, f3⟩ := rd_no (only_other hs')
    rwa [f1, f2, f3] at this
  clear hs'
  have hcap := hR.cap
  obtain ⟨b, off, rfl, -⟩ := hR.base (by omega)
  have hT0 := hR.take 16 (by omega) (by omega)
  rw [hT] at hT0
  generalize rtI zs = r at *
  obtain ⟨T, hT2⟩ : ∃ T, T = hdW ((len : Int) / 16) r := ⟨_, rfl⟩
  have lT : T.length = 16 := by rw [hT2]; rfl
  rw [← hT2] at hT0 k8 k10b
  obtain ⟨M, hM⟩ : ∃ M, T ++ ys = M := ⟨_, rfl⟩
  have lM : M.length = 16 + len2 := by rw [← hM, List.length_append, lT, hl2]
  rw [hM] at k10b
  have HM : Hid (T ++ ys = M) := hM
  have HlT : Hid (T.length = 16) := lT
  have HlM : Hid (M.length ≤ 6000) := show M.length ≤ 6000 by omega
  have R0 : Hid (Rd w (.slice (some ⟨b, off, none⟩) 16 cap) T) := hT0
  have R2 : Hid (Rl w (.slice a2 len2 cap2) ys) := hR2
  have d1 : (16 : Int) ≤ (cap : Int) := by omega
  have d2 : (16 : Int) ≤ (len : Int) := by omega
  have b1 : len ≤ 5000 := by omega
  have b2 : len2 ≤ 5000 := by omega
  have t1 : Hid (0 = 0) := rfl
  clear hT hT0 hT2 lT hM lM hR hR2 hE hc hnb hnm e1 e2 e3 hl hl2 h32 hcap
  go_enter Try.func6, Try.ntmps6
  go_wp2_with (first
    | (go_at_call 7; refine (awake_any _).mono ?_; rintro e w1 ⟨rfl, hb1⟩; have H1 : Hid (Below w.heap.size w w1) := hb1; clear hb1)
    | (go_at_call 10; clear t1; refine (k10a.out _ H1.out).mono ?_; rintro e w2 ⟨rfl, hb2⟩; have H2 : Hid (Below w.heap.size w w2) := bstep H1.out hb2; clear hb2 k10a)
    | (go_at_call 8; refine (k8.out _).mono ?_; rintro e w3 ⟨v3, rfl, r3, hb3⟩; have R3 : Hid (Rd w3 v3 T) := r3; have H3 : Hid (Below w.heap.size w w3) := bstep H2.out hb3; clear r3 hb3)
    | (at_builtin; refine append_own_rd rfl (.tmp 53) (.tmp 55) rfl w3.heap.size (.slice (some ⟨w3.heap.size, 0, none⟩) 0 0) [] rfl (own_none w3 (Nat.le_refl _)) (.slice (some ⟨b, off, none⟩) 16 cap) T rfl (R0.out.below (bstep H3.out ((Below.refl _ _).alloc (Nat.le_refl _) _))) (by simp) (by simp) T rfl ?_; intro a4 c4 w4 o4 b4; have O4 : Hid (OwnI w4 w3.heap.size (.slice a4 T.length c4) T) := o4; have H4 : Hid (Below w3.heap.size w3 w4) := ((Below.refl _ w3).alloc (Nat.le_refl _) _).trans b4; clear o4 b4)
    | (at_builtin; refine append_own_rl rfl (.tmp 56) (.tmp 57) rfl w3.heap.size (.slice a4 T.length c4) T rfl O4.out (.slice a2 len2 cap2) ys rfl (R2.out.below (bstep H3.out H4.out)) (by rw [HlT.out]; omega) H4.out.size M HM.out ?_; intro a5 c5 w5 o5 b5; have O5 : Hid (Rl w5 (.slice a5 M.length c5) M) := o5.rl HlM.out; have H5 : Hid (Below w3.heap.size w3 w5) := H4.out.trans b5; clear o5 b5)
    | (go_at_call 10; refine (k10b.out _ _ O5.out).mono ?_; rintro e w6 ⟨rfl, hb6⟩; have H6 : Hid (Below w3.heap.size w3 w6) := bstep H5.out hb6; clear k10b hb6)
    | (go_at_call 14; refine (numbers_any _ _ T T _ (R3.out.below H6.out) (R0.out.below (bstep H3.out H6.out))).mono ?_; rintro e w7 ⟨rfl, hb7⟩; rw [decide_eq_true rfl]; have H7 : Hid (Below w.heap.size w w7) := bstep (bstep H3.out H6.out) hb7; clear hb7))
  go_ret
  exact ⟨ret_bool rfl, H7.out⟩

set_option maxRecDepth 100000 in
set_option maxHeartbeats 2000000 in
theorem walk_SuperOnly (a : Option Addr) (len cap : Nat) (a2 : Option Addr) (len2 cap2 : Nat) (w : World) (hK : RowIn w a len cap) (hK2 : RowIn w a2 len2 cap2) :
    Calls Try.prog 6 #[.slice a len cap, .slice a2 len2 cap2] w fun e w' => e = .returned (.bool true) ∧ Below w.heap.size w w' := by
  by_cases h1 : (len : Int) > 5000
  · clear hK hK2
    go_enter Try.func6, Try.ntmps6
    go_wp2_with (go_at_call 7; refine (awake_any _).mono ?_; rintro e w1 ⟨rfl, hb1⟩)
    go_ret
    exact ⟨ret_bool rfl, hb1⟩
  · by_cases h2 : (len2 : Int) > 5000
    · clear hK hK2
      go_enter Try.func6, Try.ntmps6
      go_wp2_with (go_at_call 7; refine (awake_any _).mono ?_; rintro e w1 ⟨rfl, hb1⟩)
      go_ret
      exact ⟨ret_bool rfl, hb1⟩
    · obtain ⟨zs, hl, hR, -⟩ := hK (by omega)
      obtain ⟨ys, hl2, hR2, -⟩ := hK2 (by omega)
      cases hE : rdB zs with
      | false => exact only_err a a2 len cap len2 cap2 zs w hR h1 h2 hE
      | true =>
        cases hs : ((16 + (len2 : Int)) / 16 == (len : Int) / 16) with
        | false => exact only_no a a2 len cap len2 cap2 zs ys w hl hl2 hR hR2 h1 h2 hE hs
        | true => exact only_yes a a2 len cap len2 cap2 zs ys w hl hl2 hR hR2 h1 h2 hE hs
end Go.Proofs.Ytmenkolceahebaa
