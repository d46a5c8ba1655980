/- Walks of layer 8: awake. -/
import Derived.Test.YtmenkolceahebaaSupf
import Derived.Test.YtmenkolceahebaaSupg
namespace Go.Proofs.Ytmenkolceahebaa
open Go.RowKit Go.Shelf
set_option linter.unusedVariables false

def aL : List Int := hdW 2 1
theorem aL_len : aL.length = 16 := rfl
theorem aL_0 : aL[0]? = some 7015 := rfl
theorem aw8a (w : World) : Calls Try.prog 8 #[.int .i64 2, .int .i64 1] w fun e w' => ∃ a c, e = .returned (.tuple #[.slice a 16 c, .int .i64 0]) ∧ Rd w' (.slice a 16 c) aL ∧ Below w.heap.size w w' := by
  refine (words_any 2 1 w).mono ?_
  obtain ⟨h1, h2⟩ := wd_yes (show mbB 2 1 = true from rfl)
  rw [h1, h2]
  rintro e w' ⟨v, rfl, hR, hb⟩
  obtain ⟨_, a, c, rfl⟩ := hR.form
  exact ⟨a, c, rfl, hR, hb⟩
theorem aw8b (w : World) : Calls Try.prog 8 #[.int .i64 1, .int .i64 1] w fun e w' => ∃ v, e = .returned (.tuple #[v, .int .i64 1]) ∧ Below w.heap.size w w' := by
  refine (words_any 1 1 w).mono ?_
  rw [(wd_no (show mbB 1 1 = false from rfl)).2]
  rintro e w' ⟨v, rfl, _, hb⟩
  exact ⟨v, rfl, hb⟩
theorem aw10a (v : Value) (w : World) (hR : Rl w v (aL ++ List.replicate 16 0)) : Calls Try.prog 10 #[v] w fun e w' => e = .returned (.tuple #[.int .i64 2, .int .i64 1, .int .i64 0]) ∧ Below w.heap.size w w' := by
  have h := read_any v _ w hR
  obtain ⟨hb, hn⟩ := rd_back (n := 2) (r := 1) (ys := List.replicate 16 0) rfl rfl
  obtain ⟨e1, e2, e3⟩ := rd_yes hb
  have hr : rtI (hdW 2 1 ++ List.replicate 16 0) = 1 := hd_root 2 1 _
  have e : aL ++ List.replicate 16 0 = hdW 2 1 ++ List.replicate 16 0 := by rw [aL]
  rw [e, e1, e2, e3, hn, hr] at h
  exact h
theorem aw10b (v : Value) (w : World) (hR : Rd w v aL) : Calls Try.prog 10 #[v] w fun e w' => e = .returned (.tuple #[.int .i64 0, .int .i64 0, .int .i64 80]) ∧ Below w.heap.size w w' := by
  have h := read_any v _ w hR.rl
  obtain ⟨e1, e2, e3⟩ := rd_no (rdB_short (zs := aL) (by rw [aL_len]; omega))
  rw [e1, e2, e3] at h
  exact h
theorem aw12 (w : World) : Calls Try.prog 12 #[.int .i64 5, .int .i64 4] w fun e w' => ∃ a c, e = .returned (.tuple #[.slice a 2 c, .int .i64 0]) ∧ RdS w' (.slice a 2 c) [⟨1, 3, 4⟩, ⟨2, 0, 0⟩] ∧ Below w.heap.size w w' := by
  refine (root_any 5 4 w).mono ?_
  rw [rt_yes (show mbB 5 4 = true from rfl), (wd_yes (show mbB 5 4 = true from rfl)).2]
  rintro e w' ⟨v, rfl, hR, hb⟩
  obtain ⟨_, a, c, rfl⟩ := hR.form
  exact ⟨a, c, rfl, hR, hb⟩

set_option maxRecDepth 100000 in
set_option maxHeartbeats 4000000 in
theorem awake_any (w : World) : Calls Try.prog 7 #[] w fun e w' => e = .returned (.bool true) ∧ Below w.heap.size w w' := by
  have k8a := aw8a
  have k8b := aw8b
  have k10a := aw10a
  have k10b := aw10b
  have lA := aL_len
  have A0 := aL_0
  generalize aL = A at *
  obtain ⟨M, hM⟩ : ∃ M, A ++ List.replicate 16 0 = M := ⟨_, rfl⟩
  rw [hM] at k10a
  have HM : Hid (A ++ List.replicate 16 0 = M) := hM
  have HA0 : Hid (A[0]? = some 7015) := A0
  have k8a : Hid (∀ w, Calls Try.prog 8 #[.int .i64 2, .int .i64 1] w fun e w' => ∃ a c, e = .returned (.tuple #[.slice a 16 c, .int .i64 0]) ∧ Rd w' (.slice a 16 c) A ∧ Below w.heap.size w w') := k8a
  have k10a : Hid (∀ v w, Rl w v M → Calls Try.prog 10 #[v] w fun e w' => e = .returned (.tuple #[.int .i64 2, .int .i64 1, .int .i64 0]) ∧ Below w.heap.size w w') := k10a
  have k10b : Hid (∀ v w, Rd w v A → Calls Try.prog 10 #[v] w fun e w' => e = .returned (.tuple #[.int .i64 0, .int .i64 0, .int .i64 80]) ∧ Below w.heap.size w w') := k10b
  have k8b : Hid (∀ w, Calls Try.prog 8 #[.int .i64 1, .int .i64 1] w fun e w' => ∃ v, e = .returned (.tuple #[v, .int .i64 1]) ∧ Below w.heap.size w w') := k8b
  have hlM : Hid (M.length ≤ 6000) := show _ ≤ _ by rw [← hM]; simp [lA]
  have HlA : Hid (A.length = 16) := lA
  clear hM A0 lA
  go_enter Try.func7, Try.ntmps7
  go_wp2_with (first
    | (go_at_call 8; refine (k8a.out _).mono ?_; rintro e w1 ⟨a1, c1, rfl, r1, hb1⟩; have R1 : Hid (Rd w1 (.slice a1 16 c1) A) := r1; have H1 : Hid (Below w.heap.size w w1) := hb1; clear r1 hb1 k8a)
    | (at_builtin; refine append_own_rd rfl (.tmp 18) (.tmp 19) rfl w1.heap.size (.slice (some ⟨w1.heap.size, 0, none⟩) 0 0) [] rfl (own_none w1 (Nat.le_refl _)) (.slice a1 16 c1) A rfl (R1.out.below ((Below.refl _ _).alloc (Nat.le_refl _) _)) (by simp) (by simp) A rfl ?_; intro a2 c2 w2 o2 b2; have O2 : Hid (OwnI w2 w1.heap.size (.slice a2 A.length c2) A) := o2; have H2 : Hid (Below w1.heap.size w1 w2) := ((Below.refl _ w1).alloc (Nat.le_refl _) _).trans b2; clear o2 b2)
    | (at_builtin; refine append_zeros rfl (.tmp 20) _ rfl w1.heap.size a2 c2 A rfl O2.out 16 rfl (by rw [HlA.out]; omega) (by rw [HlA.out]; omega) (by omega) (by omega) H2.out.size M HM.out ?_; intro a3 c3 w3 o3 b3; have O3 : Hid (Rl w3 (.slice a3 M.length c3) M) := o3.rl hlM.out; have H3 : Hid (Below w1.heap.size w1 w3) := H2.out.trans b3; clear o3 b3)
    | (go_at_call 10; refine (k10a.out _ _ O3.out).mono ?_; rintro e w4 ⟨rfl, hb4⟩; have H4 : Hid (Below w1.heap.size w1 w4) := bstep H3.out hb4; clear k10a)
    | (go_at_call 10; refine (k10b.out _ _ (R1.out.below H4.out)).mono ?_; rintro e w5 ⟨rfl, hb5⟩; have H5 : Hid (Below w1.heap.size w1 w5) := bstep H4.out hb5; clear k10b)
    | (go_at_call 12; refine (aw12 _).mono ?_; rintro e w6 ⟨a6, c6, rfl, r6, hb6⟩; have R6 : Hid (RdS w6 (.slice a6 2 c6) [⟨1, 3, 4⟩, ⟨2, 0, 0⟩]) := r6; have H6 : Hid (Below w1.heap.size w1 w6) := bstep H5.out hb6; clear r6 hb6)
    | (go_at_call 8; refine (k8b.out _).mono ?_; rintro e w7 ⟨v7, rfl, hb7⟩; have H7 : Hid (Below w1.heap.size w1 w7) := bstep H6.out hb7; obtain ⟨b, off, rfl, hc⟩ := (R1.out.below H7.out).base (by rw [HlA.out]; omega); have x0 := hc 0 7015 HA0.out; rw [Nat.add_zero] at x0; obtain ⟨b6, off6, rfl, y0, y1, y2⟩ := (R6.out.below hb7).get (k := 0) (x := ⟨1, 3, 4⟩) rfl; simp only [Nat.zero_mul, Nat.add_zero] at y0 y1 y2; (try dsimp only at y0 y1 y2); clear hc hb7))
  go_ret
  exact ⟨ret_bool rfl, bstep H1.out H7.out⟩
end Go.Proofs.Ytmenkolceahebaa
