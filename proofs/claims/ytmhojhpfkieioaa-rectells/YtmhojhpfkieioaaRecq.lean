/- Walks of layer 7: the document's own answers. -/
import Derived.Test.YtmhojhpfkieioaaRecl
namespace Go.Proofs.Ytmhojhpfkieioaa
open Go.RowKit Go.Shelf Classical
set_option linter.unusedVariables false

open Classical in
theorem neq52 (x y z x' y' z' : Int) (w : World) : (binOp .neq 52 (.agg #[.int .i64 x, .int .i64 y, .int .i64 z]) (.agg #[.int .i64 x', .int .i64 y', .int .i64 z'])).run Try.prog w = .ok (.bool (!decide (Mi.mk x y z = Mi.mk x' y' z'))) w := by
  have u3 := Try.underlying3
  have a3 := Try.isAgg3
  have z3 := Try.sizeOf3
  have hS : Try.prog.underlying 52 = some (.struct (Try.prog.fieldsOf 52)) := by kernel_rfl
  have hp : Try.prog.stoodInHeld 52 = false := by kernel_rfl
  rw [run_neq_struct, show (10000 : Nat) = 9999 + 1 from rfl, run_equalIn_agg w 9999 52 _ _ hS hp]
  simp only [Program.fieldsOf, Try.underlying52]
  go_simp
  by_cases h1 : x = x' <;> by_cases h2 : y = y' <;> by_cases h3 : z = z' <;> simp [h1, h2, h3]

set_option maxRecDepth 100000 in
set_option maxHeartbeats 2000000 in
/-- Steps are the same. -/
theorem sameS_any (u v : Value) (l1 l2 : List Mi) (w : World) (hu : RdS w u l1) (hv : RdS w v l2) : Calls Try.prog 18 #[u, v] w fun e w' => e = .returned (.bool (decide (l1 = l2))) ∧ Below w.heap.size w w' := by
  have hu' : Hid (RdS w u l1) := hu
  have hv' : Hid (RdS w v l2) := hv
  obtain ⟨hz, a, cap, rfl⟩ := hu.form
  obtain ⟨hy, a2, cap2, rfl⟩ := hv.form
  clear hu hv
  have q52 : ∀ (x y z x' y' z' : Int) (w : World), (binOp .neq 52 (.agg #[.int .i64 x, .int .i64 y, .int .i64 z]) (.agg #[.int .i64 x', .int .i64 y', .int .i64 z'])).run Try.prog w = .ok (.bool (!decide (Mi.mk x y z = Mi.mk x' y' z'))) w := neq52
  by_cases hl : l1.length = l2.length
  · have hl2 : ((l1.length : Int) != (l2.length : Int)) = false := by simp [hl]
    have Hl : Hid (l1.length = l2.length) := hl
    clear hl
    go_enter Try.func18, Try.ntmps18
    go_wp2
    go_loopw [5] (fun i w1 => ∃ k : Nat, k ≤ l1.length ∧ i = .int .i64 k ∧ l1.take k = l2.take k ∧ Below w.heap.size w w1) (fun i _ => l1.length - (intOf i).toNat)
    case atStart => exact ⟨0, Nat.zero_le _, rfl, rfl, Below.refl _ _⟩
    case round =>
      obtain ⟨k, hk, rfl, ht, hbel⟩ := hrel
      have Ht : Hid (l1.take k = l2.take k) := ht
      have HB : Hid (Below w.heap.size w wr) := hbel
      clear ht hbel
      by_cases hlt : k < l1.length
      · have hltI : (k : Int) < (l1.length : Int) := by omega
        have hlt2 : k < l2.length := by have := Hl.out; omega
        have hltI2 : (k : Int) < (l2.length : Int) := by omega
        obtain ⟨x, hx⟩ : ∃ x, l1[k]? = some x := ⟨_, List.getElem?_eq_getElem hlt⟩
        obtain ⟨y, hy'⟩ : ∃ y, l2[k]? = some y := ⟨_, List.getElem?_eq_getElem hlt2⟩
        obtain ⟨b, off, rfl, x0, x1, x2⟩ := (hu'.out.below HB.out).get hx
        obtain ⟨b2, off2, rfl, y0, y1, y2⟩ := (hv'.out.below HB.out).get hy'
        have Hx : Hid (l1[k]? = some x) := hx
        have Hy : Hid (l2[k]? = some y) := hy'
        clear hx hy'
        obtain ⟨xk, xa, xv⟩ := x
        obtain ⟨yk, ya, yv⟩ := y
        dsimp only at x0 x1 x2 y0 y1 y2
        by_cases hne : Mi.mk xk xa xv = Mi.mk yk ya yv
        · have hd : decide (Mi.mk xk xa xv = Mi.mk yk ya yv) = true := decide_eq_true hne
          have hq : ∀ w, (binOp .neq 52 (.agg #[.int .i64 xk, .int .i64 xa, .int .i64 xv]) (.agg #[.int .i64 yk, .int .i64 ya, .int .i64 yv])).run Try.prog w = .ok (.bool false) w := fun w => by rw [q52, hd]; rfl
          have Hn : Hid (l1.take (k + 1) = l2.take (k + 1)) := by (show _ = _; rw [take_next Hx.out, take_next Hy.out, Ht.out, hne])
          clear hne hd q52
          go_wp2
          go_quiet (fail)
          go_wp2
          go_roundw
          case rel => exact ⟨k + 1, by omega, by go_num, Hn.out, below_drewN HB.out _⟩
          case measure => simp [intOf]; omega
        · have hd : decide (Mi.mk xk xa xv = Mi.mk yk ya yv) = false := decide_eq_false hne
          have hq : ∀ w, (binOp .neq 52 (.agg #[.int .i64 xk, .int .i64 xa, .int .i64 xv]) (.agg #[.int .i64 yk, .int .i64 ya, .int .i64 yv])).run Try.prog w = .ok (.bool true) w := fun w => by rw [q52, hd]; rfl
          have Hn : Hid (decide (l1 = l2) = false) := decide_eq_false (fun e => hne (by have h1 := Hx.out; have h2 := Hy.out; rw [e, h2] at h1; cases h1; rfl))
          clear hne hd q52
          go_wp2
          go_quiet (fail)
          go_wp2
          go_ret
          exact ⟨ret_bool Hn.out.symm, below_drewN HB.out _⟩
      · have hge : ¬ (k : Int) < (l1.length : Int) := by omega
        have Hn : Hid (decide (l1 = l2) = true) := decide_eq_true (by have := Ht.out; rwa [List.take_of_length_le (by omega), List.take_of_length_le (by have := Hl.out; omega)] at this)
        go_wp2
        go_ret
        exact ⟨ret_bool Hn.out.symm, HB.out⟩
  · have hl2 : ((l1.length : Int) != (l2.length : Int)) = true := by simp; omega
    go_enter Try.func18, Try.ntmps18
    go_wp2
    go_ret
    exact ⟨ret_bool (decide_eq_false (fun e => hl (by rw [e]))).symm, Below.refl _ _⟩

set_option maxRecDepth 100000 in
set_option maxHeartbeats 2000000 in
/-- The document's Check. -/
theorem rcheckR_any (x : Rc) (w : World) : Calls Try.prog 16 #[.agg #[.int .i64 x.k, .string x.key, .string x.val, .int .i64 x.ch]] w fun e w' => e = .returned (.bool (rcB x)) ∧ Below w.heap.size w w' := by
  have B0 := (Below.refl w.heap.size w).alloc (Nat.le_refl _) (.cells #[.int .i64 x.k, .string x.key, .string x.val, .int .i64 x.ch] 23)
  by_cases h1 : x.k = 1
  · have H := rcB_1 h1
    have h1' : (x.k == 1) = true := by simpa using h1
    rw [h1] at h1' B0 ⊢
    generalize rcB x = r at H ⊢
    replace H : Hid (r = (Ky.chk x.key && Ky.chkV x.val && decide (x.ch = 0))) := H
    cases c1 : Ky.chk x.key <;> cases c2 : Ky.chkV x.val <;> rw [c1, c2] at H <;>
    · go_enter Try.func16, Try.ntmps16
      go_wp2_with (first
        | (go_at_call 29; refine (Ky.checkR_any _ _).mono ?_; rintro e w' ⟨rfl, hw⟩; rw [hw, c1]; clear hw w')
        | (go_at_call 30; refine (Ky.checkVR_any _ _).mono ?_; rintro e w' ⟨rfl, hw⟩; rw [hw, c2]; clear hw w'))
      go_ret
      exact ⟨ret_bool (by rw [H.out]; first | rfl | simp), B0⟩
  · have h1' : (x.k == 1) = false := by simpa using h1
    by_cases h2 : x.k = 2
    · have H := rcB_2 h2
      have h2' : (x.k == 2) = true := by simpa using h2
      clear h1
      rw [h2] at h1' h2' B0 ⊢
      generalize rcB x = r at H ⊢
      replace H : Hid (r = ((decide (x.key.size = 0) || Ky.chk x.key) && decide (x.val.size = 0) && decide (1 ≤ x.ch) && decide (x.ch < 256))) := H
      have hch : Hid (decide (x.ch < 256) = decide (x.ch ≤ 255)) := show _ = _ by rw [decide_eq_decide]; omega
      cases c2 : Ky.chkV x.val <;> cases c1 : Ky.chk x.key <;>
      · by_cases k0 : x.key.size = 0
        · obtain ⟨ke1, ke2⟩ := eq_toList k0
          rw [decide_eq_true k0] at H
          by_cases v0 : x.val.size = 0
          · obtain ⟨ve1, ve2⟩ := eq_toList v0
            rw [decide_eq_true v0, hch.out] at H
            clear k0 v0
            go_enter Try.func16, Try.ntmps16
            go_wp2_with (first
              | (go_at_call 29; refine (Ky.checkR_any _ _).mono ?_; rintro e w' ⟨rfl, hw⟩; rw [hw, c1]; clear hw w')
              | (go_at_call 30; refine (Ky.checkVR_any _ _).mono ?_; rintro e w' ⟨rfl, hw⟩; rw [hw, c2]; clear hw w'))
            all_goals (go_ret; exact ⟨ret_bool (by rw [H.out]; first | rfl | (simp; done) | (simp; omega) | simp_all), B0⟩)
          · obtain ⟨ve1, ve2⟩ := ne_toList v0
            rw [decide_eq_false v0] at H
            have HV0 : Hid (¬ x.val.size = 0) := v0
            clear k0 v0
            go_enter Try.func16, Try.ntmps16
            go_wp2_with (first
              | (go_at_call 29; refine (Ky.checkR_any _ _).mono ?_; rintro e w' ⟨rfl, hw⟩; rw [hw, c1]; clear hw w')
              | (go_at_call 30; refine (Ky.checkVR_any _ _).mono ?_; rintro e w' ⟨rfl, hw⟩; rw [hw, c2]; clear hw w'))
            all_goals (go_ret; exact ⟨ret_bool (by rw [H.out]; first | rfl | (simp; done) | (simp; omega) | simp_all), B0⟩)
        · obtain ⟨ke1, ke2⟩ := ne_toList k0
          rw [decide_eq_false k0, c1] at H
          by_cases v0 : x.val.size = 0
          · obtain ⟨ve1, ve2⟩ := eq_toList v0
            rw [decide_eq_true v0, hch.out] at H
            clear k0 v0
            go_enter Try.func16, Try.ntmps16
            go_wp2_with (first
              | (go_at_call 29; refine (Ky.checkR_any _ _).mono ?_; rintro e w' ⟨rfl, hw⟩; rw [hw, c1]; clear hw w')
              | (go_at_call 30; refine (Ky.checkVR_any _ _).mono ?_; rintro e w' ⟨rfl, hw⟩; rw [hw, c2]; clear hw w'))
            all_goals (go_ret; exact ⟨ret_bool (by rw [H.out]; first | rfl | (simp; done) | (simp; omega) | simp_all), B0⟩)
          · obtain ⟨ve1, ve2⟩ := ne_toList v0
            rw [decide_eq_false v0] at H
            have HV0 : Hid (¬ x.val.size = 0) := v0
            clear k0 v0
            go_enter Try.func16, Try.ntmps16
            go_wp2_with (first
              | (go_at_call 29; refine (Ky.checkR_any _ _).mono ?_; rintro e w' ⟨rfl, hw⟩; rw [hw, c1]; clear hw w')
              | (go_at_call 30; refine (Ky.checkVR_any _ _).mono ?_; rintro e w' ⟨rfl, hw⟩; rw [hw, c2]; clear hw w'))
            all_goals (go_ret; exact ⟨ret_bool (by rw [H.out]; first | rfl | (simp; done) | (simp; omega) | simp_all), B0⟩)
    · have h2' : (x.k == 2) = false := by simpa using h2
      have H : Hid (rcB x = false) := rcB_3 h1 h2
      clear h1 h2
      go_enter Try.func16, Try.ntmps16
      go_wp2_with (first
        | (go_at_call 29; refine (Ky.checkR_any _ _).mono ?_; rintro e w' ⟨rfl, hw⟩; rw [hw]; clear hw w')
        | (go_at_call 30; refine (Ky.checkVR_any _ _).mono ?_; rintro e w' ⟨rfl, hw⟩; rw [hw]; clear hw w'))
      go_ret
      exact ⟨ret_bool H.out.symm, B0⟩

set_option maxRecDepth 100000 in
/-- The document's whole blocks. -/
theorem whole_any (v : Value) (zs : List Int) (z : Int) (w : World) (hR : Rd w v zs) (hl : zs.length ≤ 300) : Calls Try.prog 25 #[v, .int .i64 z] w fun e w' => e = .returned (.bool (inB zs.length z)) ∧ Below w.heap.size w w' := by
  obtain ⟨_, a, cap, rfl⟩ := hR.form
  by_cases h0 : z ≥ 0
  · by_cases h1 : z < 4096
    · have H : Hid (inB zs.length z = decide (16 * z + 16 ≤ (zs.length : Int))) := show _ = _ by
        unfold inB
        rw [decide_eq_decide]
        omega
      go_enter Try.func25, Try.ntmps25
      go_wp2
      go_ret
      exact ⟨ret_bool H.out.symm, Below.refl _ _⟩
    · have H : Hid (inB zs.length z = false) := show _ = _ from decide_eq_false (by omega)
      go_enter Try.func25, Try.ntmps25
      go_wp2
      go_ret
      exact ⟨ret_bool H.out.symm, Below.refl _ _⟩
  · have H : Hid (inB zs.length z = false) := show _ = _ from decide_eq_false (by omega)
    go_enter Try.func25, Try.ntmps25
    go_wp2
    go_ret
    exact ⟨ret_bool H.out.symm, Below.refl _ _⟩
end Go.Proofs.Ytmhojhpfkieioaa
