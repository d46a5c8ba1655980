/- Walks of layer 6: what may be; a slot's place. -/
import Derived.Test.YtoboiahknapddaaNumm
import Derived.Test.YtoboiahknapddaaStepa
namespace Go.Proofs.Ytoboiahknapddaa
open Go.RowKit Go.Shelf
set_option linter.unusedVariables false

set_option maxRecDepth 100000 in
theorem isNode_any (b : Int) (w : World) : Calls Try.prog 40 #[.int .i64 b] w fun e w' => e = .returned (.bool (ndB b)) ∧ w' = w := by
  by_cases h1 : 0 ≤ b
  · by_cases h2 : b ≤ 4080
    · by_cases h3 : (b % 16 == 0) = true
      · have H : Hid (ndB b = true) := decide_eq_true (by simp at h3; omega)
        go_enter Try.func40, Try.ntmps40
        go_wp2
        go_ret
        exact ⟨ret_bool H.out.symm, rfl⟩
      · have h3 : (b % 16 == 0) = false := by simpa using h3
        have H : Hid (ndB b = false) := decide_eq_false (by simp at h3; omega)
        go_enter Try.func40, Try.ntmps40
        go_wp2
        go_ret
        exact ⟨ret_bool H.out.symm, rfl⟩
    · have H : Hid (ndB b = false) := decide_eq_false (by omega)
      go_enter Try.func40, Try.ntmps40
      go_wp2
      go_ret
      exact ⟨ret_bool H.out.symm, rfl⟩
  · have H : Hid (ndB b = false) := decide_eq_false (by omega)
    go_enter Try.func40, Try.ntmps40
    go_wp2
    go_ret
    exact ⟨ret_bool H.out.symm, rfl⟩

theorem plc_no1 {b s : Int} (h : ndB b = false) : plc b s = -1 := by unfold plc plB; rw [h]; rfl
theorem plc_no2 {b s : Int} (h : ¬ (0 ≤ s ∧ s ≤ 12)) : plc b s = -1 := by unfold plc plB; rw [decide_eq_false h, Bool.and_false]; rfl

set_option maxRecDepth 100000 in
theorem place_any (b s : Int) (w : World) : Calls Try.prog 19 #[.int .i64 b, .int .i64 s] w fun e w' => e = .returned (.int .i64 (plc b s)) ∧ w' = w := by
  cases e1 : ndB b
  · have H : Hid (plc b s = -1) := plc_no1 e1
    go_enter Try.func19, Try.ntmps19
    go_wp2_with (first
      | (go_at_call 40; refine (isNode_any b _).mono ?_; rintro e w' ⟨rfl, hw⟩; rw [hw, e1]; clear hw w'))
    go_ret
    exact ⟨ret_int H.out.symm, rfl⟩
  · obtain ⟨b0, b1, b2⟩ := ndB_out e1
    by_cases h1 : s < 0
    · have H : Hid (plc b s = -1) := plc_no2 (by omega)
      go_enter Try.func19, Try.ntmps19
      go_wp2_with (first
        | (go_at_call 40; refine (isNode_any b _).mono ?_; rintro e w' ⟨rfl, hw⟩; rw [hw, e1]; clear hw w'))
      go_ret
      exact ⟨ret_int H.out.symm, rfl⟩
    · by_cases h2 : 13 ≤ s
      · have H : Hid (plc b s = -1) := plc_no2 (by omega)
        go_enter Try.func19, Try.ntmps19
        go_wp2_with (first
          | (go_at_call 40; refine (isNode_any b _).mono ?_; rintro e w' ⟨rfl, hw⟩; rw [hw, e1]; clear hw w'))
        go_ret
        exact ⟨ret_int H.out.symm, rfl⟩
      · have H : Hid (plc b s = b + 3 + s) := plc_yes e1 (by omega) (by omega)
        go_enter Try.func19, Try.ntmps19
        go_wp2_with (first
          | (go_at_call 40; refine (isNode_any b _).mono ?_; rintro e w' ⟨rfl, hw⟩; rw [hw, e1]; clear hw w'))
        go_ret
        exact ⟨ret_int H.out.symm, rfl⟩

set_option maxRecDepth 100000 in
theorem hasPlace_any (v : Value) (l : List Int) (p : Int) (w : World) (hR : Rd w v l) : Calls Try.prog 39 #[v, .int .i64 p] w fun e w' => e = .returned (.bool (hpB l p)) ∧ w' = w := by
  obtain ⟨hl, a, cap, rfl⟩ := hR.form
  by_cases h1 : 0 ≤ p
  · have H : Hid (hpB l p = decide (p < (l.length : Int))) := by (show hpB l p = _; unfold hpB; simp [h1])
    go_enter Try.func39, Try.ntmps39
    go_wp2
    go_ret
    exact ⟨ret_bool H.out.symm, rfl⟩
  · have H : Hid (hpB l p = false) := decide_eq_false (by omega)
    go_enter Try.func39, Try.ntmps39
    go_wp2
    go_ret
    exact ⟨ret_bool H.out.symm, rfl⟩

theorem nonpos_any (x : Int) (w : World) : Calls Try.prog 49 #[.int .i64 x] w fun e w' => e = .returned (.bool (decide (x ≤ 0))) ∧ w' = w := by
  go_enter Try.func49, Try.ntmps49
  go_wp2
  go_ret
  exact ⟨rfl, rfl⟩
theorem enter49 : ∀ args w, (callFunc 49 args).run Try.prog w = .ok (.enter 49 args) w := enters_of Try.func49 rfl rfl
theorem posB_next {l : List Int} {k : Nat} {x : Int} (h : posB (l.take k) = true) (hx : l[k]? = some x) (h0 : 0 < x) : posB (l.take (k + 1)) = true := by
  unfold posB at *
  rw [take_next hx, List.all_append, h]
  simp [h0]
theorem posB_fail {l : List Int} {k : Nat} {x : Int} (hx : l[k]? = some x) (h0 : ¬ 0 < x) : posB l = false := by
  unfold posB
  rw [List.all_eq_false]
  exact ⟨x, List.mem_of_getElem? hx, by simpa using h0⟩

set_option maxRecDepth 100000 in
set_option maxHeartbeats 1000000 in
theorem indexFunc_any (v : Value) (l : List Int) (w : World) (hR : Rd w v l) : Calls Try.prog 58 #[v, .func (.func 49) #[] #[]] w fun e w' => ∃ z, e = .returned (.int .i64 z) ∧ (decide (0 ≤ z) = !posB l) ∧ w' = w := by
  have hR' := hR
  obtain ⟨hl, a, cap, rfl⟩ := hR.form
  have e49 := enter49
  go_enter Try.func58, Try.ntmps58
  go_wp2
  go_loop [8] (fun i => ∃ k : Nat, k ≤ l.length ∧ i = .int .i64 k ∧ posB (l.take k) = true) (fun i => l.length - (intOf i).toNat)
  case atStart => exact ⟨0, Nat.zero_le _, rfl, rfl⟩
  case round =>
    obtain ⟨k, hk, rfl, hp⟩ := hrel
    have Hp : Hid (posB (l.take k) = true) := hp
    clear hp
    by_cases hlt : k < l.length
    · obtain ⟨b, off, rfl, hc⟩ := hR'.at k hlt
      have Hx : Hid (l[k]? = some l[k]) := List.getElem?_eq_getElem hlt
      generalize l[k] = x at *
      by_cases h0 : 0 < x
      · have hd : decide (x ≤ 0) = false := decide_eq_false (by omega)
        have Hn : Hid (posB (l.take (k + 1)) = true) := posB_next Hp.out Hx.out h0
        go_wp2_with (first
          | (go_at_fn 49; refine (nonpos_any x _).mono ?_; rintro e w' ⟨rfl, hw⟩; rw [hw, hd]; clear hw w'))
        go_round
        case rel => exact ⟨k + 1, by omega, by go_num, Hn.out⟩
        case measure => simp [intOf]; omega
      · have hd : decide (x ≤ 0) = true := decide_eq_true (by omega)
        have Hn : Hid (posB l = false) := posB_fail Hx.out h0
        go_wp2_with (first
          | (go_at_fn 49; refine (nonpos_any x _).mono ?_; rintro e w' ⟨rfl, hw⟩; rw [hw, hd]; clear hw w'))
        go_ret
        exact ⟨_, rfl, by rw [Hn.out]; simp, rfl⟩
    · have Hn : Hid (posB l = true) := by (show posB l = true; have := Hp.out; rwa [List.take_of_length_le (by omega)] at this)
      go_wp2
      go_ret
      exact ⟨_, rfl, by rw [Hn.out]; rfl, rfl⟩

set_option maxRecDepth 100000 in
theorem containsFunc_any (v : Value) (l : List Int) (w : World) (hR : Rd w v l) : Calls Try.prog 48 #[v, .func (.func 49) #[] #[]] w fun e w' => e = .returned (.bool (!posB l)) ∧ w' = w := by
  have HR : Hid (Rd w v l) := hR
  obtain ⟨hl, a, cap, rfl⟩ := hR.form
  go_enter Try.func48, Try.ntmps48
  go_wp2_with (first
    | (go_at_call 58; refine (indexFunc_any _ l _ HR.out).mono ?_; rintro e w' ⟨z, rfl, hz, hw⟩; rw [hw]; clear hw w'; have Hz : Hid (decide (0 ≤ z) = !posB l) := hz; clear hz))
  go_ret
  exact ⟨ret_bool Hz.out, rfl⟩

set_option maxRecDepth 100000 in
theorem mayChange_any (b : Int) (v : Value) (l : List Int) (w : World) (hR : Rd w v l) : Calls Try.prog 33 #[.int .i64 b, v] w fun e w' => e = .returned (.bool (mcB b l)) ∧ w' = w := by
  have HR : Hid (Rd w v l) := hR
  obtain ⟨hl, a, cap, rfl⟩ := hR.form
  cases e1 : ndB b
  · have H : Hid (mcB b l = false) := by (show mcB b l = _; unfold mcB; rw [e1]; rfl)
    go_enter Try.func33, Try.ntmps33
    go_wp2_with (first
      | (go_at_call 40; refine (isNode_any b _).mono ?_; rintro e w' ⟨rfl, hw⟩; rw [hw, e1]; clear hw w'))
    go_ret
    exact ⟨ret_bool H.out.symm, rfl⟩
  · by_cases h1 : (l.length : Int) ≤ 13
    · have H : Hid (mcB b l = posB l) := by (show mcB b l = _; unfold mcB; rw [e1, decide_eq_true (show l.length ≤ 13 by omega)]; simp)
      cases e2 : posB l
      · go_enter Try.func33, Try.ntmps33
        go_wp2_with (first
          | (go_at_call 40; refine (isNode_any b _).mono ?_; rintro e w' ⟨rfl, hw⟩; rw [hw, e1]; clear hw w')
          | (go_at_call 48; refine (containsFunc_any _ l _ HR.out).mono ?_; rintro e w' ⟨rfl, hw⟩; rw [hw, e2]; clear hw w'))
        go_ret
        exact ⟨ret_bool (by rw [H.out, e2]), rfl⟩
      · go_enter Try.func33, Try.ntmps33
        go_wp2_with (first
          | (go_at_call 40; refine (isNode_any b _).mono ?_; rintro e w' ⟨rfl, hw⟩; rw [hw, e1]; clear hw w')
          | (go_at_call 48; refine (containsFunc_any _ l _ HR.out).mono ?_; rintro e w' ⟨rfl, hw⟩; rw [hw, e2]; clear hw w'))
        go_ret
        exact ⟨ret_bool (by rw [H.out, e2]), rfl⟩
    · have H : Hid (mcB b l = false) := by (show mcB b l = _; unfold mcB; rw [e1, decide_eq_false (show ¬ l.length ≤ 13 by omega)]; rfl)
      go_enter Try.func33, Try.ntmps33
      go_wp2_with (first
        | (go_at_call 40; refine (isNode_any b _).mono ?_; rintro e w' ⟨rfl, hw⟩; rw [hw, e1]; clear hw w'))
      go_ret
      exact ⟨ret_bool H.out.symm, rfl⟩
end Go.Proofs.Ytoboiahknapddaa
