/- Walks of layer 10: isBlock, Check, the document's Check and In. -/
import Derived.Test.YtpfbnfnlbjjjoaaBase
import Derived.Test.YtpfbnfnlbjjjoaaNums
namespace Go.Proofs.Ytpfbnfnlbjjjoaa
open Go.RowKit
set_option linter.unusedVariables false

theorem isBlock_any (x : Int) (w : World) : Calls Try.prog 19 #[.int .i64 x] w fun e w' => e = .returned (.bool (isB x)) ∧ w' = w := by
  by_cases h1 : 1 ≤ x
  · have H : Hid (isB x = decide (x < 256)) := by
      show isB x = _
      unfold isB
      simp [h1]
    go_enter Try.func19, Try.ntmps19
    go_wp2
    go_ret
    exact ⟨ret_bool H.out.symm, rfl⟩
  · have H : Hid (isB x = false) := decide_eq_false (by omega)
    go_enter Try.func19, Try.ntmps19
    go_wp2
    go_ret
    exact ⟨ret_bool H.out.symm, rfl⟩

set_option maxRecDepth 100000 in
set_option maxHeartbeats 1000000 in
theorem check_any (v : Value) (zs : List Int) (w : World) (hR : Rd w v zs) : Calls Try.prog 16 #[v] w fun e w' => e = .returned (.bool (chk zs)) ∧ w' = w := by
  have hR' : Hid (Rd w v zs) := hR
  obtain ⟨hz, a, cap, rfl⟩ := hR.form
  clear hR
  have h0 : Hid (chk (zs.take 0) = true) := rfl
  have h0l : Hid (lastD 0 (zs.take 0) = 0) := rfl
  go_enter Try.func16, Try.ntmps16
  go_wp2
  go_loop [3, 8] (fun s3 s8 => ∃ k : Nat, k ≤ zs.length ∧ s8 = .int .i64 k ∧ s3 = .int .i64 (lastD 0 (zs.take k)) ∧ chk (zs.take k) = true) (fun _ s8 => zs.length - (intOf s8).toNat)
  case atStart => exact ⟨0, Nat.zero_le _, rfl, by rw [h0l.out], h0.out⟩
  case round =>
    obtain ⟨k, hk, rfl, rfl, hc⟩ := hrel
    have Hc : Hid (chk (zs.take k) = true) := hc
    clear hc
    by_cases hlt : k < zs.length
    · have hltI : (k : Int) < (zs.length : Int) := by omega
      obtain ⟨x, hx⟩ : ∃ x, zs[k]? = some x := ⟨_, List.getElem?_eq_getElem hlt⟩
      obtain ⟨b, off, rfl, hcell⟩ := hR'.out.at k hlt
      rw [show zs[k] = x from by rw [List.getElem?_eq_getElem hlt] at hx; exact Option.some.inj hx] at hcell
      have Hx : Hid (zs[k]? = some x) := hx
      have N1 : Hid (chk (zs.take (k + 1)) = (chk (zs.take k) && (isB x && decide (lastD 0 (zs.take k) < x)))) := chk_next hx
      have N2 : Hid (lastD 0 (zs.take (k + 1)) = x) := last_next hx
      clear hx
      generalize lastD 0 (zs.take k) = L at *
      cases hb : isB x with
      | false =>
        have F : Hid (chk zs = false) := chk_part (k := k + 1) (by rw [N1.out, hb]; simp)
        go_wp2_with (go_at_call 19; refine (isBlock_any x _).mono ?_; rintro e w' ⟨rfl, rfl⟩; rw [hb])
        go_ret
        exact ⟨ret_bool F.out.symm, rfl⟩
      | true =>
        by_cases hl : x ≤ L
        · have F : Hid (chk zs = false) := chk_part (k := k + 1) (by rw [N1.out, decide_eq_false (by omega : ¬ L < x)]; simp)
          go_wp2_with (go_at_call 19; refine (isBlock_any x _).mono ?_; rintro e w' ⟨rfl, rfl⟩; rw [hb])
          go_ret
          exact ⟨ret_bool F.out.symm, rfl⟩
        · have F : Hid (chk (zs.take (k + 1)) = true) := (by show _ = _; rw [N1.out, Hc.out, hb, decide_eq_true (by omega : L < x)]; rfl)
          go_wp2_with (go_at_call 19; refine (isBlock_any x _).mono ?_; rintro e w' ⟨rfl, rfl⟩; rw [hb])
          go_round
          case rel => exact ⟨k + 1, by omega, by go_num, by rw [N2.out], F.out⟩
          case measure => simp [intOf]; omega
    · have hge : ¬ (k : Int) < (zs.length : Int) := by omega
      have F : Hid (chk zs = true) := (by show _ = _; rw [List.take_of_length_le (by omega)] at Hc; exact Hc.out)
      go_wp2
      go_ret
      exact ⟨ret_bool F.out.symm, rfl⟩

set_option maxRecDepth 100000 in
set_option maxHeartbeats 1000000 in
theorem in_any (v : Value) (zs : List Int) (n : Int) (w : World) (hR : Rd w v zs) : Calls Try.prog 18 #[v, .int .i64 n] w fun e w' => e = .returned (.bool (decide (n ∈ zs))) ∧ w' = w := by
  have hR' : Hid (Rd w v zs) := hR
  obtain ⟨hz, a, cap, rfl⟩ := hR.form
  clear hR
  have h0 : Hid (n ∉ zs.take 0) := (by show _ ∉ _; simp)
  go_enter Try.func18, Try.ntmps18
  go_wp2
  go_loop [5] (fun s5 => ∃ k : Nat, k ≤ zs.length ∧ s5 = .int .i64 k ∧ n ∉ zs.take k) (fun s5 => zs.length - (intOf s5).toNat)
  case atStart => exact ⟨0, Nat.zero_le _, rfl, h0.out⟩
  case round =>
    obtain ⟨k, hk, rfl, hc⟩ := hrel
    have Hc : Hid (n ∉ zs.take k) := hc
    clear hc
    by_cases hlt : k < zs.length
    · have hltI : (k : Int) < (zs.length : Int) := by omega
      obtain ⟨x, hx⟩ : ∃ x, zs[k]? = some x := ⟨_, List.getElem?_eq_getElem hlt⟩
      obtain ⟨b, off, rfl, hcell⟩ := hR'.out.at k hlt
      rw [show zs[k] = x from by rw [List.getElem?_eq_getElem hlt] at hx; exact Option.some.inj hx] at hcell
      by_cases he : x = n
      · have F : Hid (decide (n ∈ zs) = true) := decide_eq_true (by rw [← he]; exact List.mem_of_getElem? hx)
        clear hx
        go_wp2
        go_ret
        exact ⟨ret_bool F.out.symm, rfl⟩
      · have F : Hid (n ∉ zs.take (k + 1)) := (by show _ ∉ _; rw [take_next' hx, List.mem_append, List.mem_singleton]; rintro (h | h); · exact Hc.out h
                                                  · exact he h.symm)
        clear hx
        go_wp2
        go_round
        case rel => exact ⟨k + 1, by omega, by go_num, F.out⟩
        case measure => simp [intOf]; omega
    · have hge : ¬ (k : Int) < (zs.length : Int) := by omega
      have F : Hid (decide (n ∈ zs) = false) := decide_eq_false (by have := Hc.out; rwa [List.take_of_length_le (by omega)] at this)
      go_wp2
      go_ret
      exact ⟨ret_bool F.out.symm, rfl⟩
end Go.Proofs.Ytpfbnfnlbjjjoaa
