/- Layer 11: a new arena, as plain data. -/
import Derived.Test.YtgcdhenbpkcmgaaArs
namespace Go.Proofs.Ytgcdhenbpkcmgaa
open Go.RowKit Go.Shelf
set_option linter.unusedVariables false

theorem nw_form {m : Nat} (h2 : 2 ≤ m) (h : m ≤ 256) : nwL (m : Int) = hdW m 1 ++ (imN nilN ++ List.replicate (16 * m - 32) 0) := by
  have l1 := hdW_len (m : Int) 1
  have l2 : (imN nilN).length = 16 := imN_length (by decide)
  unfold nwL
  rw [if_pos (mbB_yes ⟨by omega, by omega, by omega, by omega⟩), Int.toNat_natCast]
  have e1 : splice (List.replicate (16 * m) (0 : Int)) 0 (hdW m 1) = hdW m 1 ++ List.replicate (16 * m - 16) 0 := by
    unfold splice
    rw [l1, List.take_zero, List.nil_append, List.drop_replicate, Nat.zero_add]
  rw [e1]
  unfold splice
  rw [l2, List.take_append_of_le_length (by omega), List.take_of_length_le (by omega), List.drop_append, List.drop_eq_nil_of_le (by omega), List.nil_append, l1, List.drop_replicate]
  rw [show 16 * m - 16 - (16 + 16 - 16) = 16 * m - 32 by omega]
theorem nw_len {m : Nat} (h2 : 2 ≤ m) (h : m ≤ 256) : (nwL (m : Int)).length = 16 * m := by
  have l1 := hdW_len (m : Int) 1
  have l2 : (imN nilN).length = 16 := imN_length (by decide)
  rw [nw_form h2 h, List.length_append, List.length_append, l1, l2, List.length_replicate]
  omega
theorem nw_nb {m : Nat} (h2 : 2 ≤ m) (h : m ≤ 256) : nbI (nwL (m : Int)) = m := by
  unfold nbI
  rw [nw_len h2 h]
  omega
theorem nw_rt {m : Nat} (h2 : 2 ≤ m) (h : m ≤ 256) : rtI (nwL (m : Int)) = 1 := by
  unfold rtI
  rw [nw_form h2 h, hdW_eq]
  rfl
theorem nw_rd {m : Nat} (h2 : 2 ≤ m) (h : m ≤ 256) : rdB (nwL (m : Int)) = true := by
  unfold rdB
  rw [nw_nb h2 h, nw_rt h2 h, mbB_yes ⟨by omega, by omega, by omega, by omega⟩, Bool.true_and]
  refine decide_eq_true ?_
  rw [nw_form h2 h, List.take_append_of_le_length (by rw [hdW_len]; omega), List.take_of_length_le (by rw [hdW_len]; omega)]
theorem nw_rn {m : Nat} (h2 : 2 ≤ m) (h : m ≤ 256) : rnE (nwL (m : Int)) 1 = 0 ∧ rnN (nwL (m : Int)) 1 = nilN := by
  have l2 : (imN nilN).length = 16 := imN_length (by decide)
  have hk : rnK (nwL (m : Int)) 1 = true := rnK_iff.2 ⟨by omega, by rw [nw_len h2 h]; omega⟩
  have hb : bkL (nwL (m : Int)) 1 = imN nilN := by
    unfold bkL
    rw [nw_form h2 h, List.drop_append, List.drop_eq_nil_of_le (by rw [hdW_len]; decide), hdW_len, List.nil_append, show 16 * (1 : Int).toNat - 16 = 0 from rfl, List.drop_zero, List.take_append_of_le_length (by omega), List.take_of_length_le (by omega)]
  have ho : okB (bkL (nwL (m : Int)) 1) = true := by rw [hb]; exact ok_im nil_may
  refine ⟨(rn_ok hk ho).1, ?_⟩
  rw [(rn_ok hk ho).2, hb, gu_im nil_may]
theorem nw_lv {m : Nat} (h2 : 2 ≤ m) (h : m ≤ 256) : lvA (nwL (m : Int)) = some [1] := by
  obtain ⟨e1, e2⟩ := nw_rn h2 h
  unfold lvA
  rw [if_pos (nw_rd h2 h), lvF_step (by decide) (nd_yes e1) (by rw [e2]; rfl) (by simp), e2]
  exact lvF_end _ _ _
theorem nw_snd {m : Nat} (h2 : 2 ≤ m) (h : m ≤ 256) : sndB (nwL (m : Int)) = true := by
  obtain ⟨e1, e2⟩ := nw_rn h2 h
  unfold sndB
  rw [nw_lv h2 h]
  simp only
  unfold sdB
  dsimp only
  rw [nd_yes e1, e2]
  rfl
theorem nw_low {m : Nat} (h2 : 2 ≤ m) (h : m ≤ 256) : loE (nwL (m : Int)) 1 = 0 ∧ loS (nwL (m : Int)) 1 = ByteArray.empty := by
  obtain ⟨e1, e2⟩ := nw_rn h2 h
  have hk : lowK (nwL (m : Int)) (rnN (nwL (m : Int)) 1) = true := by rw [e2]; rfl
  unfold loE loS
  rw [if_pos ⟨e1, hk⟩, if_pos ⟨e1, hk⟩, e2]
  exact ⟨rfl, rfl⟩
theorem nw_reach {m : Nat} (h2 : 2 ≤ m) (h : m ≤ 256) {L M : List Int} (hL : lvA (nwL (m : Int)) = some L) (hM : RcS (nwL (m : Int)) L M) : M = [0, 1] := by
  obtain ⟨e1, e2⟩ := nw_rn h2 h
  rw [nw_lv h2 h] at hL
  cases hL
  have hb : baseL (nwL (m : Int)) [1] = [0, 1] := by
    unfold baseL lfL
    rw [List.flatMap_cons, e2]
    rfl
  have g0 := hM.has
  have g1 := hM.only (.inr (by rw [nw_rt h2 h, e2]; rfl))
  rw [hb, nw_nb h2 h] at g0
  rw [hb] at g1
  have a0 : (0 : Int) ∈ M := g0 0 (by simp) (by omega)
  have a1 : (1 : Int) ∈ M := g0 1 (by simp) (by omega)
  have hp := hM.rise
  clear hM g0
  match M, hp, g1, a0, a1 with
  | [], _, _, a0, _ => cases a0
  | [x], _, _, a0, a1 =>
    simp only [List.mem_singleton] at a0 a1
    omega
  | x :: y :: r, hp, g1, a0, a1 =>
    rw [List.pairwise_cons, List.pairwise_cons] at hp
    have q1 := g1 x (by simp)
    have q2 := g1 y (by simp)
    have q3 := hp.1 y (by simp)
    simp only [List.mem_cons, List.not_mem_nil, or_false] at q1 q2
    obtain rfl : x = 0 := by omega
    obtain rfl : y = 1 := by omega
    cases r with
    | nil => rfl
    | cons z r =>
      have q4 := g1 z (by simp)
      have q5 := hp.2.1 z (by simp)
      simp only [List.mem_cons, List.not_mem_nil, or_false] at q4
      omega
theorem nw_fits {m : Nat} (h2 : 2 ≤ m) (h : m ≤ 256) : Fits (nwL (m : Int)) := by
  have hq : 0 ≤ ckN (m : Int) ∧ ckN (m : Int) ≤ 4294967295 := by unfold ckN Sm.ofF; omega
  have hi : ∀ z ∈ imN nilN, -9223372036854775808 ≤ z ∧ z < 9223372036854775808 := by decide
  intro z hz
  rw [nw_form h2 h, hdW_eq, List.mem_append, List.mem_append] at hz
  rcases hz with hz | hz | hz
  · unfold hdQ at hz
    simp only [List.mem_cons, List.not_mem_nil, or_false] at hz
    omega
  · exact hi z hz
  · have := List.eq_of_mem_replicate hz
    omega
theorem nil_lv : lvA [] = none := by
  unfold lvA
  rw [rdB_short (by simp)]
  rfl
theorem nil_snd : sndB [] = false := by
  unfold sndB
  rw [nil_lv]
end Go.Proofs.Ytgcdhenbpkcmgaa
