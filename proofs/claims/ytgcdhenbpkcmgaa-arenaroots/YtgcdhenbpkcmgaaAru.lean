/- Layer 11: a new arena, as plain data. · Layer 11: awake. -/
import Derived.Test.YtgcdhenbpkcmgaaArs
namespace Go.Proofs.Ytgcdhenbpkcmgaa
open Go.RowKit Go.Shelf
set_option linter.unusedVariables false

theorem nw_form {m : Nat} (h2 : 2 ≤ m) (h : m ≤ 256) : nwL (m : Int) = hdW m 1 ++ (imN nilN ++ List.replicate (16 * m - 32) 0) := by
  have l1 := hdW_len (m : Int) 1
  have l2 : (imN nilN).length = 16 := imN_length (by decide)
  unfold nwL
  rw [if_pos (mbB_yes ⟨by omega, by omega, by omega, by omega⟩), Int.toNat_natCast]
  have e1 : splice (List.replicate (16 * m) (0 : Int)) 0 (hdW m 1) = hdW m 1 ++ List.replicate (16 * m - 16) 0 := by
    unfold splice
    rw [l1, List.take_zero, List.nil_append, List.drop_replicate, Nat.zero_add]
  rw [e1]
  unfold splice
  rw [l2, List.take_append_of_le_length (by omega), List.take_of_length_le (by omega), List.drop_append, List.drop_eq_nil_of_le (by omega), List.nil_append, l1, List.drop_replicate]
  rw [show 16 * m - 16 - (16 + 16 - 16) = 16 * m - 32 by omega]
theorem nw_len {m : Nat} (h2 : 2 ≤ m) (h : m ≤ 256) : (nwL (m : Int)).length = 16 * m := by
  have l1 := hdW_len (m : Int) 1
  have l2 : (imN nilN).length = 16 := imN_length (by decide)
  rw [nw_form h2 h, List.length_append, List.length_append, l1, l2, List.length_replicate]
  omega
theorem nw_nb {m : Nat} (h2 : 2 ≤ m) (h : m ≤ 256) : nbI (nwL (m : Int)) = m := by
  unfold nbI
  rw [nw_len h2 h]
  omega
theorem nw_rt {m : Nat} (h2 : 2 ≤ m) (h : m ≤ 256) : rtI (nwL (m : Int)) = 1 := by
  unfold rtI
  rw [nw_form h2 h, hdW_eq]
  rfl
theorem nw_rd {m : Nat} (h2 : 2 ≤ m) (h : m ≤ 256) : rdB (nwL (m : Int)) = true := by
  unfold rdB
  rw [nw_nb h2 h, nw_rt h2 h, mbB_yes ⟨by omega, by omega, by omega, by omega⟩, Bool.true_and]
  refine decide_eq_true ?_
  rw [nw_form h2 h, List.take_append_of_le_length (by rw [hdW_len]; omega), List.take_of_length_le (by rw [hdW_len]; omega)]
theorem nw_rn {m : Nat} (h2 : 2 ≤ m) (h : m ≤ 256) : rnE (nwL (m : Int)) 1 = 0 ∧ rnN (nwL (m : Int)) 1 = nilN := by
  have l2 : (imN nilN).length = 16 := imN_length (by decide)
  have hk : rnK (nwL (m : Int)) 1 = true := rnK_iff.2 ⟨by omega, by rw [nw_len h2 h]; omega⟩
  have hb : bkL (nwL (m : Int)) 1 = imN nilN := by
    unfold bkL
    rw [nw_form h2 h, List.drop_append, List.drop_eq_nil_of_le (by rw [hdW_len]; decide), hdW_len, List.nil_append, show 16 * (1 : Int).toNat - 16 = 0 from rfl, List.drop_zero, List.take_append_of_le_length (by omega), List.take_of_length_le (by omega)]
  have ho : okB (bkL (nwL (m : Int)) 1) = true := by rw [hb]; exact ok_im nil_may
  refine ⟨(rn_ok hk ho).1, ?_⟩
  rw [(rn_ok hk ho).2, hb, gu_im nil_may]
theorem nw_lv {m : Nat} (h2 : 2 ≤ m) (h : m ≤ 256) : lvA (nwL (m : Int)) = some [1] := by
  obtain ⟨e1, e2⟩ := nw_rn h2 h
  unfold lvA
  rw [if_pos (nw_rd h2 h), lvF_step (by decide) (nd_yes e1) (by rw [e2]; rfl) (by simp), e2]
  exact lvF_end _ _ _
theorem nw_snd {m : Nat} (h2 : 2 ≤ m) (h : m ≤ 256) : sndB (nwL (m : Int)) = true := by
  obtain ⟨e1, e2⟩ := nw_rn h2 h
  unfold sndB
  rw [nw_lv h2 h]
  simp only
  unfold sdB
  dsimp only
  rw [nd_yes e1, e2]
  rfl
theorem nw_low {m : Nat} (h2 : 2 ≤ m) (h : m ≤ 256) : loE (nwL (m : Int)) 1 = 0 ∧ loS (nwL (m : Int)) 1 = ByteArray.empty := by
  obtain ⟨e1, e2⟩ := nw_rn h2 h
  have hk : lowK (nwL (m : Int)) (rnN (nwL (m : Int)) 1) = true := by rw [e2]; rfl
  unfold loE loS
  rw [if_pos ⟨e1, hk⟩, if_pos ⟨e1, hk⟩, e2]
  exact ⟨rfl, rfl⟩
theorem nw_reach {m : Nat} (h2 : 2 ≤ m) (h : m ≤ 256) {L M : List Int} (hL : lvA (nwL (m : Int)) = some L) (hM : RcS (nwL (m : Int)) L M) : M = [0, 1] := by
  obtain ⟨e1, e2⟩ := nw_rn h2 h
  rw [nw_lv h2 h] at hL
  cases hL
  have hb : baseL (nwL (m : Int)) [1] = [0, 1] := by
    unfold baseL lfL
    rw [List.flatMap_cons, e2]
    rfl
  have g0 := hM.has
  have g1 := hM.only (.inr (by rw [nw_rt h2 h, e2]; rfl))
  rw [hb, nw_nb h2 h] at g0
  rw [hb] at g1
  have a0 : (0 : Int) ∈ M := g0 0 (by simp) (by omega)
  have a1 : (1 : Int) ∈ M := g0 1 (by simp) (by omega)
  have hp := hM.rise
  clear hM g0
  match M, hp, g1, a0, a1 with
  | [], _, _, a0, _ => cases a0
  | [x], _, _, a0, a1 =>
    simp only [List.mem_singleton] at a0 a1
    omega
  | x :: y :: r, hp, g1, a0, a1 =>
    rw [List.pairwise_cons, List.pairwise_cons] at hp
    have q1 := g1 x (by simp)
    have q2 := g1 y (by simp)
    have q3 := hp.1 y (by simp)
    simp only [List.mem_cons, List.not_mem_nil, or_false] at q1 q2
    obtain rfl : x = 0 := by omega
    obtain rfl : y = 1 := by omega
    cases r with
    | nil => rfl
    | cons z r =>
      have q4 := g1 z (by simp)
      have q5 := hp.2.1 z (by simp)
      simp only [List.mem_cons, List.not_mem_nil, or_false] at q4
      omega
theorem nw_fits {m : Nat} (h2 : 2 ≤ m) (h : m ≤ 256) : Fits (nwL (m : Int)) := by
  have hq : 0 ≤ ckN (m : Int) ∧ ckN (m : Int) ≤ 4294967295 := by unfold ckN Sm.ofF; omega
  have hi : ∀ z ∈ imN nilN, -9223372036854775808 ≤ z ∧ z < 9223372036854775808 := by decide
  intro z hz
  rw [nw_form h2 h, hdW_eq, List.mem_append, List.mem_append] at hz
  rcases hz with hz | hz | hz
  · unfold hdQ at hz
    simp only [List.mem_cons, List.not_mem_nil, or_false] at hz
    omega
  · exact hi z hz
  · have := List.eq_of_mem_replicate hz
    omega
theorem nil_lv : lvA [] = none := by
  unfold lvA
  rw [rdB_short (by simp)]
  rfl
theorem nil_snd : sndB [] = false := by
  unfold sndB
  rw [nil_lv]
end Go.Proofs.Ytgcdhenbpkcmgaa
namespace Go.Proofs.Ytgcdhenbpkcmgaa
open Go.RowKit Go.Shelf
set_option linter.unusedVariables false

def F4 : List Int := nwL 4
theorem aw10a (w : World) : Calls Try.prog 10 #[.int .i64 4] w fun e w' => ∃ a c, e = .returned (.tuple #[.slice a 64 c, .int .i64 0]) ∧ Rl w' (.slice a 64 c) F4 ∧ Below w.heap.size w w' := by
  refine (new_any 4 w).mono ?_
  have e1 : nwE 4 = 0 := by unfold nwE; rw [mbB_yes (by decide)]; rfl
  rw [e1]
  rintro e w' ⟨v', rfl, hR', hb⟩
  obtain ⟨_, a, c, rfl, _⟩ := hR'.form
  have l : (nwL 4).length = 64 := nw_len (m := 4) (by decide) (by decide)
  rw [l] at hR' ⊢
  exact ⟨a, c, rfl, hR', hb⟩
theorem aw10b (w : World) : Calls Try.prog 10 #[.int .i64 1] w fun e w' => ∃ v, e = .returned (.tuple #[v, .int .i64 1]) ∧ Below w.heap.size w w' := by
  refine (new_any 1 w).mono ?_
  have e1 : nwE 1 = 1 := by unfold nwE; rw [mbB_no (by decide)]; rfl
  rw [e1]
  rintro e w' ⟨v', rfl, hR', hb⟩
  exact ⟨v', rfl, hb⟩
theorem aw11a (v : Value) (w : World) (hR : Rl w v F4) : Calls Try.prog 11 #[v] w fun e w' => ∃ v', e = .returned (.tuple #[v', .int .i64 0]) ∧ Rd w' v' [1] ∧ Below w.heap.size w w' := by
  have k := leaves_any v F4 w hR
  have l : lvA F4 = some [1] := nw_lv (m := 4) (by decide) (by decide)
  rw [show lvE F4 = 0 by unfold lvE; rw [l], show lvL F4 = [1] by unfold lvL; rw [l]; rfl] at k
  refine k.mono ?_
  rintro e w' ⟨v', rfl, hR', hb⟩
  exact ⟨v', rfl, hR'.rd (by decide), hb⟩
theorem aw11b (w : World) : Calls Try.prog 11 #[.slice none 0 0] w fun e w' => ∃ v, e = .returned (.tuple #[v, .int .i64 110]) ∧ Below w.heap.size w w' := by
  have k := leaves_any (.slice none 0 0) [] w (nil_rd w).rl
  rw [show lvE [] = 110 by unfold lvE; rw [nil_lv]] at k
  refine k.mono ?_
  rintro e w' ⟨v', rfl, hR', hb⟩
  exact ⟨v', rfl, hb⟩
theorem aw12 (v : Value) (w : World) (hR : Rl w v F4) : Calls Try.prog 12 #[v] w fun e w' => ∃ v', e = .returned (.tuple #[v', .int .i64 0]) ∧ Rd w' v' [0, 1] ∧ Below w.heap.size w w' := by
  have k := reach_told v F4 w hR (nw_fits (m := 4) (by decide) (by decide))
  have s : sndB F4 = true := nw_snd (m := 4) (by decide) (by decide)
  rw [show chE F4 = 0 by unfold chE; rw [s]; rfl] at k
  refine k.mono ?_
  rintro e w' ⟨v', M, rfl, hR', h1, h2, hb⟩
  obtain ⟨L, hL, hM⟩ := h1 s
  rw [nw_reach (m := 4) (by decide) (by decide) hL hM] at hR'
  exact ⟨v', rfl, hR', hb⟩
theorem aw13a (v : Value) (w : World) (hR : Rl w v F4) : Calls Try.prog 13 #[v] w fun e w' => e = .returned (.int .i64 0) ∧ Below w.heap.size w w' := by
  have k := check_any v F4 w hR (nw_fits (m := 4) (by decide) (by decide))
  have s : sndB F4 = true := nw_snd (m := 4) (by decide) (by decide)
  rwa [show chE F4 = 0 by unfold chE; rw [s]; rfl] at k
theorem aw13b (w : World) : Calls Try.prog 13 #[.slice none 0 0] w fun e w' => e = .returned (.int .i64 110) ∧ Below w.heap.size w w' := by
  have k := check_any (.slice none 0 0) [] w (nil_rd w).rl (fun z hz => by cases hz)
  rwa [show chE [] = 110 by unfold chE; rw [nil_snd]; rfl] at k
theorem aw16 (v : Value) (w : World) (hR : Rl w v F4) : Calls Try.prog 16 #[v, .int .i64 1] w fun e w' => e = .returned (.tuple #[.string ByteArray.empty, .int .i64 0]) ∧ Below w.heap.size w w' := by
  have k := low_any v F4 1 w hR (nw_fits (m := 4) (by decide) (by decide))
  obtain ⟨e1, e2⟩ : loE F4 1 = 0 ∧ loS F4 1 = ByteArray.empty := nw_low (m := 4) (by decide) (by decide)
  rwa [e1, e2] at k
theorem aw14 (u v : Value) (zs : List Int) (w : World) (hu : Rd w u zs) (hv : Rd w v zs) : Calls Try.prog 14 #[u, v] w fun e w' => e = .returned (.bool true) ∧ Below w.heap.size w w' := by
  have := numbers_any u v zs zs w hu hv
  rw [decide_eq_true rfl] at this
  exact this
theorem bal {w W : World} (h : Below w.heap.size w W) (o : Obj) : Below w.heap.size w (W.alloc o) := h.alloc h.size o

set_option maxRecDepth 100000 in
set_option maxHeartbeats 2000000 in
theorem awake_any (w : World) : Calls Try.prog 9 #[] w fun e w' => e = .returned (.bool true) ∧ Below w.heap.size w w' := by
  have t1 : Hid (0 = 0) := rfl
  have t2 : Hid (0 = 0) := rfl
  have t3 : Hid (0 = 0) := rfl
  have t4 : Hid (0 = 0) := rfl
  go_enter Try.func9, Try.ntmps9
  go_wp2_with (first
    | (clear t1; go_at_call 10; refine (aw10a _).mono ?_; rintro e w1 ⟨a1, c1, rfl, r1, hb1⟩; have R1 : Hid (Rl w1 (.slice a1 64 c1) F4) := r1; have B1 : Hid (Below w.heap.size w w1) := hb1; clear r1 hb1)
    | (clear t2; go_at_call 11; refine (aw11a _ _ R1.out).mono ?_; rintro e w2 ⟨v2, rfl, r2, hb2⟩; have R2 : Hid (Rd w2 v2 [1]) := r2; have B2 : Hid (Below w1.heap.size w1 w2) := hb2; clear r2 hb2)
    | (go_at_call 12; refine (aw12 _ _ (R1.out.below B2.out)).mono ?_; rintro e w3 ⟨v3, rfl, r3, hb3⟩; have R3 : Hid (Rd w3 v3 [0, 1]) := r3; have B3 : Hid (Below w2.heap.size w2 w3) := hb3; have C3 : Hid (Below w1.heap.size w1 w3) := bstep B2.out hb3; clear r3 hb3)
    | (go_at_call 16; refine (aw16 _ _ (R1.out.below C3.out)).mono ?_; rintro e w4 ⟨rfl, hb4⟩; have B4 : Hid (Below w3.heap.size w3 w4) := hb4; clear hb4)
    | (go_at_call 10; refine (aw10b _).mono ?_; rintro e w5 ⟨v5, rfl, hb5⟩; have B5 : Hid (Below w3.heap.size w3 w5) := bstep B4.out hb5; clear hb5)
    | (go_at_call 11; refine (aw11b _).mono ?_; rintro e w6 ⟨v6, rfl, hb6⟩; have B6 : Hid (Below w3.heap.size w3 w6) := bstep B5.out hb6; have D6 : Hid (Below w3.heap.size w3 (w6.alloc (.cells #[.int .i64 1] 3))) := bal B6.out _; clear hb6)
    | (clear t3; go_at_call 14; refine (aw14 _ _ [1] _ (R2.out.below (bstep B3.out D6.out)) (rd_lit [1] rfl (by simp))).mono ?_; rintro e w7 ⟨rfl, hb7⟩; have D7 : Hid (Below w3.heap.size w3 (w7.alloc (.cells #[.int .i64 0, .int .i64 1] 3))) := bal (bstep D6.out hb7) _; clear hb7)
    | (go_at_call 14; refine (aw14 _ _ [0, 1] _ (R3.out.below D7.out) (rd_lit [0, 1] rfl (by simp))).mono ?_; rintro e w8 ⟨rfl, hb8⟩; have D8 : Hid (Below w1.heap.size w1 w8) := bstep C3.out (bstep D7.out hb8); clear hb8)
    | (clear t4; go_at_call 13; refine (aw13a _ _ (R1.out.below D8.out)).mono ?_; rintro e w9 ⟨rfl, hb9⟩; have D9 : Hid (Below w1.heap.size w1 w9) := bstep D8.out hb9; clear hb9)
    | (go_at_call 13; refine (aw13b _).mono ?_; rintro e w10 ⟨rfl, hb10⟩; have D10 : Hid (Below w1.heap.size w1 w10) := bstep D9.out hb10; clear hb10))
  go_ret
  exact ⟨ret_bool rfl, bstep B1.out D10.out⟩
end Go.Proofs.Ytgcdhenbpkcmgaa
