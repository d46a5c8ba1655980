/- Layer 11: the walk of ArenaDamage. -/
import Derived.Test.YtgcdhenbpkcmgaaLawo
namespace Go.Proofs.Ytgcdhenbpkcmgaa.Sm
open Go.RowKit
theorem wdU_zero (c n : Nat) : wdU c n 0 = c := rfl
theorem wd_eq (c n : Nat) : wd c n = wdU c n 8 := rfl
/-- A byte more behind 8k moves, as a turn ahead of them. -/
theorem byF_up (k t b : Nat) : byF (mvs k t) b = mvs (8 + k) (t ^^^ 2 ^ k * b) := by
  unfold byF
  rw [mvs_add, mvs_xor k, mvs_up]
theorem four_nought {b0 b1 b2 b3 : Nat} (h0 : b0 < 256) (h1 : b1 < 256) (h2 : b2 < 256) (h3 : b3 < 256) (e : byF (byF (byF (byF 0 b0) b1) b2) b3 = 0) : b0 = 0 ∧ b1 = 0 ∧ b2 = 0 ∧ b3 = 0 := by
  have s0 : byF 0 b0 = mvs 8 b0 := by unfold byF; rw [Nat.zero_xor]
  rw [s0, byF_up, byF_up, byF_up] at e
  have j1 : b0 ^^^ 2 ^ 8 * b1 = 2 ^ 8 * b1 + b0 := by rw [Nat.xor_comm, join_xor 8 _ _ (by omega)]
  rw [j1] at e
  have j2 : (2 ^ 8 * b1 + b0) ^^^ 2 ^ (8 + 8) * b2 = 2 ^ 16 * b2 + (2 ^ 8 * b1 + b0) := by rw [Nat.xor_comm, join_xor 16 _ _ (by omega)]
  rw [j2] at e
  have j3 : (2 ^ 16 * b2 + (2 ^ 8 * b1 + b0)) ^^^ 2 ^ (8 + (8 + 8)) * b3 = 2 ^ 24 * b3 + (2 ^ 16 * b2 + (2 ^ 8 * b1 + b0)) := by rw [Nat.xor_comm, join_xor 24 _ _ (by omega)]
  rw [j3] at e
  have := mvs_inj0 _ (by omega) e
  omega
theorem wdU_noughts {n : Nat} (k : Nat) (h : ∀ i, i < k → bt n i = 0) : wdU 0 n k = 0 := by
  induction k with
  | zero => rfl
  | succ k ih => rw [wdU_succ, ih (fun i hi => h i (by omega)), h k (by omega)]; rfl
theorem wd_low {n : Nat} (h : n < 4294967296) (e : wd 0 n = 0) : n = 0 := by
  have h4 : wdU 0 n 4 = 0 := wdU_noughts 4 (fun i hi => by
    unfold bt
    rw [Nat.div_eq_of_lt (Nat.lt_of_lt_of_le h (show 2 ^ 32 ≤ _ from Nat.pow_le_pow_right (by decide) (by omega)))])
  rw [wd_eq, wdU_succ, wdU_succ, wdU_succ, wdU_succ, h4] at e
  have := four_nought (bt_lt _ _) (bt_lt _ _) (bt_lt _ _) (bt_lt _ _) e
  unfold bt at this
  omega
theorem byF_nz {s : Nat} (hs : s < 4294967296) (e : byF s 0 = 0) : s = 0 := by
  unfold byF at e
  rw [Nat.xor_zero] at e
  exact mvs_inj0 8 hs e
theorem wd_high {n : Nat} (h : n < 4294967296) (e : wd 0 (4294967296 * n) = 0) : n = 0 := by
  have hz : ∀ i, 4 ≤ i → i < 8 → bt (4294967296 * n) i = 0 := by
    intro i hi hi8
    unfold bt
    obtain rfl | rfl | rfl | rfl : i = 4 ∨ i = 5 ∨ i = 6 ∨ i = 7 := by omega
    all_goals omega
  rw [wd_eq, wdU_succ, hz 7 (by omega) (by omega)] at e
  have e := byF_nz (wdU_lt _ _ (by omega)) e
  rw [wdU_succ, hz 6 (by omega) (by omega)] at e
  have e := byF_nz (wdU_lt _ _ (by omega)) e
  rw [wdU_succ, hz 5 (by omega) (by omega)] at e
  have e := byF_nz (wdU_lt _ _ (by omega)) e
  rw [wdU_succ, hz 4 (by omega) (by omega)] at e
  have e := byF_nz (wdU_lt _ _ (by omega)) e
  rw [wdU_succ, wdU_succ, wdU_succ, wdU_succ, wdU_zero] at e
  have := four_nought (bt_lt _ _) (bt_lt _ _) (bt_lt _ _) (bt_lt _ _) e
  unfold bt at this
  omega

theorem xor_bd (a b : Int) : -9223372036854775808 ≤ bits .xor .i64 a b ∧ bits .xor .i64 a b < 9223372036854775808 := by
  show _ ≤ IntKind.i64.wrap ((BitVec.ofInt 64 a ^^^ BitVec.ofInt 64 b).toNat : Int) ∧ IntKind.i64.wrap ((BitVec.ofInt 64 a ^^^ BitVec.ofInt 64 b).toNat : Int) < _
  rw [IntKind.wrap_i64]
  omega
theorem u64_high (d : Nat) (h : d < 4294967296) : u64 (wrap64 ((d : Int) * 4294967296)) = 4294967296 * d := by unfold u64 wrap64; omega
end Go.Proofs.Ytgcdhenbpkcmgaa.Sm
namespace Go.Proofs.Ytgcdhenbpkcmgaa
open Go.RowKit Go.Shelf
set_option linter.unusedVariables false

theorem wf_u32 {z : Int} (h : (Lit.int .u32 z).wf = true) : ∃ n : Nat, z = (n : Int) ∧ n < 4294967296 := by
  simp [Lit.wf, IntKind.min, IntKind.max, IntKind.bits, IntKind.signed] at h
  exact ⟨z.toNat, by omega, by omega⟩
theorem rem_nums (m : Nat) (h : m < 256) : ∃ j : Nat, (m : Int) % 16 = (j : Int) ∧ j < 16 ∧ (m : Int).tmod 16 = (j : Int) ∧ IntKind.u8.wrap (j : Int) = (j : Int) ∧ IntKind.i64.wrap (j : Int) = (j : Int) ∧ m % 16 = j ∧ IntKind.u8.wrap 16 = 16 := by
  refine ⟨m % 16, by omega, by omega, ?_, ?_, ?_, rfl, by rfl⟩
  · rw [Int.tmod_eq_emod_of_nonneg (by omega)]; omega
  · simp [IntKind.wrap, IntKind.bits, IntKind.signed]; omega
  · rw [IntKind.wrap_i64]; omega
theorem at_nums {n j N : Nat} (hn9 : n < 256) (hj9 : j < 16) (hn : 16 * n + 16 ≤ N) :
    (IntKind.i64.wrap (16 * (n : Int)) = 16 * (n : Int)) ∧ (wrap64 (16 * (n : Int)) = 16 * (n : Int)) ∧ (wrap64 (16 * (n : Int) + (j : Int)) = 16 * (n : Int) + (j : Int)) ∧ (IntKind.i64.wrap (16 * (n : Int) + (j : Int)) = 16 * (n : Int) + (j : Int)) ∧ ((0 : Int) ≤ 16 * (n : Int) + (j : Int)) ∧ (16 * (n : Int) + (j : Int) < (N : Int)) ∧ ((16 * (n : Int) + (j : Int)).toNat = 16 * n + j) ∧ (decide ((N : Int) ≤ 16 * (n : Int) + (j : Int)) = false) :=
  ⟨by rw [IntKind.wrap_i64]; omega, by unfold wrap64; omega, by unfold wrap64; omega, by rw [IntKind.wrap_i64]; omega, by omega, by omega, by omega, decide_eq_false (by omega)⟩
theorem at_lt {n j N : Nat} (h : 16 * n + 16 ≤ N) (hj : j < 16) : 16 * n + j < N ∧ 0 < N := ⟨by omega, by omega⟩
/-- What is told of the arena, once its word was changed. -/
theorem dam_told {zs L : List Int} (hL : lvA zs = some L) (hs : sndB zs = true) (hF : Fits zs) {b : Int} {n j : Nat} (hb : b ∈ L) (hsl : (n : Int) ∈ (rnN zs b).sl) (hn : 16 * n + 16 ≤ zs.length) (hj : j < 16) {y : Int} (hy : zs[16 * n + j]? = some y) (d : Int) (hd : Sm.wd 0 (Sm.u64 d) ≠ 0) :
    ∀ v W, Rl W v (zs.set (16 * n + j) (bits .xor .i64 y d)) → Calls Try.prog 13 #[v] W fun e w' => e = .returned (.int .i64 110) ∧ Below W.heap.size W w' := by
  have h := dam_snd hL hs hb hsl hn hj d hd
  obtain ⟨hk, rfl⟩ := List.getElem?_eq_some_iff.1 hy
  exact (told_no h (fits_set hF _ _ (Sm.xor_bd _ _))).2

set_option maxRecDepth 100000 in
set_option maxHeartbeats 4000000 in
theorem walk_ArenaDamage (a1 : Option Addr) (len1 cap1 : Nat) (lf st tt by' : Int) (high : Bool) (w : World) (h1 : RowIn w a1 len1 cap1) (fl : (Lit.int .u8 lf).wf = true) (fs : (Lit.int .u8 st).wf = true) (ft : (Lit.int .u8 tt).wf = true) (fd : (Lit.int .u32 by').wf = true) :
    Calls Try.prog 7 #[.slice a1 len1 cap1, .int .u8 lf, .int .u8 st, .int .u8 tt, .int .u32 by', .bool high] w fun e w' => e = .returned (.bool true) ∧ Below w.heap.size w w' := by
  obtain ⟨p, rfl, hp9⟩ := wf_u8 fl
  obtain ⟨q, rfl, hq9⟩ := wf_u8 fs
  obtain ⟨m, rfl, hm9⟩ := wf_u8 ft
  obtain ⟨d, rfl, hd9⟩ := wf_u32 fd
  have hqw : IntKind.i64.wrap (q : Int) = (q : Int) := by rw [IntKind.wrap_i64]; omega
  clear fl fs ft fd
  by_cases g1 : (len1 : Int) > 1000
  · clear h1
    go_enter Try.func7, Try.ntmps7
    go_wp2_with (go_at_call 9; refine (awake_any _).mono ?_; rintro e w1 ⟨rfl, hb1⟩)
    go_ret
    exact ⟨ret_bool rfl, hb1⟩
  by_cases g2 : ((d : Int) == 0) = true
  · clear h1
    go_enter Try.func7, Try.ntmps7
    go_wp2_with (go_at_call 9; refine (awake_any _).mono ?_; rintro e w1 ⟨rfl, hb1⟩)
    go_ret
    exact ⟨ret_bool rfl, hb1⟩
  have g2 : ((d : Int) == 0) = false := by simpa using g2
  have hd0 : d ≠ 0 := by simp at g2; omega
  obtain ⟨zs, rfl, R1, F1⟩ := h1 (by omega)
  have F1 : Fits zs := F1
  have HR : Hid (Rl w (.slice a1 zs.length cap1) zs) := R1
  have H9 : Hid (zs.length ≤ 1000) := show zs.length ≤ 1000 by omega
  clear h1 R1
  cases hs : sndB zs with
  | false =>
    have K13 : Hid (∀ v W, Rl W v zs → Calls Try.prog 13 #[v] W fun e w' => e = .returned (.int .i64 110) ∧ Below W.heap.size W w') := (told_no hs F1).2
    clear hs F1
    go_enter Try.func7, Try.ntmps7
    go_wp2_with (first
      | (go_at_call 9; refine (awake_any _).mono ?_; rintro e w1 ⟨rfl, hb1⟩; have B1 : Hid (Below w.heap.size w w1) := hb1; clear hb1)
      | (go_at_call 13; refine (K13.out _ _ (HR.out.below B1.out)).mono ?_; rintro e w4 ⟨rfl, hb4⟩; have B4 : Hid (Below w.heap.size w w4) := bstep B1.out hb4; clear hb4))
    go_ret
    exact ⟨ret_bool rfl, B4.out⟩
  | true =>
    obtain ⟨L, hL⟩ := snd_leaves hs
    have K13 : Hid (∀ v W, Rl W v zs → Calls Try.prog 13 #[v] W fun e w' => e = .returned (.int .i64 0) ∧ Below W.heap.size W w') := (told_yes hL hs F1).2.1
    have K11 : Hid (∀ v W, Rl W v zs → Calls Try.prog 11 #[v] W fun e w' => ∃ v', e = .returned (.tuple #[v', .int .i64 0]) ∧ Rd w' v' L ∧ Below W.heap.size W w') := (told_yes hL hs F1).2.2
    obtain ⟨_, _, hok, hhd⟩ := lvA_out hL
    have hL0 : 0 < L.length := by
      cases L with
      | nil => simp at hhd
      | cons b L => simp
    have e0 : ((L.length : Int) == 0) = false := by simp; intro h; rw [h] at hL0; exact absurd hL0 (by simp)
    obtain ⟨r1, r2, r3, r4⟩ := rem_of p L.length (by omega) hL0
    obtain ⟨i, hi⟩ : ∃ i, p % L.length = i := ⟨_, rfl⟩
    have hi9 : i < L.length := by rw [← hi]; exact Nat.mod_lt _ hL0
    rw [hi] at r1 r2 r3 r4
    have hiI : (i : Int) < (L.length : Int) := by omega
    obtain ⟨b, hb⟩ : ∃ b, L[i]? = some b := ⟨_, List.getElem?_eq_getElem hi9⟩
    have HLb : Hid (L[i]? = some b) := hb
    have hbL : b ∈ L := List.mem_of_getElem? hb
    have hE := (hok b hbL).2.1
    have hmay := (rn_may hE).2
    obtain ⟨n, hn⟩ : ∃ n, n = rnN zs b := ⟨_, rfl⟩
    have K17 : Hid (∀ W, Rl W (.slice a1 zs.length cap1) zs → Calls Try.prog 17 #[.slice a1 zs.length cap1, .int .i64 b] W fun e w' => ∃ v', e = .returned (.tuple #[.agg #[.int .i64 n.lv, .int .i64 n.tu, .int .i64 n.nx, .int .i64 n.lo, v'], .int .i64 0]) ∧ OwnI w' W.heap.size v' n.sl ∧ Below W.heap.size W w') := fun W h => by
      have := read_any _ zs b W h
      rw [hE, ← hn] at this
      exact this
    rw [← hn] at hmay
    have Hsl13 : Hid (n.sl.length ≤ 13) := hmay.len
    have HSL : Hid (∀ s ∈ n.sl, 1 ≤ s ∧ s ≤ 255 ∧ 16 * s.toNat + 16 ≤ zs.length) := fun s h => by
      have h2 := hmay.sl s h
      have h3 := rec_in (slot_rec hL hs hbL (by rw [← hn]; exact h))
      exact ⟨h2.1, h2.2, h3.2.1⟩
    have HDM : Hid (∀ (t j : Nat) (y : Int), (t : Int) ∈ n.sl → 16 * t + 16 ≤ zs.length → j < 16 → zs[16 * t + j]? = some y → ∀ e : Int, Sm.wd 0 (Sm.u64 e) ≠ 0 → ∀ v W, Rl W v (zs.set (16 * t + j) (bits .xor .i64 y e)) → Calls Try.prog 13 #[v] W fun e w' => e = .returned (.int .i64 110) ∧ Below W.heap.size W w') := fun t j y h1 h2 h3 h4 e h5 => dam_told hL hs F1 hbL (by rw [← hn]; exact h1) h2 h3 h4 e h5
    clear hs F1 hL hok hhd hb hbL hE hmay hn hL0 hi hi9
    by_cases h0 : n.sl.length = 0
    · have es : ((n.sl.length : Int) == 0) = true := by simp [h0]
      clear h0
      go_enter Try.func7, Try.ntmps7
      go_wp2_with (first
        | (go_at_call 9; refine (awake_any _).mono ?_; rintro e w1 ⟨rfl, hb1⟩; have B1 : Hid (Below w.heap.size w w1) := hb1; clear hb1)
        | (go_at_call 13; refine (K13.out _ _ (HR.out.below B1.out)).mono ?_; rintro e w2 ⟨rfl, hb2⟩; have B2 : Hid (Below w.heap.size w w2) := bstep B1.out hb2; clear hb2)
        | (go_at_call 11; refine (K11.out _ _ (HR.out.below B2.out)).mono ?_; rintro e w3 ⟨v3, rfl, r3', hb3⟩; obtain ⟨_, a3, c3, rfl⟩ := r3'.form; obtain ⟨b0, off0, rfl, hcell⟩ := at_of r3' HLb.out; have B3 : Hid (Below w.heap.size w w3) := bstep B2.out hb3; clear r3' hb3)
        | (go_at_call 17; refine (K17.out _ (HR.out.below B3.out)).mono ?_; rintro e w4 ⟨v4, rfl, o4, hb4⟩; obtain ⟨a4, c4, rfl⟩ := o4.form; obtain ⟨z0, z1, z2, z3, z4⟩ := (nb_new w4 n.lv n.tu n.nx n.lo (.slice a4 n.sl.length c4)).c; have B4 : Hid (Below w.heap.size w (w4.alloc (.cells #[.int .i64 n.lv, .int .i64 n.tu, .int .i64 n.nx, .int .i64 n.lo, .slice a4 n.sl.length c4] 37))) := bal (bstep B3.out hb4) _; clear o4 hb4))
      go_ret
      exact ⟨ret_bool rfl, B4.out⟩
    have es : ((n.sl.length : Int) == 0) = false := by simp; intro h; rw [h] at h0; exact h0 rfl
    have hne : ¬ n.sl = [] := fun h => h0 (by rw [h]; rfl)
    obtain ⟨u1, u2, u3, u4⟩ := rem_of q n.sl.length (by omega) (by omega)
    obtain ⟨k, hk⟩ : ∃ k, q % n.sl.length = k := ⟨_, rfl⟩
    have hk9 : k < n.sl.length := by rw [← hk]; exact Nat.mod_lt _ (by omega)
    rw [hk] at u1 u2 u3 u4
    have hkI : (k : Int) < (n.sl.length : Int) := by omega
    obtain ⟨s, hs⟩ : ∃ s, n.sl[k]? = some s := ⟨_, List.getElem?_eq_getElem hk9⟩
    have HSk : Hid (n.sl[k]? = some s) := hs
    obtain ⟨s1, s2, s3⟩ := HSL.out s (List.mem_of_getElem? hs)
    obtain ⟨t, rfl⟩ : ∃ t : Nat, s = (t : Int) := ⟨s.toNat, by omega⟩
    have ht : 16 * t + 16 ≤ zs.length := s3
    have ht9 : t < 256 := by omega
    obtain ⟨j, hj, hj9, j1, j2, j3, j4, j5⟩ := rem_nums m hm9
    obtain ⟨x1, x2, x3, x4, x5, x6, x7, x8⟩ := at_nums ht9 hj9 ht
    have X7 : Hid ((16 * (t : Int) + (j : Int)).toNat = 16 * t + j) := x7
    obtain ⟨y, hy⟩ : ∃ y, zs[16 * t + j]? = some y := ⟨_, List.getElem?_eq_getElem (at_lt ht hj9).1⟩
    have HY : Hid (zs[16 * t + j]? = some y) := hy
    have hn0 : 0 < zs.length := (at_lt ht hj9).2
    have Hlen : Hid ((zs.set (16 * t + j) y).length = zs.length) := show _ = _ from List.length_set ..
    have HDM2 : Hid (∀ e : Int, Sm.wd 0 (Sm.u64 e) ≠ 0 → ∀ v W, Rl W v (zs.set (16 * t + j) (bits .xor .i64 y e)) → Calls Try.prog 13 #[v] W fun e w' => e = .returned (.int .i64 110) ∧ Below W.heap.size W w') := HDM.out t j y (List.mem_of_getElem? hs) ht hj9 hy
    clear hs s1 s2 s3 hy HDM HSL x7 hk h0 ht
    go_enter Try.func7, Try.ntmps7
    go_wp2_with (first
      | (go_at_call 9; refine (awake_any _).mono ?_; rintro e w1 ⟨rfl, hb1⟩; have B1 : Hid (Below w.heap.size w w1) := hb1; clear hb1)
      | (go_at_call 13; refine (K13.out _ _ (HR.out.below B1.out)).mono ?_; rintro e w2 ⟨rfl, hb2⟩; have B2 : Hid (Below w.heap.size w w2) := bstep B1.out hb2; clear hb2)
      | (go_at_call 11; refine (K11.out _ _ (HR.out.below B2.out)).mono ?_; rintro e w3 ⟨v3, rfl, r3', hb3⟩; obtain ⟨_, a3, c3, rfl⟩ := r3'.form; obtain ⟨b0, off0, rfl, hcell⟩ := at_of r3' HLb.out; have B3 : Hid (Below w.heap.size w w3) := bstep B2.out hb3; clear r3' hb3)
      | (go_at_call 17; refine (K17.out _ (HR.out.below B3.out)).mono ?_; rintro e w4 ⟨v4, rfl, o4, hb4⟩; obtain ⟨a4, c4, rfl⟩ := o4.form; have O4 : Hid (Rd w4 (.slice a4 n.sl.length c4) n.sl) := o4.rd (by have := Hsl13.out; omega); have NB4 : Hid (Nb (w4.alloc (.cells #[.int .i64 n.lv, .int .i64 n.tu, .int .i64 n.nx, .int .i64 n.lo, .slice a4 n.sl.length c4] 37)) w4.heap.size n.lv n.tu n.nx n.lo (.slice a4 n.sl.length c4)) := nb_new w4 n.lv n.tu n.nx n.lo (.slice a4 n.sl.length c4); obtain ⟨z0, z1, z2, z3, z4⟩ := NB4.out.c; have B4 : Hid (Below w.heap.size w (w4.alloc (.cells #[.int .i64 n.lv, .int .i64 n.tu, .int .i64 n.nx, .int .i64 n.lo, .slice a4 n.sl.length c4] 37))) := bal (bstep B3.out hb4) _; clear o4 hb4))
    obtain ⟨b4, off4, rfl, hc4⟩ := at_of (O4.out.below (below_new w4 (.cells #[.int .i64 n.lv, .int .i64 n.tu, .int .i64 n.nx, .int .i64 n.lo, .slice a4 n.sl.length c4] 37))) HSk.out
    have hcell4 : ∀ p : BW (w4.alloc (.cells #[.int .i64 n.lv, .int .i64 n.tu, .int .i64 n.nx, .int .i64 n.lo, .slice (some ⟨b4, off4, none⟩) n.sl.length c4] 37)), p.w.cell? ⟨b4, off4 + k, none⟩ = some (.int .i64 (t : Int)) := fun p => (p.b.cell (World.block_lt_of_cell? _ _ hc4)).trans hc4
    have hfield : ∀ p : BW (w4.alloc (.cells #[.int .i64 n.lv, .int .i64 n.tu, .int .i64 n.nx, .int .i64 n.lo, .slice (some ⟨b4, off4, none⟩) n.sl.length c4] 37)), p.w.cell? ⟨w4.heap.size, 4, none⟩ = some (.slice (some ⟨b4, off4, none⟩) n.sl.length c4) := fun p => (p.b.cell (World.block_lt_of_cell? _ _ z4)).trans z4
    clear z0 z1 z2 z3 z4 hc4
    refine wp_region_bw (by kernel_rfl) (by kernel_rfl) (fun hbw0 => ?_)
    repeat (refine QW.step (fun K hK => ?_); go_simp; refine hK _ ?_; clear hK K)
    refine QW.nil ?_
    rintro ⟨w5, hb5⟩
    dsimp only
    have B5 : Hid (Below w.heap.size w w5) := bstep B4.out hb5
    have N5 : Hid (Below w5.heap.size w5 (w5.alloc (.cells #[] 3))) := below_new w5 _
    clear hcell4 hfield hb5 hbw0 u1 u2 u3 u4 hkI r1 r2 r3 r4 hiI e0 es hne j1 j2 j3 j4 j5 x1 x2 x4 hqw hcell
    cases high
    · have HC : Hid (∀ v W, Rl W v (zs.set (16 * t + j) (bits .xor .i64 y (d : Int))) → Calls Try.prog 13 #[v] W fun e w' => e = .returned (.int .i64 110) ∧ Below W.heap.size W w') := HDM2.out (d : Int) (by rw [Sm.u64_nat _ (Nat.lt_trans hd9 (by decide))]; exact fun e => hd0 (Sm.wd_low hd9 e))
      clear HDM2
      go_wp2_with (first
        | (at_builtin; refine append_own_rd rfl (.tmp 87) (.tmp 88) rfl w5.heap.size (.slice (some ⟨w5.heap.size, 0, none⟩) 0 0) [] rfl (own_none w5 (Nat.le_refl _)) (.slice a1 zs.length cap1) zs rfl ((HR.out.below (bstep B5.out N5.out)).rd H9.out) (by simp) (by simp) zs rfl ?_; intro a8 c8 w8 o8 b8; obtain ⟨g, c8', e8, hbg⟩ := own_slot o8 hn0; cases e8; obtain ⟨cK, fK, hset⟩ := OwnI.at o8 HY.out; have HS : Hid (Rl (w8.setCell ⟨g, 16 * t + j, none⟩ (.int .i64 (bits .xor .i64 y (d : Int)))) (.slice (some ⟨g, 0, none⟩) zs.length c8) (zs.set (16 * t + j) (bits .xor .i64 y (d : Int)))) := ((hset (bits .xor .i64 y (d : Int))).rd (by rw [List.length_set]; exact H9.out)).rl; have B8 : Hid (Below w5.heap.size w5 (w8.setCell ⟨g, 16 * t + j, none⟩ (.int .i64 (bits .xor .i64 y (d : Int))))) := (N5.out.trans b8).setCell (p := ⟨g, 16 * t + j, none⟩) hbg _; clear o8 b8 hset)
        | (go_at_call 13; refine (HC.out _ _ HS.out).mono ?_; rintro e w9 ⟨rfl, hb9⟩; have B9 : Hid (Below w.heap.size w w9) := bstep B5.out (bstep B8.out hb9); clear hb9))
      go_ret
      exact ⟨ret_bool rfl, B9.out⟩
    · have HC : Hid (∀ v W, Rl W v (zs.set (16 * t + j) (bits .xor .i64 y (wrap64 ((d : Int) * 4294967296)))) → Calls Try.prog 13 #[v] W fun e w' => e = .returned (.int .i64 110) ∧ Below W.heap.size W w') := HDM2.out (wrap64 ((d : Int) * 4294967296)) (by rw [Sm.u64_high d hd9]; exact fun e => hd0 (Sm.wd_high hd9 e))
      clear HDM2
      go_wp2_with (first
        | (at_builtin; refine append_own_rd rfl (.tmp 87) (.tmp 88) rfl w5.heap.size (.slice (some ⟨w5.heap.size, 0, none⟩) 0 0) [] rfl (own_none w5 (Nat.le_refl _)) (.slice a1 zs.length cap1) zs rfl ((HR.out.below (bstep B5.out N5.out)).rd H9.out) (by simp) (by simp) zs rfl ?_; intro a8 c8 w8 o8 b8; obtain ⟨g, c8', e8, hbg⟩ := own_slot o8 hn0; cases e8; obtain ⟨cK, fK, hset⟩ := OwnI.at o8 HY.out; have HS : Hid (Rl (w8.setCell ⟨g, 16 * t + j, none⟩ (.int .i64 (bits .xor .i64 y (wrap64 ((d : Int) * 4294967296))))) (.slice (some ⟨g, 0, none⟩) zs.length c8) (zs.set (16 * t + j) (bits .xor .i64 y (wrap64 ((d : Int) * 4294967296))))) := ((hset (bits .xor .i64 y (wrap64 ((d : Int) * 4294967296)))).rd (by rw [List.length_set]; exact H9.out)).rl; have B8 : Hid (Below w5.heap.size w5 (w8.setCell ⟨g, 16 * t + j, none⟩ (.int .i64 (bits .xor .i64 y (wrap64 ((d : Int) * 4294967296)))))) := (N5.out.trans b8).setCell (p := ⟨g, 16 * t + j, none⟩) hbg _; clear o8 b8 hset)
        | (go_at_call 13; refine (HC.out _ _ HS.out).mono ?_; rintro e w9 ⟨rfl, hb9⟩; have B9 : Hid (Below w.heap.size w w9) := bstep B5.out (bstep B8.out hb9); clear hb9))
      go_ret
      exact ⟨ret_bool rfl, B9.out⟩
end Go.Proofs.Ytgcdhenbpkcmgaa
