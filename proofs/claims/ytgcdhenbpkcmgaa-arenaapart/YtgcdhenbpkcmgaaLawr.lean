/- Layer 11: the walk of ArenaReaches. -/
import Derived.Test.YtgcdhenbpkcmgaaArv
namespace Go.Proofs.Ytgcdhenbpkcmgaa
open Go.RowKit Go.Shelf
set_option linter.unusedVariables false

/-- What is told of words whose soundness is known. -/
theorem told_no {zs : List Int} (hs : sndB zs = false) (hF : Fits zs) : (∀ v W, Rl W v zs → Calls Try.prog 12 #[v] W fun e w' => ∃ v', e = .returned (.tuple #[v', .int .i64 110]) ∧ Rd w' v' [] ∧ Below W.heap.size W w') ∧
    (∀ v W, Rl W v zs → Calls Try.prog 13 #[v] W fun e w' => e = .returned (.int .i64 110) ∧ Below W.heap.size W w') := by
  refine ⟨fun v W hR => ?_, fun v W hR => ?_⟩
  · have k := reach_told v zs W hR hF
    rw [show chE zs = 110 by unfold chE; rw [hs]; rfl] at k
    refine k.mono ?_
    rintro e w' ⟨v', M, rfl, hR', _, h2, hb⟩
    rw [h2 hs] at hR'
    exact ⟨v', rfl, hR', hb⟩
  · have k := check_any v zs W hR hF
    rwa [show chE zs = 110 by unfold chE; rw [hs]; rfl] at k
theorem told_yes {zs L : List Int} (hL : lvA zs = some L) (hs : sndB zs = true) (hF : Fits zs) : (∀ v W, Rl W v zs → Calls Try.prog 12 #[v] W fun e w' => ∃ v' M, e = .returned (.tuple #[v', .int .i64 0]) ∧ Rd w' v' M ∧ RcS zs L M ∧ Below W.heap.size W w') ∧
    (∀ v W, Rl W v zs → Calls Try.prog 13 #[v] W fun e w' => e = .returned (.int .i64 0) ∧ Below W.heap.size W w') ∧
    (∀ v W, Rl W v zs → Calls Try.prog 11 #[v] W fun e w' => ∃ v', e = .returned (.tuple #[v', .int .i64 0]) ∧ Rd w' v' L ∧ Below W.heap.size W w') := by
  refine ⟨fun v W hR => ?_, fun v W hR => ?_, fun v W hR => ?_⟩
  · have k := reach_told v zs W hR hF
    rw [show chE zs = 0 by unfold chE; rw [hs]; rfl] at k
    refine k.mono ?_
    rintro e w' ⟨v', M, rfl, hR', h1, _, hb⟩
    obtain ⟨L', hL', hM⟩ := h1 hs
    rw [hL] at hL'
    cases hL'
    exact ⟨v', M, rfl, hR', hM, hb⟩
  · have k := check_any v zs W hR hF
    rwa [show chE zs = 0 by unfold chE; rw [hs]; rfl] at k
  · have k := leaves_any v zs W hR
    have h256 := lvL_ok (zs := zs)
    rw [show lvE zs = 0 by unfold lvE; rw [hL], show lvL zs = L by unfold lvL; rw [hL]; rfl] at k
    rw [show lvL zs = L by unfold lvL; rw [hL]; rfl] at h256
    refine k.mono ?_
    rintro e w' ⟨v', rfl, hR', hb⟩
    exact ⟨v', rfl, hR'.rd (by omega), hb⟩
theorem told_leaves {zs : List Int} : ∀ v W, Rl W v zs → Calls Try.prog 11 #[v] W fun e w' => ∃ v', e = .returned (.tuple #[v', .int .i64 (lvE zs)]) ∧ Rd w' v' (lvL zs) ∧ Below W.heap.size W w' := fun v W hR => by
  have h256 := lvL_ok (zs := zs)
  refine (leaves_any v zs W hR).mono ?_
  rintro e w' ⟨v', rfl, hR', hb⟩
  exact ⟨v', rfl, hR'.rd (by omega), hb⟩
theorem at_of {W : World} {a : Option Addr} {n c : Nat} {zs : List Int} {k : Nat} {x : Int} (h : Rd W (.slice a n c) zs) (hx : zs[k]? = some x) : ∃ b off, a = some ⟨b, off, none⟩ ∧ W.cell? ⟨b, off + k, none⟩ = some (.int .i64 x) := by
  obtain ⟨hk, rfl⟩ := List.getElem?_eq_some_iff.1 hx
  obtain ⟨_, _, e⟩ := h.form.2
  cases e
  exact h.at k hk

set_option maxRecDepth 100000 in
set_option maxHeartbeats 2000000 in
theorem walk_ArenaReaches (a1 : Option Addr) (len1 cap1 : Nat) (w : World) (h1 : RowIn w a1 len1 cap1) : Calls Try.prog 4 #[.slice a1 len1 cap1] w fun e w' => e = .returned (.bool true) ∧ Below w.heap.size w w' := by
  by_cases g1 : (len1 : Int) > 1000
  · clear h1
    go_enter Try.func4, Try.ntmps4
    go_wp2_with (go_at_call 9; refine (awake_any _).mono ?_; rintro e w1 ⟨rfl, hb1⟩)
    go_ret
    exact ⟨ret_bool rfl, hb1⟩
  obtain ⟨zs, rfl, R1, F1⟩ := h1 (by omega)
  have F1 : Fits zs := F1
  have HR : Hid (Rl w (.slice a1 zs.length cap1) zs) := R1
  clear h1 R1
  cases hs : sndB zs with
  | false =>
    have K12 : Hid (∀ v W, Rl W v zs → Calls Try.prog 12 #[v] W fun e w' => ∃ v', e = .returned (.tuple #[v', .int .i64 110]) ∧ Rd w' v' [] ∧ Below W.heap.size W w') := (told_no hs F1).1
    have K13 : Hid (∀ v W, Rl W v zs → Calls Try.prog 13 #[v] W fun e w' => e = .returned (.int .i64 110) ∧ Below W.heap.size W w') := (told_no hs F1).2
    have K11 : Hid (∀ v W, Rl W v zs → Calls Try.prog 11 #[v] W fun e w' => ∃ v', e = .returned (.tuple #[v', .int .i64 (lvE zs)]) ∧ Rd w' v' (lvL zs) ∧ Below W.heap.size W w') := told_leaves
    clear hs F1
    go_enter Try.func4, Try.ntmps4
    go_wp2_with (first
      | (go_at_call 9; refine (awake_any _).mono ?_; rintro e w1 ⟨rfl, hb1⟩; have B1 : Hid (Below w.heap.size w w1) := hb1; clear hb1)
      | (go_at_call 12; refine (K12.out _ _ (HR.out.below B1.out)).mono ?_; rintro e w2 ⟨v2, rfl, r2, hb2⟩; obtain ⟨_, a2, c2, rfl⟩ := r2.form; have B2 : Hid (Below w.heap.size w w2) := bstep B1.out hb2; clear r2 hb2)
      | (go_at_call 11; refine (K11.out _ _ (HR.out.below B2.out)).mono ?_; rintro e w3 ⟨v3, rfl, r3, hb3⟩; have B3 : Hid (Below w.heap.size w w3) := bstep B2.out hb3; clear r3 hb3)
      | (go_at_call 13; refine (K13.out _ _ (HR.out.below B3.out)).mono ?_; rintro e w4 ⟨rfl, hb4⟩; have B4 : Hid (Below w.heap.size w w4) := bstep B3.out hb4; clear hb4))
    go_ret
    exact ⟨ret_bool rfl, B4.out⟩
  | true =>
    obtain ⟨L, hL⟩ := snd_leaves hs
    have K12 : Hid (∀ v W, Rl W v zs → Calls Try.prog 12 #[v] W fun e w' => ∃ v' M, e = .returned (.tuple #[v', .int .i64 0]) ∧ Rd w' v' M ∧ RcS zs L M ∧ Below W.heap.size W w') := (told_yes hL hs F1).1
    have K13 : Hid (∀ v W, Rl W v zs → Calls Try.prog 13 #[v] W fun e w' => e = .returned (.int .i64 0) ∧ Below W.heap.size W w') := (told_yes hL hs F1).2.1
    have K11 : Hid (∀ v W, Rl W v zs → Calls Try.prog 11 #[v] W fun e w' => ∃ v', e = .returned (.tuple #[v', .int .i64 0]) ∧ Rd w' v' L ∧ Below W.heap.size W w') := (told_yes hL hs F1).2.2
    obtain ⟨hB, _, hok, hhd⟩ := lvA_out hL
    obtain ⟨hn2, _⟩ := rd_out hB
    have HIN : Hid (∀ b ∈ L, b < nbI zs) := fun b hb => by
      have := (rnK_iff.1 (rn_may (hok b hb).2.1).1).2
      unfold nbI
      omega
    have HN : Hid (2 ≤ nbI zs) := hn2.1
    have HL0 : Hid (L[0]? = some 1) := show _ = _ by rw [← List.head?_eq_getElem?]; exact hhd
    clear hs F1 hL hB hok hhd hn2
    go_enter Try.func4, Try.ntmps4
    go_wp2_with (first
      | (go_at_call 9; refine (awake_any _).mono ?_; rintro e w1 ⟨rfl, hb1⟩; have B1 : Hid (Below w.heap.size w w1) := hb1; clear hb1)
      | (go_at_call 12; refine (K12.out _ _ (HR.out.below B1.out)).mono ?_; rintro e w2 ⟨v2, M, rfl, r2, hM, hb2⟩; obtain ⟨hM9, a2, c2, rfl⟩ := r2.form; have R2 : Hid (Rd w2 (.slice a2 M.length c2) M) := r2; have HM : Hid (RcS zs L M) := hM; have B2 : Hid (Below w.heap.size w w2) := bstep B1.out hb2; clear r2 hb2 hM)
      | (go_at_call 11; refine (K11.out _ _ (HR.out.below B2.out)).mono ?_; rintro e w3 ⟨v3, rfl, r3, hb3⟩; obtain ⟨hL9, a3, c3, rfl⟩ := r3.form; have R3 : Hid (Rd w3 (.slice a3 L.length c3) L) := r3; have S3 : Hid (Rd w3 (.slice a2 M.length c2) M) := R2.out.below hb3; have B3 : Hid (Below w.heap.size w w3) := bstep B2.out hb3; clear r3 hb3))
    go_loopw [8] (fun i wr => ∃ k : Nat, k ≤ M.length ∧ i = .int .i64 k ∧ Below w3.heap.size w3 wr) (fun i _ => M.length - (intOf i).toNat)
    case atStart => exact ⟨0, Nat.zero_le _, rfl, Below.refl _ _⟩
    case round =>
      obtain ⟨k, hk, rfl, hbel⟩ := hrel
      have HB : Hid (Below w3.heap.size w3 wr) := hbel
      clear hbel
      by_cases hlt : k < M.length
      · have hltI : (k : Int) < (M.length : Int) := by omega
        obtain ⟨x, hx⟩ : ∃ x, M[k]? = some x := ⟨_, List.getElem?_eq_getElem hlt⟩
        obtain ⟨b, off, rfl, hcell0⟩ := at_of (S3.out.below HB.out) hx
        have hcell : ∀ p : BW wr, p.w.cell? ⟨b, off + k, none⟩ = some (.int .i64 x) := fun p => (p.b.cell (World.block_lt_of_cell? _ _ hcell0)).trans hcell0
        have hxi := HM.out.inn x (List.mem_of_getElem? hx)
        unfold nbI at hxi
        have d1 : decide (x < 0) = false := decide_eq_false (by omega)
        have d2 : decide (IntKind.i64.wrap ((zs.length : Int) / 16) ≤ x) = false := decide_eq_false (by rw [IntKind.wrap_i64]; omega)
        clear hcell0 hxi
        obtain h0k | ⟨m, hm⟩ : k = 0 ∨ ∃ m, k = m + 1 := by
          cases k with
          | zero => exact .inl rfl
          | succ m => exact .inr ⟨m, rfl⟩
        · have d3 : decide (0 < k) = false := decide_eq_false (by omega)
          clear hx h0k
          go_wp2
          refine wp_region_bw (by kernel_rfl) (by kernel_rfl) (fun hbw0 => ?_)
          repeat (refine QW.step (fun K hK => ?_); go_simp; refine hK _ ?_; clear hK K)
          refine QW.nil ?_
          rintro ⟨w4, hb4⟩
          dsimp only
          go_wp2
          go_roundw
          case rel => exact ⟨k + 1, by omega, by go_num, bstep HB.out hb4⟩
          case measure => simp [intOf]; omega
        · obtain ⟨y, hy⟩ : ∃ y, M[m]? = some y := ⟨_, List.getElem?_eq_getElem (by omega)⟩
          obtain ⟨b2, off2, e2, hcell20⟩ := at_of (S3.out.below HB.out) hy
          cases e2
          have hcell2 : ∀ p : BW wr, p.w.cell? ⟨b, off + m, none⟩ = some (.int .i64 y) := fun p => (p.b.cell (World.block_lt_of_cell? _ _ hcell20)).trans hcell20
          clear hcell20
          have hxy : y < x := by
            obtain ⟨q1, rfl⟩ := List.getElem?_eq_some_iff.1 hx
            obtain ⟨q2, rfl⟩ := List.getElem?_eq_some_iff.1 hy
            exact List.pairwise_iff_getElem.1 HM.out.rise m k q2 q1 (by omega)
          have d3 : decide (0 < k) = true := decide_eq_true (by omega)
          have d4 : decide (x ≤ y) = false := decide_eq_false (by omega)
          have hm2 : (k : Int) - 1 = (m : Int) := by omega
          have hmw : IntKind.i64.wrap (m : Int) = (m : Int) := by rw [IntKind.wrap_i64]; omega
          have hm3 : (m : Int) < (M.length : Int) := by omega
          clear hx hy hm hxy
          go_wp2
          refine wp_region_bw (by kernel_rfl) (by kernel_rfl) (fun hbw0 => ?_)
          repeat (refine QW.step (fun K hK => ?_); go_simp; refine hK _ ?_; clear hK K)
          refine QW.nil ?_
          rintro ⟨w4, hb4⟩
          dsimp only
          go_wp2
          go_roundw
          case rel => exact ⟨k + 1, by omega, by go_num, bstep HB.out hb4⟩
          case measure => simp [intOf]; omega
      · have hgeI : ¬ (k : Int) < (M.length : Int) := by omega
        clear hlt
        go_wp2
        go_loop [9] (fun i => ∃ j : Nat, j ≤ L.length ∧ i = .int .i64 j) (fun i => L.length - (intOf i).toNat)
        case atStart => exact ⟨0, Nat.zero_le _, rfl⟩
        case round =>
          obtain ⟨j, hj, rfl⟩ := hrel
          have HS : Hid (Rd wr (.slice a2 M.length c2) M) := S3.out.below HB.out
          by_cases hlt : j < L.length
          · have hltJ : (j : Int) < (L.length : Int) := by omega
            obtain ⟨x, hx⟩ : ∃ x, L[j]? = some x := ⟨_, List.getElem?_eq_getElem hlt⟩
            obtain ⟨b, off, rfl, hcell⟩ := at_of (R3.out.below HB.out) hx
            have HX : Hid (decide (x ∈ M) = true) := decide_eq_true (HM.out.has x (by unfold baseL; exact .tail _ (leaf_base (List.mem_of_getElem? hx))) (HIN.out x (List.mem_of_getElem? hx)))
            clear hx
            go_wp2_with (first
              | (go_at_call 15; refine (in_any _ M x _ HS.out).mono ?_; rintro e w6 ⟨rfl, hw⟩; rw [hw, HX.out]; clear hw w6))
            go_round
            case rel => exact ⟨j + 1, by omega, by go_num⟩
            case measure => simp [intOf]; omega
          · have hgeJ : ¬ (j : Int) < (L.length : Int) := by omega
            obtain ⟨b, off, rfl, hcell⟩ := at_of (R3.out.below HB.out) HL0.out
            rw [Nat.add_zero] at hcell
            have hl0 : (0 : Int) < (L.length : Int) := by have := (List.getElem?_eq_some_iff.1 HL0.out).1; omega
            have HX : Hid (decide ((0 : Int) ∈ M) = true) := decide_eq_true (HM.out.has 0 (by unfold baseL; simp) (by have := HN.out; omega))
            have HRr : Hid (Rl wr (.slice a1 zs.length cap1) zs) := HR.out.below (bstep B3.out HB.out)
            go_wp2_with (first
              | (go_at_call 15; refine (in_any _ M 0 _ HS.out).mono ?_; rintro e w6 ⟨rfl, hw⟩; rw [hw, HX.out]; clear hw w6)
              | (go_at_call 13; refine (K13.out _ _ HRr.out).mono ?_; rintro e w7 ⟨rfl, hb7⟩))
            go_ret
            exact ⟨ret_bool rfl, bstep (bstep B3.out HB.out) hb7⟩
end Go.Proofs.Ytgcdhenbpkcmgaa
