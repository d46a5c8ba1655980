/- Walks of layer 10: the document's Check. -/
import Derived.Test.YtpfbnfnlbjjjoaaAlla
import Derived.Test.YtpfbnfnlbjjjoaaQuietb
namespace Go.Proofs.Ytpfbnfnlbjjjoaa
open Go.RowKit
set_option linter.unusedVariables false

theorem at_of {W : World} {a : Option Addr} {n cap : Nat} {zs : List Int} (h : Rd W (.slice a n cap) zs) {k : Nat} {x : Int} (hx : zs[k]? = some x) :
    ∃ b off, a = some ⟨b, off, none⟩ ∧ W.cell? ⟨b, off + k, none⟩ = some (.int .i64 x) := by
  obtain ⟨hk, e⟩ := List.getElem?_eq_some_iff.1 hx
  obtain ⟨b, off, h1, h2⟩ := h.at k hk
  exact ⟨b, off, h1, by rw [h2, e]⟩

set_option maxRecDepth 100000 in
set_option maxHeartbeats 1000000 in
theorem checkR_any (v : Value) (zs : List Int) (w : World) (hR : Rd w v zs) : Calls Try.prog 17 #[v] w fun e w' => e = .returned (.bool (chk zs)) ∧ Below w.heap.size w w' := by
  have hR' : Hid (Rd w v zs) := hR
  obtain ⟨hz, a, cap, rfl⟩ := hR.form
  clear hR
  have h0 : Hid (chk (zs.take 0) = true) := rfl
  go_enter Try.func17, Try.ntmps17
  go_wp2
  go_loopw [3] (fun s3 w1 => ∃ k : Nat, k ≤ zs.length ∧ s3 = .int .i64 k ∧ chk (zs.take k) = true ∧ Below w.heap.size w w1) (fun s3 _ => zs.length - (intOf s3).toNat)
  case atStart => exact ⟨0, Nat.zero_le _, rfl, h0.out, Below.refl _ _⟩
  case round =>
    obtain ⟨k, hk, rfl, hc, hbel⟩ := hrel
    have Hc : Hid (chk (zs.take k) = true) := hc
    have HB : Hid (Below w.heap.size w wr) := hbel
    clear hc hbel
    by_cases hlt : k < zs.length
    · have hltI : (k : Int) < (zs.length : Int) := by omega
      obtain ⟨x, hx⟩ : ∃ x, zs[k]? = some x := ⟨_, List.getElem?_eq_getElem hlt⟩
      obtain ⟨b, off, rfl, hcell0⟩ := at_of (hR'.out.below HB.out) hx
      have hcell : ∀ p : BW wr, p.w.cell? ⟨b, off + k, none⟩ = some (.int .i64 x) := fun p => (p.b.cell (World.block_lt_of_cell? _ _ hcell0)).trans hcell0
      have N1 : Hid (chk (zs.take (k + 1)) = (chk (zs.take k) && (isB x && decide (lastD 0 (zs.take k) < x)))) := chk_next hx
      by_cases h1 : x < 1
      · have F : Hid (chk zs = false) := chk_part (k := k + 1) (by rw [N1.out, show isB x = false from decide_eq_false (by omega)]; simp)
        clear hx
        go_wp2
        refine wp_region_bw (by kernel_rfl) (by kernel_rfl) (fun hbw0 => ?_)
        repeat (refine QW.step (fun K hK => ?_); go_simp; refine hK _ ?_; clear hK K)
        refine QW.nil ?_
        rintro ⟨w4, hb4⟩
        dsimp only
        go_wp2
        go_ret
        exact ⟨ret_bool F.out.symm, bstep HB.out hb4⟩
      by_cases h2 : x > 255
      · have F : Hid (chk zs = false) := chk_part (k := k + 1) (by rw [N1.out, show isB x = false from decide_eq_false (by omega)]; simp)
        clear hx
        go_wp2
        refine wp_region_bw (by kernel_rfl) (by kernel_rfl) (fun hbw0 => ?_)
        repeat (refine QW.step (fun K hK => ?_); go_simp; refine hK _ ?_; clear hK K)
        refine QW.nil ?_
        rintro ⟨w4, hb4⟩
        dsimp only
        go_wp2
        go_ret
        exact ⟨ret_bool F.out.symm, bstep HB.out hb4⟩
      have hb : Hid (isB x = true) := decide_eq_true (by omega)
      have d1 : decide (x < 1) = false := decide_eq_false h1
      have d2 : decide (255 < x) = false := decide_eq_false (by omega)
      obtain h0k | ⟨m, hm⟩ : k = 0 ∨ ∃ m, k = m + 1 := by
        cases k with
        | zero => exact .inl rfl
        | succ m => exact .inr ⟨m, rfl⟩
      · have F : Hid (chk (zs.take (k + 1)) = true) := (by show _ = _; rw [N1.out, Hc.out, hb.out, show lastD 0 (zs.take k) = 0 by rw [h0k]; rfl, decide_eq_true (by omega : (0 : Int) < x)]; rfl)
        have d3 : decide (0 < k) = false := decide_eq_false (by omega)
        clear hx h0k
        go_wp2
        refine wp_region_bw (by kernel_rfl) (by kernel_rfl) (fun hbw0 => ?_)
        repeat (refine QW.step (fun K hK => ?_); go_simp; refine hK _ ?_; clear hK K)
        refine QW.nil ?_
        rintro ⟨w4, hb4⟩
        dsimp only
        go_wp2
        go_roundw
        case rel => exact ⟨k + 1, by omega, by go_num, F.out, bstep HB.out hb4⟩
        case measure => simp [intOf]; omega
      · obtain ⟨y, hy⟩ : ∃ y, zs[m]? = some y := ⟨_, List.getElem?_eq_getElem (by omega)⟩
        obtain ⟨b2, off2, e2, hcell20⟩ := at_of (hR'.out.below HB.out) hy
        cases e2
        have hcell2 : ∀ p : BW wr, p.w.cell? ⟨b, off + m, none⟩ = some (.int .i64 y) := fun p => (p.b.cell (World.block_lt_of_cell? _ _ hcell20)).trans hcell20
        clear hcell20
        have hL : Hid (lastD 0 (zs.take k) = y) := by (show _ = _; rw [hm]; exact last_next hy)
        have d3 : decide (0 < k) = true := decide_eq_true (by omega)
        have hm2 : (k : Int) - 1 = (m : Int) := by omega
        have hmw : IntKind.i64.wrap (m : Int) = (m : Int) := by rw [IntKind.wrap_i64]; omega
        have hm3 : (m : Int) < (zs.length : Int) := by omega
        clear hx hy hm
        by_cases hl : x ≤ y
        · have d4 : decide (x ≤ y) = true := decide_eq_true hl
          have F : Hid (chk zs = false) := chk_part (k := k + 1) (by rw [N1.out, hL.out, decide_eq_false (by omega : ¬ y < x)]; simp)
          go_wp2
          refine wp_region_bw (by kernel_rfl) (by kernel_rfl) (fun hbw0 => ?_)
          repeat (refine QW.step (fun K hK => ?_); go_simp; refine hK _ ?_; clear hK K)
          refine QW.nil ?_
          rintro ⟨w4, hb4⟩
          dsimp only
          go_wp2
          go_ret
          exact ⟨ret_bool F.out.symm, bstep HB.out hb4⟩
        · have d4 : decide (x ≤ y) = false := decide_eq_false hl
          have F : Hid (chk (zs.take (k + 1)) = true) := (by show _ = _; rw [N1.out, Hc.out, hb.out, hL.out, decide_eq_true (by omega : y < x)]; rfl)
          go_wp2
          refine wp_region_bw (by kernel_rfl) (by kernel_rfl) (fun hbw0 => ?_)
          repeat (refine QW.step (fun K hK => ?_); go_simp; refine hK _ ?_; clear hK K)
          refine QW.nil ?_
          rintro ⟨w4, hb4⟩
          dsimp only
          go_wp2
          go_roundw
          case rel => exact ⟨k + 1, by omega, by go_num, F.out, bstep HB.out hb4⟩
          case measure => simp [intOf]; omega
    · have hge : ¬ (k : Int) < (zs.length : Int) := by omega
      have F : Hid (chk zs = true) := (by show _ = _; rw [List.take_of_length_le (by omega)] at Hc; exact Hc.out)
      go_wp2
      go_ret
      exact ⟨ret_bool F.out.symm, HB.out⟩
end Go.Proofs.Ytpfbnfnlbjjjoaa
