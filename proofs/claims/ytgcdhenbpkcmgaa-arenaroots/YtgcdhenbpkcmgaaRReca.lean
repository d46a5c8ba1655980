/- Set over from a lower layer: Reca. -/
import Derived.Test.YtgcdhenbpkcmgaaBase
import Derived.Test.YtgcdhenbpkcmgaaSSumz
import Derived.Test.YtgcdhenbpkcmgaaRRecnum
import Derived.Deep.QuietTactic
import Derived.BigQuiet
import Derived.WalkSmall
import Derived.Deep.MidRow
import Derived.Deep.OwnRows
import Derived.Lib.SliceRun
import Derived.Deep.RegionHeld3
import Derived.Laws.ResultCell
import Derived.Deep.AppendLies
import Derived.Shelf.Abstract
import Derived.Deep.RegionWith
import Derived.Laws.CopyOwn
import Derived.RangeFuncBox
import Derived.RangeFuncNested
import Derived.RangeFuncBound
import Derived.RangeFuncCalls
import Derived.RangeFuncLeaves
import Derived.Shelf.RegionOpen
import Derived.OwnWalkIn
import Derived.TacticsInMore
import Derived.LoopNIn
import Derived.LoopIn
import Derived.Maps.AppendAt
import Derived.Shelf.SlSortCmp.QuietGrown
namespace Go.Proofs.Ytgcdhenbpkcmgaa
open Go.RowKit Go.Shelf
set_option linter.unusedVariables false
/-- What is read here is read in the layers of keys and of checks. -/
theorem Rd.ky {W : World} {v : Value} {zs : List Int} (h : Rd W v zs) (hb : Fits zs) : Ky.Rd W v zs := by
  obtain ⟨h1, h2, a, cap, rfl, h0, h3⟩ := h
  refine ⟨hb, h2, a, cap, rfl, ?_⟩
  rcases h3 with ⟨h, _⟩ | ⟨b, off, rfl, hlt, hc⟩
  · exact .inl (List.eq_nil_of_length_eq_zero h)
  · exact .inr ⟨b, off, rfl, hlt, fun j hj => hc j _ (by simp [List.getElem?_eq_getElem hj])⟩
theorem Rd.own {W : World} {base : Nat} {v : Value} {n : Nat} {zs : List Int} (h : W.ownsRow base 3 1 v n (zs.map (Value.int .i64))) (hl : zs.length ≤ 1000) : Rd W v zs := by
  have hc := h
  have hn : zs.length = n := by simpa using h.1
  subst hn
  rcases h.2 with ⟨rfl, h0⟩ | ⟨g, cap, cur, rfl, _, hg, hcap, _⟩
  · exact ⟨by simp, hl, none, 0, by rw [h0], by omega, .inl ⟨h0, fun _ => rfl⟩⟩
  · refine ⟨by simp, hl, some ⟨g, 0, none⟩, cap, rfl, hcap, .inr ⟨g, 0, rfl, (Array.getElem?_eq_some_iff.1 hg).1, ?_⟩⟩
    intro j u hu
    have := hc.cells rfl j u hu
    rwa [Addr.add_lit] at this
theorem ne_toList {s : ByteArray} (h : s.size ≠ 0) : s.toList.isEmpty = false ∧ ¬ s.toList = [] := by
  have he := Ky.empty_size s
  rw [decide_eq_false h] at he
  exact ⟨he, by simpa using he⟩
theorem eq_toList {s : ByteArray} (h : s.size = 0) : s.toList.isEmpty = true ∧ s.toList = [] := by
  have he := Ky.empty_size s
  rw [decide_eq_true h] at he
  exact ⟨he, by simpa using he⟩
theorem rcB_iff {x : Rc} : rcB x = true ↔ OkR x := rcB_iff0
theorem rcB_1 {x : Rc} (h : x.k = 1) : rcB x = (Ky.chk x.key && Ky.chkV x.val && decide (x.ch = 0)) := by
  rw [Bool.eq_iff_iff, rcB_iff]
  simp only [Ky.chk, Ky.chkV, Bool.and_eq_true, decide_eq_true_eq, OkR]
  omega
theorem rcB_2 {x : Rc} (h : x.k = 2) : rcB x = ((decide (x.key.size = 0) || Ky.chk x.key) && decide (x.val.size = 0) && decide (1 ≤ x.ch) && decide (x.ch < 256)) := by
  rw [Bool.eq_iff_iff, rcB_iff]
  simp only [Ky.chk, Bool.and_eq_true, Bool.or_eq_true, decide_eq_true_eq, OkR]
  omega
theorem rcB_3 {x : Rc} (h1 : x.k ≠ 1) (h2 : x.k ≠ 2) : rcB x = false := @decide_eq_false _ (OkR.dec x) (by unfold OkR; omega)
set_option maxRecDepth 100000 in
set_option maxHeartbeats 2000000 in
theorem rcheck_any (x : Rc) (w : World) : Calls Try.prog 70 #[.agg #[.int .i64 x.k, .string x.key, .string x.val, .int .i64 x.ch]] w fun e w' => e = .returned (.bool (rcB x)) ∧ Below w.heap.size w w' := by
  have B0 := (Below.refl w.heap.size w).alloc (Nat.le_refl _) (.cells #[.int .i64 x.k, .string x.key, .string x.val, .int .i64 x.ch] 89)
  by_cases h1 : x.k = 1
  · have H := rcB_1 h1
    have h1' : (x.k == 1) = true := by simpa using h1
    rw [h1] at h1' B0 ⊢
    generalize rcB x = r at H ⊢
    cases c1 : Ky.chk x.key with
    | false =>
      replace H : Hid (r = false) := by rw [c1] at H; exact H
      go_enter Try.func70, Try.ntmps70
      go_wp2_with (go_at_call 79; refine (Ky.check_any _ _).mono ?_; rintro e w' ⟨rfl, hw⟩; rw [hw, c1]; clear hw w')
      go_ret
      exact ⟨ret_bool H.out.symm, B0⟩
    | true =>
      cases c2 : Ky.chkV x.val with
      | false =>
        replace H : Hid (r = false) := by rw [c1, c2] at H; exact H
        go_enter Try.func70, Try.ntmps70
        go_wp2_with (first
          | (go_at_call 79; refine (Ky.check_any _ _).mono ?_; rintro e w' ⟨rfl, hw⟩; rw [hw, c1]; clear hw w')
          | (go_at_call 80; refine (Ky.checkV_any _ _).mono ?_; rintro e w' ⟨rfl, hw⟩; rw [hw, c2]; clear hw w'))
        go_ret
        exact ⟨ret_bool H.out.symm, B0⟩
      | true =>
        replace H : Hid (r = decide (x.ch = 0)) := by rw [c1, c2] at H; exact H
        go_enter Try.func70, Try.ntmps70
        go_wp2_with (first
          | (go_at_call 79; refine (Ky.check_any _ _).mono ?_; rintro e w' ⟨rfl, hw⟩; rw [hw, c1]; clear hw w')
          | (go_at_call 80; refine (Ky.checkV_any _ _).mono ?_; rintro e w' ⟨rfl, hw⟩; rw [hw, c2]; clear hw w'))
        go_ret
        exact ⟨ret_bool (by rw [H.out]; first | rfl | simp), B0⟩
  · have h1' : (x.k == 1) = false := by simpa using h1
    by_cases h2 : x.k = 2
    · have H := rcB_2 h2
      have h2' : (x.k == 2) = true := by simpa using h2
      clear h1
      rw [h2] at h1' h2' B0 ⊢
      generalize rcB x = r at H ⊢
      by_cases k0 : x.key.size = 0
      · obtain ⟨ke1, ke2⟩ := eq_toList k0
        rw [decide_eq_true k0] at H
        by_cases v0 : x.val.size = 0
        · obtain ⟨ve1, ve2⟩ := eq_toList v0
          rw [decide_eq_true v0] at H
          replace H : Hid (r = (decide (1 ≤ x.ch) && decide (x.ch < 256))) := show _ = _ by simpa using H
          clear k0 v0
          by_cases c3 : x.ch ≥ 1
          · go_enter Try.func70, Try.ntmps70
            go_wp2
            go_ret
            exact ⟨ret_bool (by rw [H.out, decide_eq_true (show 1 ≤ x.ch by omega)]; rfl), B0⟩
          · go_enter Try.func70, Try.ntmps70
            go_wp2
            go_ret
            exact ⟨ret_bool (by rw [H.out, decide_eq_false (show ¬ 1 ≤ x.ch by omega)]; rfl), B0⟩
        · obtain ⟨ve1, ve2⟩ := ne_toList v0
          replace H : Hid (r = false) := show _ = _ by simpa [v0] using H
          clear k0 v0
          go_enter Try.func70, Try.ntmps70
          go_wp2
          go_ret
          exact ⟨ret_bool H.out.symm, B0⟩
      · obtain ⟨ke1, ke2⟩ := ne_toList k0
        rw [decide_eq_false k0] at H
        cases c1 : Ky.chk x.key with
        | false =>
          replace H : Hid (r = false) := by rw [c1] at H; exact H
          clear k0
          go_enter Try.func70, Try.ntmps70
          go_wp2_with (go_at_call 79; refine (Ky.check_any _ _).mono ?_; rintro e w' ⟨rfl, hw⟩; rw [hw, c1]; clear hw w')
          go_ret
          exact ⟨ret_bool H.out.symm, B0⟩
        | true =>
          by_cases v0 : x.val.size = 0
          · obtain ⟨ve1, ve2⟩ := eq_toList v0
            rw [decide_eq_true v0, c1] at H
            replace H : Hid (r = (decide (1 ≤ x.ch) && decide (x.ch < 256))) := show _ = _ by simpa using H
            clear k0 v0
            by_cases c3 : x.ch ≥ 1
            · go_enter Try.func70, Try.ntmps70
              go_wp2_with (go_at_call 79; refine (Ky.check_any _ _).mono ?_; rintro e w' ⟨rfl, hw⟩; rw [hw, c1]; clear hw w')
              go_ret
              exact ⟨ret_bool (by rw [H.out, decide_eq_true (show 1 ≤ x.ch by omega)]; rfl), B0⟩
            · go_enter Try.func70, Try.ntmps70
              go_wp2_with (go_at_call 79; refine (Ky.check_any _ _).mono ?_; rintro e w' ⟨rfl, hw⟩; rw [hw, c1]; clear hw w')
              go_ret
              exact ⟨ret_bool (by rw [H.out, decide_eq_false (show ¬ 1 ≤ x.ch by omega)]; rfl), B0⟩
          · obtain ⟨ve1, ve2⟩ := ne_toList v0
            replace H : Hid (r = false) := show _ = _ by simpa [v0] using H
            clear k0 v0
            go_enter Try.func70, Try.ntmps70
            go_wp2_with (go_at_call 79; refine (Ky.check_any _ _).mono ?_; rintro e w' ⟨rfl, hw⟩; rw [hw, c1]; clear hw w')
            go_ret
            exact ⟨ret_bool H.out.symm, B0⟩
    · have h2' : (x.k == 2) = false := by simpa using h2
      have H : Hid (rcB x = false) := rcB_3 h1 h2
      clear h1 h2
      go_enter Try.func70, Try.ntmps70
      go_wp2
      go_ret
      exact ⟨ret_bool H.out.symm, B0⟩
end Go.Proofs.Ytgcdhenbpkcmgaa
