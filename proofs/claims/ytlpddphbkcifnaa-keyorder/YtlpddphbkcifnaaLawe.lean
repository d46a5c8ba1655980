/- Walks of layer 2's statements: order. -/
import Derived.Test.YtlpddphbkcifnaaLawd
namespace Go.Proofs.Ytlpddphbkcifnaa
open Go.RowKit

theorem byt_cons (c : UInt8) (l : List UInt8) (i : Nat) : byt (c :: l) (i + 1) = byt l i := by unfold byt; rw [List.getElem?_cons_succ]
theorem byt_head (c : UInt8) (l : List UInt8) : byt (c :: l) 0 = (c.toNat : Int) := rfl
/-- The first byte at which two texts differ tells which stands ahead. -/
theorem less_at : ∀ (l m : List UInt8) (p : Nat), l.length = m.length → (∀ q, q < p → byt l q = byt m q) → byt l p ≠ byt m p → Op.bytesLess l m = decide (byt l p < byt m p) := by
  intro l
  induction l with
  | nil =>
    intro m p h _ hne
    have : m = [] := List.eq_nil_of_length_eq_zero h.symm
    subst this
    exact absurd rfl hne
  | cons c l ih =>
    intro m p h he hne
    cases m with
    | nil => simp at h
    | cons d m =>
      have e1 : Op.bytesLess (c :: l) (d :: m) = (decide (c < d) || (c == d && Op.bytesLess l m)) := rfl
      rw [e1]
      cases p with
      | zero =>
        rw [byt_head, byt_head] at *
        have hcd : (c == d) = false := by
          rw [beq_eq_false_iff_ne]; intro e; rw [e] at hne; exact hne rfl
        rw [hcd, Bool.false_and, Bool.or_false, decide_eq_decide, UInt8.lt_iff_toNat_lt]
        omega
      | succ p =>
        have h0 := he 0 (by omega)
        rw [byt_head, byt_head] at h0
        have hcd : c = d := UInt8.toNat_inj.1 (by omega)
        subst hcd
        rw [byt_cons, byt_cons] at *
        rw [ih m p (by simpa using h) (fun q hq => by have := he (q + 1) (by omega); rwa [byt_cons, byt_cons] at this) hne]
        simp
/-- So does the first byte at which two words differ. -/
theorem w7_first (f g : Nat → Int) (hf : ∀ j, 0 ≤ f j ∧ f j < 256) (hg : ∀ j, 0 ≤ g j ∧ g j < 256) (hne : w7 f 7 ≠ w7 g 7) :
    ∃ j, j < 7 ∧ (∀ q, q < j → f q = g q) ∧ f j ≠ g j ∧ (w7 f 7 < w7 g 7 ↔ f j < g j) := by
  have f0 := hf 0; have f1 := hf 1; have f2 := hf 2; have f3 := hf 3; have f4 := hf 4; have f5 := hf 5; have f6 := hf 6
  have g0 := hg 0; have g1 := hg 1; have g2 := hg 2; have g3 := hg 3; have g4 := hg 4; have g5 := hg 5; have g6 := hg 6
  rw [w7_7, w7_7] at *
  by_cases e0 : f 0 = g 0
  · by_cases e1 : f 1 = g 1
    · by_cases e2 : f 2 = g 2
      · by_cases e3 : f 3 = g 3
        · by_cases e4 : f 4 = g 4
          · by_cases e5 : f 5 = g 5
            · refine ⟨6, by omega, fun q hq => ?_, by omega, by omega⟩
              have : q = 0 ∨ q = 1 ∨ q = 2 ∨ q = 3 ∨ q = 4 ∨ q = 5 := by omega
              rcases this with rfl | rfl | rfl | rfl | rfl | rfl <;> assumption
            · refine ⟨5, by omega, fun q hq => ?_, e5, by omega⟩
              have : q = 0 ∨ q = 1 ∨ q = 2 ∨ q = 3 ∨ q = 4 := by omega
              rcases this with rfl | rfl | rfl | rfl | rfl <;> assumption
          · refine ⟨4, by omega, fun q hq => ?_, e4, by omega⟩
            have : q = 0 ∨ q = 1 ∨ q = 2 ∨ q = 3 := by omega
            rcases this with rfl | rfl | rfl | rfl <;> assumption
        · refine ⟨3, by omega, fun q hq => ?_, e3, by omega⟩
          have : q = 0 ∨ q = 1 ∨ q = 2 := by omega
          rcases this with rfl | rfl | rfl <;> assumption
      · refine ⟨2, by omega, fun q hq => ?_, e2, by omega⟩
        have : q = 0 ∨ q = 1 := by omega
        rcases this with rfl | rfl <;> assumption
    · refine ⟨1, by omega, fun q hq => ?_, e1, by omega⟩
      have : q = 0 := by omega
      subst this; assumption
  · exact ⟨0, by omega, fun q hq => by omega, e0, by omega⟩
theorem w7_inj (f g : Nat → Int) (hf : ∀ j, 0 ≤ f j ∧ f j < 256) (hg : ∀ j, 0 ≤ g j ∧ g j < 256) (h : w7 f 7 = w7 g 7) (j : Nat) (hj : j < 7) : f j = g j := by
  rw [← bt_w7 f hf j hj, h, bt_w7 g hg j hj]
theorem wAt_byt (l m : List UInt8) (i j : Nat) (hj : j < 7) (h : wAt l i = wAt m i) : byt l (7 * i + j) = byt m (7 * i + j) := by
  unfold wAt at h
  exact w7_inj (fun j => byt l (7 * i + j)) (fun j => byt m (7 * i + j)) (fun j => byt_bd l (7 * i + j)) (fun j => byt_bd m (7 * i + j)) h j hj
theorem less_words (l m : List UInt8) (hl : l.length = m.length) (i : Nat) (he : ∀ j, j < i → wAt l j = wAt m j) (hne : wAt l i ≠ wAt m i) : Op.bytesLess l m = decide (wAt l i < wAt m i) := by
  have key : ∃ j, j < 7 ∧ (∀ q, q < j → byt l (7 * i + q) = byt m (7 * i + q)) ∧ byt l (7 * i + j) ≠ byt m (7 * i + j) ∧ (wAt l i < wAt m i ↔ byt l (7 * i + j) < byt m (7 * i + j)) := by
    unfold wAt at hne ⊢
    exact w7_first (fun j => byt l (7 * i + j)) (fun j => byt m (7 * i + j)) (fun j => byt_bd l (7 * i + j)) (fun j => byt_bd m (7 * i + j)) hne
  obtain ⟨j, hj, h1, h2, h3⟩ := key
  rw [less_at l m (7 * i + j) hl ?_ h2]
  · rw [decide_eq_decide]; exact h3.symm
  · clear h2 h3 hne
    intro q hq
    by_cases h : q < 7 * i
    · have := wAt_byt l m (q / 7) (q % 7) (by omega) (he _ (by omega))
      rwa [show 7 * (q / 7) + q % 7 = q by omega] at this
    · have := h1 (q - 7 * i) (by omega)
      rwa [show 7 * i + (q - 7 * i) = q by omega] at this
theorem wsl_at (l : List UInt8) (k : Nat) (h : k < (wsl l).length) : (wsl l)[k] = wAt l k := by
  have := wsl_get l k (by rwa [wsl_length] at h)
  rw [List.getElem?_eq_getElem h] at this
  exact Option.some.inj this
theorem order_at (s t : ByteArray) (hl : s.size = t.size) (k : Nat) (h1 : k < (wsl s.data.toList).length) (h2 : k < (wsl t.data.toList).length)
    (he : (wsl s.data.toList).take k = (wsl t.data.toList).take k) (hne : (wsl s.data.toList)[k]'h1 ≠ (wsl t.data.toList)[k]'h2) :
    Op.bytesLess s.toList t.toList = decide ((wsl s.data.toList)[k]'h1 < (wsl t.data.toList)[k]'h2) := by
  rw [ByteArray.toList_eq, ByteArray.toList_eq]
  rw [wsl_at _ k h1, wsl_at _ k h2] at *
  refine less_words _ _ (by simpa using hl) k (fun j hj => ?_) hne
  have a : ((wsl s.data.toList).take k)[j]? = ((wsl t.data.toList).take k)[j]? := by rw [he]
  rw [List.getElem?_take, List.getElem?_take, if_pos hj, if_pos hj, List.getElem?_eq_getElem (by omega), List.getElem?_eq_getElem (by omega), wsl_at, wsl_at] at a
  exact Option.some.inj a
theorem order_all (s t : ByteArray) (hl : s.size = t.size) (he : wsl s.data.toList = wsl t.data.toList) : s = t := by
  have h1 := tx_of s
  have h2 := tx_of t
  rw [he, hl, h2] at h1
  exact h1.symm

set_option maxRecDepth 100000 in
set_option maxHeartbeats 1000000 in
theorem walk_KeyOrder (s t : ByteArray) (w : World) (hs : s.size ≤ maxLen) (ht : t.size ≤ maxLen) :
    Calls Try.prog 5 #[.string s, .string t] w fun e w' => e = .returned (.bool true) ∧ Below w.heap.size w w' := by
  unfold maxLen at hs ht
  by_cases h1 : (s.size : Int) > 300
  · go_enter Try.func5, Try.ntmps5
    go_wp2_with (go_at_call 9; refine (awake_any _).mono ?_; rintro e w1 ⟨rfl, hb1⟩)
    go_ret
    exact ⟨rfl, hb1⟩
  · by_cases h2 : s.size = t.size
    · have h2I : ((s.size : Int) != (t.size : Int)) = false := by simp [h2]
      have hs7 : s.size ≤ 7000 := by omega
      have ht7 : t.size ≤ 7000 := by omega
      have hz1 : ((wsl s.data.toList).length : Int) = ((s.size : Int) + 6) / 7 := by rw [wsl_length]; unfold nW; simp
      have hL : (wsl s.data.toList).length = (wsl t.data.toList).length := by rw [wsl_length, wsl_length]; simp [h2]
      have hat := order_at s t h2
      have hall := order_all s t h2
      clear h2
      obtain ⟨zs, hzs⟩ : ∃ zs, wsl s.data.toList = zs := ⟨_, rfl⟩
      obtain ⟨ys, hys⟩ : ∃ ys, wsl t.data.toList = ys := ⟨_, rfl⟩
      rw [hzs, hys] at hat hall hL
      rw [hzs] at hz1
      have hA : Hid (∀ (k : Nat) (h1 : k < zs.length) (h2 : k < ys.length), zs.take k = ys.take k → zs[k] ≠ ys[k] → Op.bytesLess s.toList t.toList = decide (zs[k] < ys[k])) := hat
      have hB : Hid (zs = ys → s = t) := hall
      have Hl : Hid (zs.length = ys.length) := hL
      have hl2 : ((zs.length : Int) != (ys.length : Int)) = false := by simp [hL]
      have hl3 : ((zs.length : Int) != ((s.size : Int) + 6) / 7) = false := by simp [hz1]
      clear hat hall hL hz1
      have t1 : Hid (0 = 0) := rfl
      have t2 : Hid (0 = 0) := rfl
      go_enter Try.func5, Try.ntmps5
      go_wp2_with (first
        | (go_at_call 9; refine (awake_any _).mono ?_; rintro e w1 ⟨rfl, hb1⟩)
        | (go_at_call 17; clear t1; refine (words_any _ _ hs7).mono ?_; rw [hzs]; rintro e w2 ⟨v2, rfl, _, hr2, hb2⟩; have hR2 := hr2; obtain ⟨zb2, zl2, a2, c2, rfl, _⟩ := hr2)
        | (go_at_call 17; clear t2; refine (words_any _ _ ht7).mono ?_; rw [hys]; rintro e w3 ⟨v3, rfl, _, hr3, hb3⟩; have hR3 := hr3; obtain ⟨zb3, zl3, a3, c3, rfl, _⟩ := hr3; have hR2 := hR2.below hb3; have B3 := bstep (bstep hb1 hb2) hb3))
      go_loopw [8] (fun t8 w4 => ∃ k : Nat, k ≤ zs.length ∧ t8 = .int .i64 k ∧ zs.take k = ys.take k ∧ Below w3.heap.size w3 w4) (fun t8 _ => zs.length - (intOf t8).toNat)
      case atStart => exact ⟨0, Nat.zero_le _, rfl, rfl, Below.refl _ _⟩
      case round =>
        obtain ⟨k, hk, rfl, htk, hbel⟩ := hrel
        by_cases hlt : k < zs.length
        · have hltI : (k : Int) < (zs.length : Int) := by omega
          have hlt2 : k < ys.length := by have := Hl.out; omega
          obtain ⟨b, off, rfl, hc⟩ := (hR2.below hbel).at k hlt
          obtain ⟨b2, off2, rfl, hc2⟩ := (hR3.below hbel).at k hlt2
          by_cases hne : zs[k] = ys[k]
          · have hne2 : (zs[k] != ys[k]) = false := by simpa using hne
            have Hn : Hid (zs.take (k + 1) = ys.take (k + 1)) := by rw [List.take_succ_eq_append_getElem hlt, List.take_succ_eq_append_getElem hlt2, htk, hne]; exact rfl
            clear hne htk
            go_wp2
            go_quiet (fail)
            go_wp2
            go_roundw
            case rel => exact ⟨k + 1, by omega, by go_num, Hn.out, below_drewN hbel _⟩
            case measure => simp [intOf]; omega
          · have hne2 : (zs[k] != ys[k]) = true := by simpa using hne
            have hle := hA.out k hlt hlt2 htk hne
            clear htk
            go_wp2
            go_quiet (fail)
            go_wp2
            go_quiet (fail)
            go_wp2
            go_ret
            exact ⟨rfl, bstep B3 (below_drewN (below_drewN hbel _) _)⟩
        · have he : zs = ys := by rw [List.take_of_length_le (by omega), List.take_of_length_le (by have := Hl.out; omega)] at htk; exact htk
          have hst := hB.out he
          subst hst
          clear htk he
          go_wp2
          go_ret
          exact ⟨rfl, bstep B3 hbel⟩
    · have h2I : ((s.size : Int) != (t.size : Int)) = true := by simp; omega
      go_enter Try.func5, Try.ntmps5
      go_wp2_with (go_at_call 9; refine (awake_any _).mono ?_; rintro e w1 ⟨rfl, hb1⟩)
      go_ret
      exact ⟨rfl, hb1⟩
end Go.Proofs.Ytlpddphbkcifnaa
