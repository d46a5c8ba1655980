/- Set over from a lower layer: Keywalke. -/
import Derived.Test.YtgcdhenbpkcmgaaBase
import Derived.Test.YtgcdhenbpkcmgaaNNumz
import Derived.Test.YtgcdhenbpkcmgaaSSumz
import Derived.Test.YtgcdhenbpkcmgaaSSupc
import Derived.Test.YtgcdhenbpkcmgaaRKeywalkc
namespace Go.Proofs.Ytgcdhenbpkcmgaa.Ky
open Go.RowKit
theorem make_bytes (c : Nat) (h : c ≤ 7000) (w : World) : (Instr.makeSlice 143 (.int .i64 0) (.int .i64 (c : Int))).run Try.prog w = .ok (.slice (some ⟨w.heap.size, 0, none⟩) 0 c) (w.alloc (.cells (madeCells #[.int .u8 0] c) 5)) := by
  obtain ⟨i0, hi, hz0, hz1, hz2⟩ := info_parts Try.info5
  have := run_make (P := Try.prog) w 143 5 i0 (.int .u8 0) Try.underlying143 hi hz0 .i64 .i64 0 c (Int.le_refl _) (by omega) (by rw [hz2]; omega) (by omega)
  simpa [hz1, Value.cells] using this
theorem make_bytes7 (m : Nat) (h : m ≤ 1000) (w : World) : (Instr.makeSlice 143 (.int .i64 0) (.int .i64 ((m : Int) * 7))).run Try.prog w = .ok (.slice (some ⟨w.heap.size, 0, none⟩) 0 (m * 7)) (w.alloc (.cells (madeCells #[.int .u8 0] (m * 7)) 5)) :=
  make_bytes (m * 7) (by omega) w
theorem okT_neg (l : List Int) (n : Int) (h : n < 0) : okT l n = false := decide_eq_false (fun e => by omega)
theorem okT_len (l : List Int) (n : Int) (h : nW n.toNat ≠ l.length) : okT l n = false := decide_eq_false (fun e => h e.2.1)
theorem okT_ws (l : List Int) (n : Int) (h0 : 0 ≤ n) (h : nW n.toNat = l.length) : okT l n = decide (wsl (txL l n.toNat) = l) := by
  unfold okT; rw [decide_eq_decide]; exact ⟨fun e => e.2.2, fun e => ⟨h0, h, e⟩⟩
theorem ret_text {l : List Int} {n : Int} {s : ByteArray} {e : Int} (h1 : s = txS l n) (h2 : e = txE l n) : Ending.returned (.tuple #[.string s, .int .i64 e]) = .returned (.tuple #[.string (txS l n), .int .i64 (txE l n)]) := by rw [h1, h2]
theorem txS_no {l : List Int} {n : Int} (h : okT l n = false) : ByteArray.empty = txS l n := by unfold txS; rw [h]; rfl
theorem txE_no {l : List Int} {n : Int} (h : okT l n = false) : 20 = txE l n := by unfold txE; rw [h]; rfl
theorem txS_yes {l : List Int} {n : Int} (h : okT l n = true) : tx l n.toNat = txS l n := by unfold txS; rw [h]; rfl
theorem txE_yes {l : List Int} {n : Int} (h : okT l n = true) : 0 = txE l n := by unfold txE; rw [h]; rfl
set_option maxRecDepth 100000 in
set_option maxHeartbeats 2000000 in
theorem text_any (v : Value) (zs : List Int) (n : Int) (w : World) (hv : Rd w v zs) (hn : n < 9223372036854775808) :
    Calls Try.prog 94 #[v, .int .i64 n] w fun e w' => e = .returned (.tuple #[.string (txS zs n), .int .i64 (txE zs n)]) ∧ Below w.heap.size w w' := by
  obtain ⟨i0, hi, hz0, hz1, hz2⟩ := info_parts Try.info5
  have hv' := hv
  obtain ⟨zb, zl, a, cap, rfl, ha⟩ := hv
  clear ha
  by_cases h0 : n < 0
  · have hk := okT_neg zs n h0
    go_enter Try.func94, Try.ntmps94
    go_wp2
    go_ret2
    exact ⟨ret_text (txS_no hk) (txE_no hk), Below.refl _ _⟩
  · by_cases hl : nW n.toNat = zs.length
    · have hl2 : (((nW n.toNat : Nat) : Int) != (zs.length : Int)) = false := by simp [hl]
      have Hl : Hid (nW n.toNat = zs.length) := hl
      clear hl
      have h0' : 0 ≤ n := by omega
      have hmk := make_bytes7 zs.length zl
      have oR := World.ownsRow_made (base := w.heap.size) (e := 5) (size := 1) w (madeCells #[.int .u8 0] (zs.length * 7)) (zs.length * 7) (Nat.le_refl _) (by unfold maxLen; omega) (by rw [size_madeCells]; omega)
      go_enter Try.func94, Try.ntmps94
      go_wp2_with (go_at_call 95; refine (count_any _ _ (by omega) (by omega)).mono ?_; rintro e w' ⟨rfl, hw⟩; rw [hw]; clear hw w')
      go_loopw [6, 26] (fun t6 t26 w1 => ∃ (k : Nat) (g c : Nat), k ≤ zs.length ∧ t26 = .int .i64 k ∧ t6 = .slice (some ⟨g, 0, none⟩) (7 * k) c ∧ w1.ownsRow w.heap.size 5 1 (.slice (some ⟨g, 0, none⟩) (7 * k) c) (7 * k) ((txB (zs.take k)).map (Value.int .u8)) ∧ Below w.heap.size w w1) (fun _ t26 _ => zs.length - (intOf t26).toNat)
      case atStart => exact ⟨0, _, _, by omega, rfl, rfl, oR, (Below.refl _ w).alloc (Nat.le_refl _) _⟩
      case round =>
        obtain ⟨k, g, c, hk, rfl, rfl, hown, hbel⟩ := hrel
        by_cases hlt : k < zs.length
        · obtain ⟨b, off, rfl, hc⟩ := (hv'.below hbel).at k hlt
          go_wp2
          go_loopw [6, 30] (fun t6 t30 w1 => ∃ (j : Nat) (g c : Nat), j ≤ 7 ∧ t30 = .int .i64 j ∧ t6 = .slice (some ⟨g, 0, none⟩) (7 * k + j) c ∧ w1.ownsRow w.heap.size 5 1 (.slice (some ⟨g, 0, none⟩) (7 * k + j) c) (7 * k + j) ((txB (zs.take k) ++ bUp zs[k] j).map (Value.int .u8)) ∧ Below w.heap.size w w1) (fun _ t30 _ => 7 - (intOf t30).toNat)
          case atStart => exact ⟨0, _, _, by omega, rfl, rfl, by simpa [bUp] using hown, hbel⟩
          case round =>
            obtain ⟨j, g, c, hj, rfl, rfl, hown, hbel⟩ := hrel
            by_cases hlt2 : j < 7
            · have hbt : zs[k] / 2 ^ (8 * (6 - j)) % 256 = bt zs[k] j := rfl
              go_wp2_with (at_builtin; refine wpList_append_own _ rfl _ _ 143 rfl w.heap.size 5 i0 (.int .u8 0) 1 1 Try.underlying143 hi hz0 hz1 hz2 rfl (by decide) _ (7 * k + j) _ rfl (hown.alloc _) ⟨wr.heap.size, 0, none⟩ 1 1 [.int .u8 (bt zs[k] j)] rfl rfl (cell_one_new _ _ _) (by simp [Value.oneCell']) (by unfold maxLen; omega) (by omega) (by have := hbel.size; simp; omega) ?_; intro v' w3 hown' hgrow3 _; obtain ⟨g', cap', rfl⟩ := ownsRow_succ hown')
              have hsz := hbel.size
              have hb3 : Below w.heap.size w w3 := (hbel.alloc hsz _).grown hgrow3 (by simp; omega) (by intro q hq; exact (hown.lt q hq).1)
              go_roundw
              case rel => exact ⟨j + 1, g', cap', by omega, by go_num, rfl, by rw [bUp_succ, ← Nat.add_assoc]; simpa using hown', hb3⟩
              case measure => simp [intOf]; omega
            · obtain rfl : j = 7 := by omega
              go_wp2
              go_roundw
              case rel => exact ⟨k + 1, g, c, by omega, by go_num, by rw [Nat.mul_add], by rw [Nat.mul_add, List.take_succ_eq_append_getElem hlt, txB_append]; simpa [txB] using hown, hbel⟩
              case measure => simp [intOf]; omega
        · obtain rfl : k = zs.length := by omega
          have hnl : n.toNat ≤ 7 * zs.length := by have := Hl.out; unfold nW at this; omega
          have hcap : n ≤ (c : Int) := by
            rcases hown.2 with ⟨e, _⟩ | ⟨g2, c2, cur, e, _, _, hle, _⟩
            · cases e
            · cases e; omega
          have hcv : (convert 143 9 (.slice (some ⟨g, 0, none⟩) n.toNat c)).run Try.prog wr = .ok (.string (tx zs n.toNat)) wr := by
            refine run_convert_bytes_arg wr 143 5 Try.underlying143 Try.underlying5 g 0 n.toNat c ((txB zs).take n.toNat) (by rw [List.length_take, txB_length]; omega) ?_ 9 Try.underlying9
            intro i hi'
            have hil : i < (txB zs).length := by rw [txB_length]; omega
            rw [List.take_length] at hown
            have := hown.cells rfl i (.int .u8 ((txB zs)[i])) (by simp [List.getElem?_eq_getElem hil])
            rw [Addr.add_lit] at this
            rw [this]
            simp [List.getD, hi', List.getElem?_eq_getElem hil]
          have hsz : (tx zs n.toNat).size ≤ 7000 := by
            have := txL_length zs n.toNat
            unfold txL at this
            have e : (tx zs n.toNat).data.toList.length = (tx zs n.toNat).size := by simp
            omega
          have hk0 := okT_ws zs n h0' Hl.out
          clear hmk oR hown
          by_cases hE : wsl (tx zs n.toNat).data.toList = zs
          · have hE2 : decide (wsl (tx zs n.toNat).data.toList = zs) = true := decide_eq_true hE
            have hk : okT zs n = true := hk0.trans hE2
            clear hE hk0
            go_wp2_with (first
              | (go_at_call 81; refine (words_any _ _ hsz).mono ?_; rintro e w2 ⟨v2, rfl, _, hr2, hb2⟩)
              | (go_at_call 105; refine (equal_any _ _ _ _ _ hr2 (hv'.below (bstep hbel hb2))).mono ?_; rintro e w3 ⟨rfl, hb3⟩))
            go_ret2
            exact ⟨ret_text (txS_yes hk) (txE_yes hk), bstep (bstep hbel hb2) hb3⟩
          · have hE2 : decide (wsl (tx zs n.toNat).data.toList = zs) = false := decide_eq_false hE
            have hk : okT zs n = false := hk0.trans hE2
            clear hE hk0
            go_wp2_with (first
              | (go_at_call 81; refine (words_any _ _ hsz).mono ?_; rintro e w2 ⟨v2, rfl, _, hr2, hb2⟩)
              | (go_at_call 105; refine (equal_any _ _ _ _ _ hr2 (hv'.below (bstep hbel hb2))).mono ?_; rintro e w3 ⟨rfl, hb3⟩))
            go_ret2
            exact ⟨ret_text (txS_no hk) (txE_no hk), bstep (bstep hbel hb2) hb3⟩
    · have hk := okT_len zs n hl
      have hl2 : (((nW n.toNat : Nat) : Int) != (zs.length : Int)) = true := by simp; omega
      clear hl
      have h0' : 0 ≤ n := by omega
      go_enter Try.func94, Try.ntmps94
      go_wp2_with (go_at_call 95; refine (count_any _ _ (by omega) (by omega)).mono ?_; rintro e w' ⟨rfl, hw⟩; rw [hw]; clear hw w')
      go_ret2
      exact ⟨ret_text (txS_no hk) (txE_no hk), Below.refl _ _⟩
end Go.Proofs.Ytgcdhenbpkcmgaa.Ky
namespace Go.Proofs.Ytgcdhenbpkcmgaa.Ky
open Go.RowKit
end Go.Proofs.Ytgcdhenbpkcmgaa.Ky
namespace Go.Proofs.Ytgcdhenbpkcmgaa.Ky
open Go.RowKit
end Go.Proofs.Ytgcdhenbpkcmgaa.Ky
namespace Go.Proofs.Ytgcdhenbpkcmgaa.Ky
open Go.RowKit
/-- Words that are a text's of as many bytes are its own words. -/
theorem back_only (ys : List Int) (s : ByteArray) (h : okT ys (s.size : Int) = true) : txS ys (s.size : Int) = s ↔ ys = wsl s.data.toList := by
  rw [← txS_yes h]
  have h3 := (of_decide_eq_true h).2.2
  rw [Int.toNat_natCast] at *
  constructor
  · intro e
    unfold txL at h3
    rw [e] at h3
    exact h3.symm
  · intro e; rw [e]; exact tx_of s
theorem back_S (s : ByteArray) : txS (wsl s.data.toList) (s.size : Int) = s := (back_only _ s (okT_of s)).2 rfl
end Go.Proofs.Ytgcdhenbpkcmgaa.Ky
