/- Walks of layer 2: the text of words. · Walks of layer 2: the document's own text of words. · A slice of ints that came in, as it is read. · Walks of layer 2's statements: tells, back. -/
import Derived.Test.YtmhojhpfkieioaaKeywalkc
namespace Go.Proofs.Ytmhojhpfkieioaa.Ky
open Go.RowKit

theorem make_bytes (c : Nat) (h : c ≤ 7000) (w : World) : (Instr.makeSlice 71 (.int .i64 0) (.int .i64 (c : Int))).run Try.prog w = .ok (.slice (some ⟨w.heap.size, 0, none⟩) 0 c) (w.alloc (.cells (madeCells #[.int .u8 0] c) 5)) := by
  obtain ⟨i0, hi, hz0, hz1, hz2⟩ := info_parts Try.info5
  have := run_make (P := Try.prog) w 71 5 i0 (.int .u8 0) Try.underlying71 hi hz0 .i64 .i64 0 c (Int.le_refl _) (by omega) (by rw [hz2]; omega) (by omega)
  simpa [hz1, Value.cells] using this

theorem make_bytes7 (m : Nat) (h : m ≤ 1000) (w : World) : (Instr.makeSlice 71 (.int .i64 0) (.int .i64 ((m : Int) * 7))).run Try.prog w = .ok (.slice (some ⟨w.heap.size, 0, none⟩) 0 (m * 7)) (w.alloc (.cells (madeCells #[.int .u8 0] (m * 7)) 5)) :=
  make_bytes (m * 7) (by omega) w

theorem okT_neg (l : List Int) (n : Int) (h : n < 0) : okT l n = false := decide_eq_false (fun e => by omega)
theorem okT_len (l : List Int) (n : Int) (h : nW n.toNat ≠ l.length) : okT l n = false := decide_eq_false (fun e => h e.2.1)
theorem okT_ws (l : List Int) (n : Int) (h0 : 0 ≤ n) (h : nW n.toNat = l.length) : okT l n = decide (wsl (txL l n.toNat) = l) := by
  unfold okT; rw [decide_eq_decide]; exact ⟨fun e => e.2.2, fun e => ⟨h0, h, e⟩⟩
theorem ret_text {l : List Int} {n : Int} {s : ByteArray} {e : Int} (h1 : s = txS l n) (h2 : e = txE l n) : Ending.returned (.tuple #[.string s, .int .i64 e]) = .returned (.tuple #[.string (txS l n), .int .i64 (txE l n)]) := by rw [h1, h2]
theorem txS_no {l : List Int} {n : Int} (h : okT l n = false) : ByteArray.empty = txS l n := by unfold txS; rw [h]; rfl
theorem txE_no {l : List Int} {n : Int} (h : okT l n = false) : 20 = txE l n := by unfold txE; rw [h]; rfl
theorem txS_yes {l : List Int} {n : Int} (h : okT l n = true) : tx l n.toNat = txS l n := by unfold txS; rw [h]; rfl
theorem txE_yes {l : List Int} {n : Int} (h : okT l n = true) : 0 = txE l n := by unfold txE; rw [h]; rfl

set_option maxRecDepth 100000 in
set_option maxHeartbeats 2000000 in
theorem text_any (v : Value) (zs : List Int) (n : Int) (w : World) (hv : Rd w v zs) (hn : n < 9223372036854775808) :
    Calls Try.prog 53 #[v, .int .i64 n] w fun e w' => e = .returned (.tuple #[.string (txS zs n), .int .i64 (txE zs n)]) ∧ Below w.heap.size w w' := by
  obtain ⟨i0, hi, hz0, hz1, hz2⟩ := info_parts Try.info5
  have hv' := hv
  obtain ⟨zb, zl, a, cap, rfl, ha⟩ := hv
  clear ha
  by_cases h0 : n < 0
  · have hk := okT_neg zs n h0
    go_enter Try.func53, Try.ntmps53
    go_wp2
    go_ret2
    exact ⟨ret_text (txS_no hk) (txE_no hk), Below.refl _ _⟩
  · by_cases hl : nW n.toNat = zs.length
    · have hl2 : (((nW n.toNat : Nat) : Int) != (zs.length : Int)) = false := by simp [hl]
      have Hl : Hid (nW n.toNat = zs.length) := hl
      clear hl
      have h0' : 0 ≤ n := by omega
      have hmk := make_bytes7 zs.length zl
      have oR := World.ownsRow_made (base := w.heap.size) (e := 5) (size := 1) w (madeCells #[.int .u8 0] (zs.length * 7)) (zs.length * 7) (Nat.le_refl _) (by unfold maxLen; omega) (by rw [size_madeCells]; omega)
      go_enter Try.func53, Try.ntmps53
      go_wp2_with (go_at_call 46; refine (count_any _ _ (by omega) (by omega)).mono ?_; rintro e w' ⟨rfl, hw⟩; rw [hw]; clear hw w')
      go_loopw [6, 26] (fun t6 t26 w1 => ∃ (k : Nat) (g c : Nat), k ≤ zs.length ∧ t26 = .int .i64 k ∧ t6 = .slice (some ⟨g, 0, none⟩) (7 * k) c ∧ w1.ownsRow w.heap.size 5 1 (.slice (some ⟨g, 0, none⟩) (7 * k) c) (7 * k) ((txB (zs.take k)).map (Value.int .u8)) ∧ Below w.heap.size w w1) (fun _ t26 _ => zs.length - (intOf t26).toNat)
      case atStart => exact ⟨0, _, _, by omega, rfl, rfl, oR, (Below.refl _ w).alloc (Nat.le_refl _) _⟩
      case round =>
        obtain ⟨k, g, c, hk, rfl, rfl, hown, hbel⟩ := hrel
        by_cases hlt : k < zs.length
        · obtain ⟨b, off, rfl, hc⟩ := (hv'.below hbel).at k hlt
          go_wp2
          go_loopw [6, 30] (fun t6 t30 w1 => ∃ (j : Nat) (g c : Nat), j ≤ 7 ∧ t30 = .int .i64 j ∧ t6 = .slice (some ⟨g, 0, none⟩) (7 * k + j) c ∧ w1.ownsRow w.heap.size 5 1 (.slice (some ⟨g, 0, none⟩) (7 * k + j) c) (7 * k + j) ((txB (zs.take k) ++ bUp zs[k] j).map (Value.int .u8)) ∧ Below w.heap.size w w1) (fun _ t30 _ => 7 - (intOf t30).toNat)
          case atStart => exact ⟨0, _, _, by omega, rfl, rfl, by simpa [bUp] using hown, hbel⟩
          case round =>
            obtain ⟨j, g, c, hj, rfl, rfl, hown, hbel⟩ := hrel
            by_cases hlt2 : j < 7
            · have hbt : zs[k] / 2 ^ (8 * (6 - j)) % 256 = bt zs[k] j := rfl
              go_wp2_with (at_builtin; refine wpList_append_own _ rfl _ _ 71 rfl w.heap.size 5 i0 (.int .u8 0) 1 1 Try.underlying71 hi hz0 hz1 hz2 rfl (by decide) _ (7 * k + j) _ rfl (hown.alloc _) ⟨wr.heap.size, 0, none⟩ 1 1 [.int .u8 (bt zs[k] j)] rfl rfl (cell_one_new _ _ _) (by simp [Value.oneCell']) (by unfold maxLen; omega) (by omega) (by have := hbel.size; simp; omega) ?_; intro v' w3 hown' hgrow3 _; obtain ⟨g', cap', rfl⟩ := ownsRow_succ hown')
              have hsz := hbel.size
              have hb3 : Below w.heap.size w w3 := (hbel.alloc hsz _).grown hgrow3 (by simp; omega) (by intro q hq; exact (hown.lt q hq).1)
              go_roundw
              case rel => exact ⟨j + 1, g', cap', by omega, by go_num, rfl, by rw [bUp_succ, ← Nat.add_assoc]; simpa using hown', hb3⟩
              case measure => simp [intOf]; omega
            · obtain rfl : j = 7 := by omega
              go_wp2
              go_roundw
              case rel => exact ⟨k + 1, g, c, by omega, by go_num, by rw [Nat.mul_add], by rw [Nat.mul_add, List.take_succ_eq_append_getElem hlt, txB_append]; simpa [txB] using hown, hbel⟩
              case measure => simp [intOf]; omega
        · obtain rfl : k = zs.length := by omega
          have hnl : n.toNat ≤ 7 * zs.length := by have := Hl.out; unfold nW at this; omega
          have hcap : n ≤ (c : Int) := by
            rcases hown.2 with ⟨e, _⟩ | ⟨g2, c2, cur, e, _, _, hle, _⟩
            · cases e
            · cases e; omega
          have hcv : (convert 71 9 (.slice (some ⟨g, 0, none⟩) n.toNat c)).run Try.prog wr = .ok (.string (tx zs n.toNat)) wr := by
            refine run_convert_bytes_arg wr 71 5 Try.underlying71 Try.underlying5 g 0 n.toNat c ((txB zs).take n.toNat) (by rw [List.length_take, txB_length]; omega) ?_ 9 Try.underlying9
            intro i hi'
            have hil : i < (txB zs).length := by rw [txB_length]; omega
            rw [List.take_length] at hown
            have := hown.cells rfl i (.int .u8 ((txB zs)[i])) (by simp [List.getElem?_eq_getElem hil])
            rw [Addr.add_lit] at this
            rw [this]
            simp [List.getD, hi', List.getElem?_eq_getElem hil]
          have hsz : (tx zs n.toNat).size ≤ 7000 := by
            have := txL_length zs n.toNat
            unfold txL at this
            have e : (tx zs n.toNat).data.toList.length = (tx zs n.toNat).size := by simp
            omega
          have hk0 := okT_ws zs n h0' Hl.out
          clear hmk oR hown
          by_cases hE : wsl (tx zs n.toNat).data.toList = zs
          · have hE2 : decide (wsl (tx zs n.toNat).data.toList = zs) = true := decide_eq_true hE
            have hk : okT zs n = true := hk0.trans hE2
            clear hE hk0
            go_wp2_with (first
              | (go_at_call 36; refine (words_any _ _ hsz).mono ?_; rintro e w2 ⟨v2, rfl, _, hr2, hb2⟩)
              | (go_at_call 55; refine (equal_any _ _ _ _ _ hr2 (hv'.below (bstep hbel hb2))).mono ?_; rintro e w3 ⟨rfl, hb3⟩))
            go_ret2
            exact ⟨ret_text (txS_yes hk) (txE_yes hk), bstep (bstep hbel hb2) hb3⟩
          · have hE2 : decide (wsl (tx zs n.toNat).data.toList = zs) = false := decide_eq_false hE
            have hk : okT zs n = false := hk0.trans hE2
            clear hE hk0
            go_wp2_with (first
              | (go_at_call 36; refine (words_any _ _ hsz).mono ?_; rintro e w2 ⟨v2, rfl, _, hr2, hb2⟩)
              | (go_at_call 55; refine (equal_any _ _ _ _ _ hr2 (hv'.below (bstep hbel hb2))).mono ?_; rintro e w3 ⟨rfl, hb3⟩))
            go_ret2
            exact ⟨ret_text (txS_no hk) (txE_no hk), bstep (bstep hbel hb2) hb3⟩
    · have hk := okT_len zs n hl
      have hl2 : (((nW n.toNat : Nat) : Int) != (zs.length : Int)) = true := by simp; omega
      clear hl
      have h0' : 0 ≤ n := by omega
      go_enter Try.func53, Try.ntmps53
      go_wp2_with (go_at_call 46; refine (count_any _ _ (by omega) (by omega)).mono ?_; rintro e w' ⟨rfl, hw⟩; rw [hw]; clear hw w')
      go_ret2
      exact ⟨ret_text (txS_no hk) (txE_no hk), Below.refl _ _⟩
end Go.Proofs.Ytmhojhpfkieioaa.Ky
namespace Go.Proofs.Ytmhojhpfkieioaa.Ky
open Go.RowKit

theorem wordsR_any (s : ByteArray) (w : World) (hs : s.size ≤ 7000) :
    Calls Try.prog 39 #[.string s] w fun e w' => ∃ v, e = .returned v ∧ Rd w' v (wsl s.data.toList) ∧ Below w.heap.size w w' := by
  refine (wordsR_own s w hs).mono ?_
  rintro e w' ⟨v, rfl, hown, hb⟩
  exact ⟨v, rfl, Rd.of_own hown (wsl_bd _) (by rw [wsl_length]; unfold nW; simp; omega), hb⟩

/-- n over 256, k times. -/
def dv (n : Int) : Nat → Int
  | 0 => n
  | k + 1 => dv n k / 256
/-- The last k bytes of n. -/
def lastB (n : Int) : Nat → List Int
  | 0 => []
  | k + 1 => (dv n k % 256) :: lastB n k
theorem dv_bd (n : Int) (h0 : 0 ≤ n) (h : n < 9223372036854775808) : ∀ k, 0 ≤ dv n k ∧ dv n k < 9223372036854775808
  | 0 => ⟨h0, h⟩
  | k + 1 => by
    have := dv_bd n h0 h k
    show 0 ≤ dv n k / 256 ∧ dv n k / 256 < _
    omega
theorem lastB_7 (n : Int) : lastB n 7 = bUp n 7 := by
  have e : bUp n 7 = [bt n 0, bt n 1, bt n 2, bt n 3, bt n 4, bt n 5, bt n 6] := rfl
  rw [e]
  simp only [lastB, dv, bt, Nat.reduceSub, Nat.reduceMul, Int.reducePow]
  have e1 : n / 256 / 256 = n / 65536 := by omega
  have e2 : n / 65536 / 256 = n / 16777216 := by omega
  have e3 : n / 16777216 / 256 = n / 4294967296 := by omega
  have e4 : n / 4294967296 / 256 = n / 1099511627776 := by omega
  have e5 : n / 1099511627776 / 256 = n / 281474976710656 := by omega
  rw [e1, e2, e3, e4, e5]
  simp
theorem okT_more (l : List Int) (n : Int) (h : 7 * (l.length : Int) < n) : okT l n = false := okT_len l n (by unfold nW; omega)
theorem okT_below (l : List Int) (n : Int) (k : Nat) (hk : k < l.length) (h : l[k] < 0) : okT l n = false := by
  refine decide_eq_false (fun e => ?_)
  have hm : l[k] ∈ wsl (txL l n.toNat) := by rw [e.2.2]; exact List.getElem_mem hk
  have := wUp_bd _ _ _ hm
  omega
theorem okT_ws2 (l : List Int) (n : Int) (h0 : 0 ≤ n) (h : n ≤ 7 * (l.length : Int)) : okT l n = decide (wsl (txL l n.toNat) = l) := by
  unfold okT; rw [decide_eq_decide]
  refine ⟨fun e => e.2.2, fun e => ⟨h0, ?_, e⟩⟩
  have h1 := wsl_length (txL l n.toNat)
  rw [txL_length, e] at h1
  rw [h1]; congr 1; omega

set_option maxRecDepth 100000 in
set_option maxHeartbeats 2000000 in
theorem textR_any (v : Value) (zs : List Int) (n : Int) (w : World) (hv : Rd w v zs) :
    Calls Try.prog 26 #[v, .int .i64 n] w fun e w' => e = .returned (.tuple #[.string (txS zs n), .int .i64 (txE zs n)]) ∧ Below w.heap.size w w' := by
  obtain ⟨i0, hi, hz0, hz1, hz2⟩ := info_parts Try.info5
  have hv' := hv
  obtain ⟨zb, zl, a, cap, rfl, ha⟩ := hv
  clear ha
  by_cases h0 : n < 0
  · have hk := okT_neg zs n h0
    go_enter Try.func26, Try.ntmps26
    go_wp2
    go_ret2
    exact ⟨ret_text (txS_no hk) (txE_no hk), Below.refl _ _⟩
  · by_cases hl : 7 * (zs.length : Int) < n
    · have hk := okT_more zs n hl
      have h0' : 0 ≤ n := by omega
      go_enter Try.func26, Try.ntmps26
      go_wp2
      go_ret2
      exact ⟨ret_text (txS_no hk) (txE_no hk), Below.refl _ _⟩
    · have h0' : 0 ≤ n := by omega
      have hl' : n ≤ 7 * (zs.length : Int) := by omega
      clear h0 hl
      go_enter Try.func26, Try.ntmps26
      go_wp2
      go_loopw [6, 7] (fun t6 t7 w1 => ∃ k : Nat, k ≤ zs.length ∧ t7 = .int .i64 k ∧ w1.ownsRow w.heap.size 5 1 t6 (7 * k) ((txB (zs.take k)).map (Value.int .u8)) ∧ Below w.heap.size w w1) (fun _ t7 _ => zs.length - (intOf t7).toNat)
      case atStart => exact ⟨0, by omega, rfl, World.ownsRow_nil _ _ _ _, Below.refl _ _⟩
      case round =>
        obtain ⟨k, hk, rfl, hown, hbel⟩ := hrel
        by_cases hlt : k < zs.length
        · have hltI : (k : Int) < (zs.length : Int) := by omega
          obtain ⟨b, off, rfl, hc⟩ := (hv'.below hbel).at k hlt
          by_cases hneg : zs[k] < 0
          · have hk := okT_below zs n k hlt hneg
            go_wp2
            go_ret2
            exact ⟨ret_text (txS_no hk) (txE_no hk), hbel⟩
          · have hd := dv_bd zs[k] (by omega) (zb _ (List.getElem_mem hlt)).2
            go_wp2
            go_loopw [8, 9, 10] (fun t8 t9 t10 w1 => ∃ j : Nat, j ≤ 7 ∧ t10 = .int .i64 j ∧ t9 = .int .i64 (dv zs[k] j) ∧ w1.ownsRow w.heap.size 5 1 t8 j ((lastB zs[k] j).map (Value.int .u8)) ∧ w1.ownsRow w.heap.size 5 1 u6 (7 * k) ((txB (zs.take k)).map (Value.int .u8)) ∧ Below w.heap.size w w1) (fun _ _ t10 _ => 7 - (intOf t10).toNat)
            case atStart => exact ⟨0, by omega, rfl, rfl, World.ownsRow_nil _ _ _ _, hown, hbel⟩
            case round =>
              obtain ⟨j, hj, rfl, rfl, hown2, hown, hbel⟩ := hrel
              obtain ⟨d0, d1⟩ := hd j
              by_cases hlt2 : j < 7
              · have hsz := hbel.size
                go_wp2_with (at_builtin; refine wpList_append_two rfl _ _ 71 rfl w.heap.size w.heap.size 5 i0 (.int .u8 0) 1 1 Try.underlying71 hi hz0 hz1 hz2 rfl (by decide) (.slice (some ⟨wr.heap.size, 0, none⟩) 1 1) 1 [.int .u8 (dv zs[k] j % 256)] rfl (by exact World.ownsRow_lit _ _ 1 (by omega) (by unfold maxLen; omega) rfl) _ j _ rfl (hown2.alloc _) (fun u hu => by obtain ⟨y, _, rfl⟩ := List.mem_map.1 hu; rfl) (by unfold maxLen; omega) (by omega) (by simp; omega) ?_; intro v' w3 hown' hgrow3)
                have hb3 : Below w.heap.size w w3 := (hbel.alloc hsz _).grown hgrow3 (by simp; omega) (by intro q hq; cases hq; exact hsz)
                have hown3 := (hown.alloc (.cells #[.int .u8 (dv zs[k] j % 256)] 5)).kept hgrow3 (.inr (fun e => absurd (hown.lt _ e).2 (Nat.lt_irrefl _)))
                rw [Nat.add_comm 1 j] at hown'
                go_roundw
                case rel => exact ⟨j + 1, by omega, by go_num, rfl, hown', hown3, hb3⟩
                case measure => simp [intOf]; omega
              · obtain rfl : j = 7 := by omega
                have hsz := hbel.size
                rw [lastB_7] at hown2
                go_wp2_with (at_builtin; refine wpList_append_two rfl _ _ 71 rfl w.heap.size w.heap.size 5 i0 (.int .u8 0) 1 1 Try.underlying71 hi hz0 hz1 hz2 rfl (by decide) _ (7 * k) _ rfl hown _ 7 _ rfl hown2 (fun u hu => by obtain ⟨y, _, rfl⟩ := List.mem_map.1 hu; rfl) (by unfold maxLen; omega) (by omega) hsz ?_; intro v' w3 hown' hgrow3)
                have hb3 : Below w.heap.size w w3 := hbel.grown hgrow3 hsz (by intro q hq; exact (hown.lt q hq).1)
                go_roundw
                case rel => exact ⟨k + 1, by omega, by go_num, by rw [Nat.mul_add, List.take_succ_eq_append_getElem hlt, txB_append]; simpa [txB] using hown', hb3⟩
                case measure => simp [intOf]; omega
        · obtain rfl : k = zs.length := by omega
          have hsz : (tx zs n.toNat).size ≤ 7000 := by
            have := txL_length zs n.toNat
            unfold txL at this
            have e : (tx zs n.toNat).data.toList.length = (tx zs n.toNat).size := by simp
            omega
          have hk0 := okT_ws2 zs n h0' hl'
          rw [List.take_length] at hown
          rcases hown.2 with ⟨rfl, hz⟩ | ⟨g, c, cur, rfl, _, _, hle, _⟩
          · have hn0 : n = 0 := by omega
            have hz0' : zs = [] := List.eq_nil_of_length_eq_zero (by omega)
            subst hn0
            subst hz0'
            have hcv : (convert 71 9 (.slice none 0 0)).run Try.prog wr = .ok (.string ByteArray.empty) wr := run_convert_bytes_nil wr 71 5 Try.underlying71 Try.underlying5 0 0 9 Try.underlying9
            have hk : okT [] 0 = true := by decide +kernel
            have hE : wsl ByteArray.empty.data.toList = [] := rfl
            have e0 : ByteArray.empty.size ≤ 7000 := by decide
            have T : Hid (Ending.returned (.tuple #[.string ByteArray.empty, .int .i64 0]) = .returned (.tuple #[.string (txS [] 0), .int .i64 (txE [] 0)])) := ret_text (txS_yes hk) (txE_yes hk)
            clear hown hk hk0 hsz
            go_wp2_with (first
              | (go_at_call 39; refine (wordsR_any _ _ e0).mono ?_; rw [hE]; rintro e w2 ⟨v2, rfl, hr2, hb2⟩)
              | (go_at_call 17; refine (numbers_any _ _ _ _ _ hr2 (hv'.below (bstep hbel hb2))).mono ?_; rintro e w3 ⟨rfl, hb3⟩))
            go_ret2
            exact ⟨T.out, bstep (bstep hbel hb2) hb3⟩
          · have hcap : n ≤ (c : Int) := by omega
            have hcv : (convert 71 9 (.slice (some ⟨g, 0, none⟩) n.toNat c)).run Try.prog wr = .ok (.string (tx zs n.toNat)) wr := by
              refine run_convert_bytes_arg wr 71 5 Try.underlying71 Try.underlying5 g 0 n.toNat c ((txB zs).take n.toNat) (by rw [List.length_take, txB_length]; omega) ?_ 9 Try.underlying9
              intro i hi'
              have hil : i < (txB zs).length := by rw [txB_length]; omega
              have := hown.cells rfl i (.int .u8 ((txB zs)[i])) (by simp [List.getElem?_eq_getElem hil])
              rw [Addr.add_lit] at this
              rw [this]
              simp [List.getD, hi', List.getElem?_eq_getElem hil]
            clear hown hle
            by_cases hE : wsl (tx zs n.toNat).data.toList = zs
            · have hE2 : decide (wsl (tx zs n.toNat).data.toList = zs) = true := decide_eq_true hE
              have hk : okT zs n = true := hk0.trans hE2
              clear hE hk0
              go_wp2_with (first
                | (go_at_call 39; refine (wordsR_any _ _ hsz).mono ?_; rintro e w2 ⟨v2, rfl, hr2, hb2⟩)
                | (go_at_call 17; refine (numbers_any _ _ _ _ _ hr2 (hv'.below (bstep hbel hb2))).mono ?_; rintro e w3 ⟨rfl, hb3⟩))
              go_ret2
              exact ⟨ret_text (txS_yes hk) (txE_yes hk), bstep (bstep hbel hb2) hb3⟩
            · have hE2 : decide (wsl (tx zs n.toNat).data.toList = zs) = false := decide_eq_false hE
              have hk : okT zs n = false := hk0.trans hE2
              clear hE hk0
              go_wp2_with (first
                | (go_at_call 39; refine (wordsR_any _ _ hsz).mono ?_; rintro e w2 ⟨v2, rfl, hr2, hb2⟩)
                | (go_at_call 17; refine (numbers_any _ _ _ _ _ hr2 (hv'.below (bstep hbel hb2))).mono ?_; rintro e w3 ⟨rfl, hb3⟩))
              go_ret2
              exact ⟨ret_text (txS_no hk) (txE_no hk), bstep (bstep hbel hb2) hb3⟩
end Go.Proofs.Ytmhojhpfkieioaa.Ky
namespace Go.Proofs.Ytmhojhpfkieioaa.Ky
open Go.RowKit

/-- What the opening of an argument tells of a slice of ints: its cells, the spare ones too. -/
def IsRow (k : IntKind) (W : World) (a : Option Addr) (len cap : Nat) (zs : List Int) : Prop :=
  (a = none ∧ len = 0 ∧ cap = 0 ∧ zs = []) ∨ ∃ x : Addr, a = some x ∧ len ≤ cap ∧ cap ≤ maxLen ∧ zs.length = cap ∧ (∀ i, i < zs.length → W.cell? (x.add i) = some (.int k (zs.getD i 0))) ∧ (∀ n ∈ zs, (Lit.int k n).wf = true)
theorem IsRow.len {k : IntKind} {W : World} {a : Option Addr} {len cap : Nat} {zs : List Int} (h : IsRow k W a len cap zs) : (zs.take len).length = len := by
  rcases h with ⟨_, rfl, _, rfl⟩ | ⟨x, _, h1, _, h2, _⟩
  · rfl
  · rw [List.length_take]; omega
theorem IsRow.small {k : IntKind} {W : World} {a : Option Addr} {len cap : Nat} {zs : List Int} (h : IsRow k W a len cap zs) : len ≤ 9223372036854775807 := by
  rcases h with ⟨_, rfl, _, _⟩ | ⟨x, _, h1, h2, _⟩
  · omega
  · unfold maxLen at h2; omega
theorem wf_i64 {z : Int} (h : (Lit.int .i64 z).wf = true) : -9223372036854775808 ≤ z ∧ z < 9223372036854775808 := by
  simp [Lit.wf, IntKind.min, IntKind.max, IntKind.bits, IntKind.signed] at h
  omega
theorem cell_spot {W : World} {x : Addr} {v : Value} (h : W.cell? x = some v) : x = ⟨x.block, x.off, none⟩ := by
  obtain ⟨b, o, sp⟩ := x
  cases sp with
  | none => rfl
  | some p =>
    simp only [World.cell?] at h
    split at h
    · simp at h
    · cases h
theorem Rd.of_row {W : World} {a : Option Addr} {len cap : Nat} {zs : List Int} (h : IsRow .i64 W a len cap zs) (hl : len ≤ 1000) : Rd W (.slice a len cap) (zs.take len) := by
  have hlen := h.len
  rcases h with ⟨rfl, rfl, rfl, rfl⟩ | ⟨x, rfl, h1, h2, h3, h4, h5⟩
  · exact ⟨by intro z hz; simp at hz, by simp, none, 0, rfl, .inl rfl⟩
  · refine ⟨fun z hz => wf_i64 (h5 z (List.mem_of_mem_take hz)), by omega, some x, cap, by rw [hlen], ?_⟩
    by_cases h0 : len = 0
    · left; subst h0; simp
    · right
      have hx := cell_spot (h4 0 (by omega))
      have hx0 : x.add 0 = x := rfl
      rw [hx0] at hx
      have hlt := World.block_lt_of_cell? W _ (h4 0 (by omega))
      rw [hx0] at hlt
      refine ⟨x.block, x.off, by rw [← hx], hlt, ?_⟩
      intro j hj
      have := h4 j (by omega)
      rw [hx, Addr.add_lit] at this
      rw [this]
      congr 2
      rw [List.getElem?_take, if_pos (by omega)]
      simp [List.getD]
end Go.Proofs.Ytmhojhpfkieioaa.Ky
namespace Go.Proofs.Ytmhojhpfkieioaa.Ky
open Go.RowKit


theorem str_ne {a b : ByteArray} (h : a ≠ b) : (a.toList == b.toList) = false := by
  rw [ByteArray.toList_eq, ByteArray.toList_eq]
  simpa using fun e => h (ba_ext (by simpa using e))

/-- Words that are a text's of as many bytes are its own words. -/
theorem back_only (ys : List Int) (s : ByteArray) (h : okT ys (s.size : Int) = true) : txS ys (s.size : Int) = s ↔ ys = wsl s.data.toList := by
  rw [← txS_yes h]
  have h3 := (of_decide_eq_true h).2.2
  rw [Int.toNat_natCast] at *
  constructor
  · intro e
    unfold txL at h3
    rw [e] at h3
    exact h3.symm
  · intro e; rw [e]; exact tx_of s
theorem back_S (s : ByteArray) : txS (wsl s.data.toList) (s.size : Int) = s := (back_only _ s (okT_of s)).2 rfl
theorem back_E (s : ByteArray) : txE (wsl s.data.toList) (s.size : Int) = 0 := (txE_yes (okT_of s)).symm

end Go.Proofs.Ytmhojhpfkieioaa.Ky
