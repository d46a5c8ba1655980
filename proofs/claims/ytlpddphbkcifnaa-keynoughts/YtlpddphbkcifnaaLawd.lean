/- Walks of layer 2's statements: noughts. -/
import Derived.Test.YtlpddphbkcifnaaLawc
namespace Go.Proofs.Ytlpddphbkcifnaa
open Go.RowKit

/-- m bytes 0. -/
def nought (m : Nat) : ByteArray := strOfNums (List.replicate m 0)
theorem nought_list (m : Nat) : (nought m).data.toList = List.replicate m 0 := by unfold nought; rw [strOfNums_data, List.map_replicate]; rfl
theorem nought_size (m : Nat) : (nought m).size = m := by unfold nought; rw [strOfNums_size, List.length_replicate]
theorem make_noughts (m : Nat) (h : m ≤ 1000) (w : World) : (Instr.makeSlice 34 (.int .i64 (m : Int)) (.int .i64 (m : Int))).run Try.prog w = .ok (.slice (some ⟨w.heap.size, 0, none⟩) m m) (w.alloc (.cells (madeCells #[.int .u8 0] m) 5)) := by
  obtain ⟨i0, hi, hz0, hz1, hz2⟩ := info_parts Try.info5
  have := run_make (P := Try.prog) w 34 5 i0 (.int .u8 0) Try.underlying34 hi hz0 .i64 .i64 m m (by omega) (by omega) (by rw [hz2]; omega) (by omega)
  simpa [hz1, Value.cells] using this
theorem nought_run (m : Nat) (w : World) : (convert 34 9 (.slice (some ⟨w.heap.size, 0, none⟩) m m)).run Try.prog (w.alloc (.cells (madeCells #[.int .u8 0] m) 5)) = .ok (.string (nought m)) (w.alloc (.cells (madeCells #[.int .u8 0] m) 5)) := by
  refine run_convert_bytes_arg _ 34 5 Try.underlying34 Try.underlying5 w.heap.size 0 m m (List.replicate m 0) (by simp) ?_ 9 Try.underlying9
  intro i hi
  have h1 : (w.alloc (.cells (madeCells #[.int .u8 0] m) 5)).heap[w.heap.size]? = some (.cells (madeCells #[.int .u8 0] m) 5) := heap_alloc_new w _
  simp only [World.cell?, h1]
  simp [madeCells, hi, List.getD, Nat.mod_one]

theorem byt_noughts (l : List UInt8) (m i : Nat) : byt (l ++ List.replicate m 0) i = byt l i := by
  unfold byt
  by_cases h : i < l.length
  · rw [List.getElem?_append_left h]
  · rw [List.getElem?_append_right (by omega), List.getElem?_eq_none (l := l) (by omega)]
    by_cases h2 : i - l.length < m
    · rw [List.getElem?_replicate, if_pos h2]; rfl
    · rw [List.getElem?_eq_none (by simp; omega)]
theorem wsl_noughts (l : List UInt8) (m : Nat) (h : nW (l.length + m) = nW l.length) : wsl (l ++ List.replicate m 0) = wsl l := by
  unfold wsl wUp
  rw [List.length_append, List.length_replicate, h]
  apply List.map_congr_left
  intro i _
  exact w7_congr _ _ 7 (fun j _ => byt_noughts l m _)
theorem less_more (l : List UInt8) (c : UInt8) (r : List UInt8) : Op.bytesLess l (l ++ c :: r) = true := by
  induction l with
  | nil => rfl
  | cons d l ih =>
    have e : Op.bytesLess (d :: l) (d :: (l ++ c :: r)) = (decide (d < d) || (d == d && Op.bytesLess l (l ++ c :: r))) := rfl
    rw [List.cons_append, e, ih]; simp

set_option maxRecDepth 100000 in
set_option maxHeartbeats 800000 in
theorem walk_KeyNoughts (s : ByteArray) (n : Int) (w : World) (hs : s.size ≤ maxLen) (hn : (Lit.int .u8 n).wf = true) :
    Calls Try.prog 8 #[.string s, .int .u8 n] w fun e w' => e = .returned (.bool true) ∧ Below w.heap.size w w' := by
  unfold maxLen at hs
  have hn' : 0 ≤ n ∧ n < 256 := by
    simp [Lit.wf, IntKind.min, IntKind.max, IntKind.bits, IntKind.signed] at hn
    omega
  clear hn
  by_cases h1 : (s.size : Int) > 300
  · go_enter Try.func8, Try.ntmps8
    go_wp2_with (go_at_call 9; refine (awake_any _).mono ?_; rintro e w1 ⟨rfl, hb1⟩)
    go_ret
    exact ⟨rfl, hb1⟩
  · have hwr : wrap64 n = n := by unfold wrap64; omega
    obtain ⟨r, hr⟩ : ∃ r : Nat, (7 - (s.size : Int) % 7) % 7 = (r : Int) := ⟨((7 - (s.size : Int) % 7) % 7).toNat, by omega⟩
    obtain ⟨m, hm⟩ : ∃ m : Nat, n % ((r : Int) + 1) = (m : Int) := ⟨(n % ((r : Int) + 1)).toNat, by have := Int.emod_nonneg n (show (r : Int) + 1 ≠ 0 by omega); omega⟩
    have hm2 : (m : Int) ≤ (r : Int) := by have := Int.emod_lt_of_pos n (show 0 < (r : Int) + 1 by omega); omega
    have hr6 : (r : Int) ≤ 6 := by omega
    have hm6 : m ≤ 6 := by omega
    obtain ⟨t, ht⟩ : ∃ t, s ++ nought m = t := ⟨_, rfl⟩
    have htl : t.data.toList = s.data.toList ++ List.replicate m 0 := by rw [← ht, ← nought_list]; simp
    have htz : t.size = s.size + m := by rw [← ht, ByteArray.size_append, nought_size]
    have hW : wsl t.data.toList = wsl s.data.toList := by rw [htl]; exact wsl_noughts _ _ (by unfold nW; simp; omega)
    have eS := back_S t
    have eE := back_E t
    rw [hW] at eS eE
    have hs7 : s.size ≤ 7000 := by omega
    have ht7 : t.size ≤ 7000 := by omega
    have hmk := make_noughts m (by omega)
    have hcv := nought_run m
    have hc : (((m : Int) == 0) = true ∧ (t.toList == s.toList) = true) ∨ (((m : Int) == 0) = false ∧ (t.toList == s.toList) = false ∧ Op.bytesLess s.toList t.toList = true) := by
      by_cases h0 : m = 0
      · left
        refine ⟨by simpa using h0, ?_⟩
        rw [ByteArray.toList_eq, ByteArray.toList_eq, htl, h0]; simp
      · right
        refine ⟨by simpa using h0, str_ne (fun e => ?_), ?_⟩
        · rw [e] at htz; omega
        · rw [ByteArray.toList_eq, ByteArray.toList_eq, htl]
          obtain ⟨k, rfl⟩ : ∃ k, m = k + 1 := ⟨m - 1, by omega⟩
          rw [List.replicate_succ]
          exact less_more _ _ _
    clear htl htz
    have t1 : Hid (0 = 0) := rfl
    have t2 : Hid (0 = 0) := rfl
    have t3 : Hid (0 = 0) := rfl
    have hnz := nought_size m
    rcases hc with ⟨c1, c2⟩ | ⟨c1, c2, c3⟩
    all_goals
      go_enter Try.func8, Try.ntmps8
      go_wp2_with (first
        | (go_at_call 9; refine (awake_any _).mono ?_; rintro e w1 ⟨rfl, hb1⟩)
        | (go_at_call 17; clear t1; refine (words_any _ _ hs7).mono ?_; rintro e w2 ⟨v2, rfl, _, hr2, hb2⟩)
        | (go_at_call 10; refine (text_any _ _ _ _ hr2 (by omega)).mono ?_; rintro e w3 ⟨rfl, hb3⟩)
        | (go_at_call 17; clear t2; refine (words_any _ _ hs7).mono ?_; rintro e w4 ⟨v4, rfl, _, hr4, hb4⟩)
        | (go_at_call 17; clear t3; refine (words_any _ _ ht7).mono ?_; rw [hW]; rintro e w5 ⟨v5, rfl, _, hr5, hb5⟩)
        | (go_at_call 16; refine (numbers_any _ _ _ _ _ (hr4.below hb5) hr5).mono ?_; rw [decide_eq_true rfl]; rintro e w6 ⟨rfl, hb6⟩))
      go_ret
      exact ⟨rfl, bstep (bstep (bstep (bstep (bstep (bstep hb1 ((Below.refl _ _).alloc (Nat.le_refl _) _)) hb2) hb3) hb4) hb5) hb6⟩
end Go.Proofs.Ytlpddphbkcifnaa
