/- Set over from a lower layer: Recb. -/
import Derived.Test.YtgcdhenbpkcmgaaBase
import Derived.Test.YtgcdhenbpkcmgaaNNuma
import Derived.Test.YtgcdhenbpkcmgaaSSupl
import Derived.Test.YtgcdhenbpkcmgaaQuietb
import Derived.Test.YtgcdhenbpkcmgaaRReca
import Derived.Lib.AppendZeros
namespace Go.Proofs.Ytgcdhenbpkcmgaa
open Go.RowKit Go.Shelf
set_option linter.unusedVariables false
theorem txS_size (l : List Int) (h : Ky.okT l 21 = true) : (Ky.txS l 21).size = 21 := by
  rw [← Ky.txS_yes h]
  have h1 := (of_decide_eq_true h).2.1
  rw [← ba_list]
  show (Ky.txL l 21).length = 21
  rw [Ky.txL_length]
  have : Ky.nW 21 = 3 := rfl
  have h2 : Ky.nW (21 : Int).toNat = 3 := rfl
  rw [h2] at h1
  omega
set_option maxRecDepth 100000 in
set_option maxHeartbeats 1000000 in
theorem beg_any (v : Value) (l : List Int) (n : Int) (w : World) (hR : Rd w v l) (hF : Fits l) : Calls Try.prog 78 #[v, .int .i64 21, .int .i64 n] w fun e w' => e = .returned (.string (begS l n)) ∧ Below w.heap.size w w' := by
  have hK := hR.ky hF
  cases ho : Ky.okT l 21 with
  | false =>
    have H : Hid (begS l n = ByteArray.empty) := show _ = _ by unfold begS; rw [ho]; rfl
    have hE : Ky.txE l 21 = 20 := (Ky.txE_no ho).symm
    go_enter Try.func78, Try.ntmps78
    go_wp2_with (go_at_call 94; refine (Ky.text_any _ _ _ _ hK (by decide)).mono ?_; rintro e w1 ⟨rfl, hb1⟩)
    go_ret
    exact ⟨by rw [H.out]; rfl, hb1⟩
  | true =>
    have hE : Ky.txE l 21 = 0 := (Ky.txE_yes ho).symm
    have hS := txS_size l ho
    by_cases h0 : n < 0
    · have H : Hid (begS l n = ByteArray.empty) := show _ = _ by unfold begS; rw [if_neg (by omega)]
      go_enter Try.func78, Try.ntmps78
      go_wp2_with (go_at_call 94; refine (Ky.text_any _ _ _ _ hK (by decide)).mono ?_; rintro e w1 ⟨rfl, hb1⟩)
      go_ret
      exact ⟨by rw [H.out]; rfl, hb1⟩
    · by_cases h1 : n > 21
      · have H : Hid (begS l n = ByteArray.empty) := show _ = _ by unfold begS; rw [if_neg (by omega)]
        go_enter Try.func78, Try.ntmps78
        go_wp2_with (go_at_call 94; refine (Ky.text_any _ _ _ _ hK (by decide)).mono ?_; rintro e w1 ⟨rfl, hb1⟩)
        go_ret
        exact ⟨by rw [H.out]; rfl, hb1⟩
      · have H : Hid (begS l n = (Ky.txS l 21).extract 0 n.toNat) := show _ = _ by unfold begS; rw [if_pos ⟨ho, by omega, by omega⟩]
        go_enter Try.func78, Try.ntmps78
        go_wp2_with (go_at_call 94; refine (Ky.text_any _ _ _ _ hK (by decide)).mono ?_; rintro e w1 ⟨rfl, hb1⟩)
        go_ret
        exact ⟨by rw [H.out]; rfl, hb1⟩
/-- slices.Grow of no slice. -/
theorem zeros_run (n : Nat) (h0 : 0 < n) (hn : n ≤ 1000) (ty : TypeId) (w : World) : (Builtin.append_ #[23, 3] ty #[.slice none 0 0, .int .i64 n]).run Try.prog w =
    .ok (.slice (some ⟨w.heap.size, 0, none⟩) n (grownCap w n 0 3)) (w.drew.alloc (.cells (Builtin.zeroCells (Value.int .i64 0).cells n ++ Builtin.zeroCells (Value.int .i64 0).cells (grownCap w n 0 3 - n)) 3)) := by
  obtain ⟨i0, hi, hz0, hz1, hz2⟩ := info_parts Try.info3
  exact Lib.run_append_nil_zeros w 23 3 ty 3 i0 (.int .i64 0) .i64 .i64 Try.underlying23 Try.underlying3 hi hz0 n h0 (by omega) (by omega) (by rw [hz2]; omega)
set_option maxRecDepth 100000 in
set_option maxHeartbeats 1000000 in
theorem grow_any (n : Nat) (w : World) (h0 : 0 < n) (hn : n ≤ 1000) : Calls Try.prog 98 #[.slice none 0 0, .int .i64 n] w fun e w' => ∃ v, e = .returned v ∧ OwnI w' w.heap.size v [] ∧ Below w.heap.size w w' := by
  have hrz := fun ty => zeros_run n h0 hn ty w
  have hge := grownCap_ge w n 0 3
  have hle := grownCap_le_maxLen w n 0 3 (by unfold maxLen; omega)
  have hsz : (Builtin.zeroCells (Value.int .i64 0).cells n ++ Builtin.zeroCells (Value.int .i64 0).cells (grownCap w n 0 3 - n)).size = grownCap w n 0 3 * 1 := by
    simp [Builtin.zeroCells, Value.cells]
    omega
  generalize grownCap w n 0 3 = G at hrz hge hle hsz
  generalize Builtin.zeroCells (Value.int .i64 0).cells n ++ Builtin.zeroCells (Value.int .i64 0).cells (G - n) = C at hrz hsz
  have hown := World.ownsRow_made (base := w.heap.size) (e := 3) (size := 1) w.drew C G (by simp) hle hsz
  have hbel : Below w.heap.size w (w.drew.alloc (.cells C 3)) := (Below.refl _ w).drew.alloc (by simp) _
  have hG63 : G ≤ 9223372036854775807 := by unfold maxLen at hle; omega
  have h1 : ¬ ((n : Int) < 0) := by omega
  have h4 : (n : Int) > 0 := by omega
  have hown' : Hid (OwnI (w.drew.alloc (.cells C 3)) w.heap.size (.slice (some ⟨w.heap.size, 0, none⟩) 0 G) []) := show OwnI _ _ _ _ by simpa [OwnI] using hown
  clear hown hsz hle
  go_enter Try.func98, Try.ntmps98
  go_wp2_with (at_builtin; refine Lib.wpList_append_run _ rfl _ _ _ _ rfl _ _ rfl rfl _ _ (hrz _) ?_)
  all_goals (go_ret; exact ⟨_, rfl, hown'.out, hbel⟩)
end Go.Proofs.Ytgcdhenbpkcmgaa
