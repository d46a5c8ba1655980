/- Walks of layer 2: awake. -/
import Derived.Test.YtlpddphbkcifnaaWalkf
namespace Go.Proofs.Ytlpddphbkcifnaa
open Go.RowKit

/-- A row of one number that was just laid is read. -/
theorem Rd.one (W : World) (z : Int) (h : -9223372036854775808 ≤ z ∧ z < 9223372036854775808) : Rd (W.alloc (.cells #[.int .i64 z] 3)) (.slice (some ⟨W.heap.size, 0, none⟩) 1 1) [z] := by
  refine ⟨by intro y hy; rw [List.mem_singleton.1 hy]; exact h, by simp, some ⟨W.heap.size, 0, none⟩, 1, rfl, .inr ⟨W.heap.size, 0, rfl, by simp, ?_⟩⟩
  intro j hj
  have : j = 0 := by simpa using hj
  subst this
  exact cell_one_new W (.int .i64 z) 3 0 _ rfl
theorem Rd.two {W : World} {v : Value} {x y : Int} (h : Rd W v [x, y]) : ∃ b off cap, v = .slice (some ⟨b, off, none⟩) 2 cap ∧ b < W.heap.size ∧ W.cell? ⟨b, off + 1, none⟩ = some (.int .i64 y) := by
  obtain ⟨_, _, a, cap, rfl, h3⟩ := h
  rcases h3 with h | ⟨b, off, rfl, hb, hc⟩
  · cases h
  · exact ⟨b, off, cap, rfl, hb, hc 1 (by simp)⟩

def abc : ByteArray := ⟨#[97, 98, 99, 100, 101, 102, 103, 104]⟩
set_option maxRecDepth 100000 in
theorem abc_words : wsl abc.data.toList = [27411251766584935, 29273397577908224] := by decide +kernel
set_option maxRecDepth 100000 in
theorem abc_ok : okT [27411251766584935, 29273397577908224] 8 = true := by decide +kernel
theorem abc_text : txS [27411251766584935, 29273397577908224] 8 = abc := by
  rw [← txS_yes abc_ok]
  have := tx_of abc
  rw [abc_words] at this
  exact this
theorem one_no : okT [1] 1 = false := by decide +kernel

set_option maxRecDepth 100000 in
set_option maxHeartbeats 2000000 in
theorem awake_any (w : World) : Calls Try.prog 9 #[] w fun e w' => e = .returned (.bool true) ∧ Below w.heap.size w w' := by
  have k1 : chk ⟨#[97]⟩ = true := by decide
  have k2 : chk ⟨#[]⟩ = false := by decide
  have k3 : chkV ⟨#[]⟩ = true := by decide
  have e1 := abc_text
  have e2 : txE [27411251766584935, 29273397577908224] 8 = 0 := (txE_yes abc_ok).symm
  have e3 : txE [1] 1 = 20 := (txE_no one_no).symm
  unfold abc at e1
  go_enter Try.func9, Try.ntmps9
  go_wp2_with (first
    | (go_at_call 17; refine (words_any abc _ (by decide)).mono ?_; rw [abc_words]; rintro e w1 ⟨v1, rfl, _, hr1, hb1⟩; have hr1' := hr1; obtain ⟨b1, off1, c1, rfl, hlt1, hc1⟩ := hr1'.two)
    | (go_at_call 10; refine (text_any (.slice (some ⟨b1, off1, none⟩) 2 c1) _ 8 _ hr1 (by omega)).mono ?_; clear hr1; rintro e w2 ⟨rfl, hb2⟩)
    | (go_at_call 10; refine (text_any _ [1] 1 _ (Rd.one w2 1 (by omega)) (by omega)).mono ?_; rintro e w3 ⟨rfl, hb3⟩; have hB := bstep (bstep hb2 ((Below.refl _ w2).alloc (Nat.le_refl _) _)) hb3; have hc3 := (hB.cell (p := ⟨b1, off1 + 1, none⟩) hlt1).trans hc1)
    | (go_at_call 12; refine (check_any _ _).mono ?_; rintro e w' ⟨rfl, hw⟩; rw [hw]; clear hw w')
    | (go_at_call 14; refine (checkV_any _ _).mono ?_; rintro e w' ⟨rfl, hw⟩; rw [hw]; clear hw w'))
  go_ret
  exact ⟨rfl, bstep hb1 hB⟩
end Go.Proofs.Ytlpddphbkcifnaa
