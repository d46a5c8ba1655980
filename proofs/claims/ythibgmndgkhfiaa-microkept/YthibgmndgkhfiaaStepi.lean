/- Walks of layer 5: the document's own answers: may, Check, Do. -/
import Derived.Test.YthibgmndgkhfiaaSteph
import Derived.Test.YthibgmndgkhfiaaWalkv
import Derived.Test.YthibgmndgkhfiaaWalkw
import Derived.Test.YthibgmndgkhfiaaWalkx
import Derived.Test.YthibgmndgkhfiaaWalkz
namespace Go.Proofs.Ythibgmndgkhfiaa
open Go.RowKit Go.Shelf
set_option linter.unusedVariables false

set_option maxRecDepth 100000 in
theorem mayR_any (x : Mi) (n : Int) (w : World) (h0 : 0 ≤ n) (h9 : n ≤ 4096) : Calls Try.prog 27 #[.agg #[.int .i64 x.k, .int .i64 x.a, .int .i64 x.v], .int .i64 n] w fun e w' => e = .returned (.bool (miB n x)) ∧ Below w.heap.size w w' := by
  obtain ⟨xk, xa, xv⟩ := x
  by_cases k1 : xk = 1
  · subst k1
    have HM : Hid (miB n ⟨1, xa, xv⟩ = stB n ⟨1, xa, xv⟩) := miB_one rfl
    by_cases h1 : (0 : Int) ≤ xa
    · have H : Hid (stB n ⟨1, xa, xv⟩ = decide (xa < n)) := by (show stB n _ = _; unfold stB; simp [h1])
      go_enter Try.func27, Try.ntmps27
      go_wp2
      go_ret
      exact ⟨ret_bool (HM.out.trans H.out).symm, (Below.refl _ _).alloc (Nat.le_refl _) _⟩
    · have H : Hid (stB n ⟨1, xa, xv⟩ = false) := decide_eq_false (by show ¬ (0 ≤ xa ∧ xa < n); omega)
      go_enter Try.func27, Try.ntmps27
      go_wp2
      go_ret
      exact ⟨ret_bool (HM.out.trans H.out).symm, (Below.refl _ _).alloc (Nat.le_refl _) _⟩
  have k1b : (xk == 1) = false := by simpa using k1
  by_cases k2 : xk = 2
  · subst k2
    have HM : Hid (miB n ⟨2, xa, xv⟩ = peB n ⟨2, xa, xv⟩) := miB_two rfl
    clear k1 k1b
    by_cases h1 : (0 : Int) ≤ xa
    · by_cases h2 : xa < n / 8
      · have H : Hid (peB n ⟨2, xa, xv⟩ = (xv == 0)) := by (show peB n _ = _; unfold peB; simp [h1, h2]; rfl)
        go_enter Try.func27, Try.ntmps27
        go_wp2
        go_ret
        exact ⟨ret_bool (HM.out.trans H.out).symm, (Below.refl _ _).alloc (Nat.le_refl _) _⟩
      · have H : Hid (peB n ⟨2, xa, xv⟩ = false) := decide_eq_false (by show ¬ (0 ≤ xa ∧ xa < n / 8 ∧ xv = 0); omega)
        go_enter Try.func27, Try.ntmps27
        go_wp2
        go_ret
        exact ⟨ret_bool (HM.out.trans H.out).symm, (Below.refl _ _).alloc (Nat.le_refl _) _⟩
    · have H : Hid (peB n ⟨2, xa, xv⟩ = false) := decide_eq_false (by show ¬ (0 ≤ xa ∧ xa < n / 8 ∧ xv = 0); omega)
      go_enter Try.func27, Try.ntmps27
      go_wp2
      go_ret
      exact ⟨ret_bool (HM.out.trans H.out).symm, (Below.refl _ _).alloc (Nat.le_refl _) _⟩
  · have HM : Hid (miB n ⟨xk, xa, xv⟩ = false) := miB_other k1 k2
    have k2b : (xk == 2) = false := by simpa using k2
    go_enter Try.func27, Try.ntmps27
    go_wp2
    go_ret
    exact ⟨ret_bool HM.out.symm, (Below.refl _ _).alloc (Nat.le_refl _) _⟩

set_option maxRecDepth 100000 in
set_option maxHeartbeats 4000000 in
theorem chkR_any (v : Value) (l : List Mi) (n : Int) (w : World) (hR : RdS w v l) : Calls Try.prog 19 #[v, .int .i64 n] w fun e w' => e = .returned (.bool (chB l n)) ∧ Below w.heap.size w w' := by
  obtain ⟨hl, a, cap, rfl⟩ := hR.form
  by_cases h1 : n < 0
  · have H : Hid (chB l n = false) := woB_no (by omega) l
    go_enter Try.func19, Try.ntmps19
    go_wp2
    go_ret
    exact ⟨ret_bool H.out.symm, Below.refl _ _⟩
  by_cases h2 : 4096 < n
  · have H : Hid (chB l n = false) := woB_no (by omega) l
    go_enter Try.func19, Try.ntmps19
    go_wp2
    go_ret
    exact ⟨ret_bool H.out.symm, Below.refl _ _⟩
  have g1 : 0 ≤ n := by omega
  have g2 : n ≤ 4096 := by omega
  clear h1 h2
  by_cases h3 : (n % 8 != 0) = true
  · have H : Hid (chB l n = false) := woB_no (by simp at h3; omega) l
    go_enter Try.func19, Try.ntmps19
    go_wp2
    go_ret
    exact ⟨ret_bool H.out.symm, Below.refl _ _⟩
  have h3 : (n % 8 != 0) = false := by simpa using h3
  have H : Hid (chB l n = l.all (miB n)) := chB_wo (decide_eq_true (by simp at h3; omega)) l
  have HR : Hid (RdS w (.slice a l.length cap) l) := hR
  clear hR
  go_enter Try.func19, Try.ntmps19
  go_wp2
  go_loopw [5] (fun i w4 => ∃ k : Nat, k ≤ l.length ∧ i = .int .i64 k ∧ (l.take k).all (miB n) = true ∧ Below w.heap.size w w4) (fun i _ => l.length - (intOf i).toNat)
  case atStart => exact ⟨0, Nat.zero_le _, rfl, rfl, Below.refl _ _⟩
  case round =>
    obtain ⟨k, hk, rfl, hall, hbel⟩ := hrel
    have Ha : Hid ((l.take k).all (miB n) = true) := hall
    have HBe : Hid (Below w.heap.size w wr) := hbel
    clear hall hbel
    by_cases hlt : k < l.length
    · have hltI : (k : Int) < (l.length : Int) := by omega
      obtain ⟨x, hx⟩ : ∃ x, l[k]? = some x := ⟨_, List.getElem?_eq_getElem hlt⟩
      have Hx : Hid (l[k]? = some x) := hx
      obtain ⟨blk, off, rfl, y0, y1, y2⟩ := (HR.out.below HBe.out).get hx
      clear hx
      cases hst : miB n x
      · have Hn : Hid (chB l n = false) := by (show _ = _; rw [H.out]; exact all_fail Hx.out hst)
        go_wp2_with (first
          | (go_at_call 27; refine (mayR_any x n _ g1 g2).mono ?_; rintro e w6 ⟨rfl, hb6⟩; have H6 : Hid (Below wr.heap.size wr w6) := hb6; clear hb6; rw [hst]))
        go_ret
        exact ⟨ret_bool Hn.out.symm, bstep HBe.out H6.out⟩
      · have Hn : Hid ((l.take (k + 1)).all (miB n) = true) := all_take_next Ha.out Hx.out hst
        go_wp2_with (first
          | (go_at_call 27; refine (mayR_any x n _ g1 g2).mono ?_; rintro e w6 ⟨rfl, hb6⟩; have H6 : Hid (Below wr.heap.size wr w6) := hb6; clear hb6; rw [hst]))
        go_roundw
        case rel => exact ⟨k + 1, by omega, by go_num, Hn.out, bstep HBe.out H6.out⟩
        case measure => simp [intOf]; omega
    · have Hn : Hid (chB l n = true) := by (show _ = _; rw [H.out]; have := Ha.out; rw [List.take_of_length_le (by omega)] at this; exact this)
      go_wp2
      go_ret
      exact ⟨ret_bool Hn.out.symm, HBe.out⟩
end Go.Proofs.Ythibgmndgkhfiaa
