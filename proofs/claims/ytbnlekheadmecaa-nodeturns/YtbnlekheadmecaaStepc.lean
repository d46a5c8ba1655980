/- Walks of layer 5: Check. -/
import Derived.Test.YtbnlekheadmecaaStepa
namespace Go.Proofs.Ytbnlekheadmecaa
open Go.RowKit Go.Shelf
set_option linter.unusedVariables false

theorem enter50 : ∀ args w, (callFunc 50 args).run Try.prog w = .ok (.enter 50 args) w := enters_of Try.func50 rfl rfl
theorem enter51 : ∀ args w, (callFunc 51 args).run Try.prog w = .ok (.enter 51 args) w := enters_of Try.func51 rfl rfl
theorem enter52 : ∀ args w, (callFunc 52 args).run Try.prog w = .ok (.enter 52 args) w := enters_of Try.func52 rfl rfl
theorem enter53 : ∀ args w, (callFunc 53 args).run Try.prog w = .ok (.enter 53 args) w := enters_of Try.func53 rfl rfl
theorem st0 : ∀ a m w, (store a .nilFunc m).run Try.prog w = stored Try.prog w a .nilFunc m := fun a m w => run_store Try.prog w a _ m rfl
theorem stF : ∀ g a m w, (store a (.func (.func g) #[] #[]) m).run Try.prog w = stored Try.prog w a (.func (.func g) #[] #[]) m := fun g a m w => run_store Try.prog w a _ m rfl
/-- Steps of a box. -/
def B3 (W : World) (b : Nat) (x : Mi) : Prop := W.cell? ⟨b, 0, none⟩ = some (.int .i64 x.k) ∧ W.cell? ⟨b, 1, none⟩ = some (.int .i64 x.a) ∧ W.cell? ⟨b, 2, none⟩ = some (.int .i64 x.v)

set_option maxRecDepth 100000 in
set_option maxHeartbeats 4000000 in
theorem chk_any (v : Value) (l : List Mi) (n : Int) (w : World) (hR : RdS w v l) : Calls Try.prog 41 #[v, .int .i64 n] w fun e w' => e = .returned (.bool (chB l n)) ∧ Below w.heap.size w w' := by
  obtain ⟨hl, a, cap, rfl⟩ := hR.form
  by_cases h1 : n < 0
  · have H : Hid (chB l n = false) := woB_no (by omega) l
    go_enter Try.func41, Try.ntmps41
    go_wp2
    go_ret
    exact ⟨ret_bool H.out.symm, Below.refl _ _⟩
  by_cases h2 : 4096 < n
  · have H : Hid (chB l n = false) := woB_no (by omega) l
    go_enter Try.func41, Try.ntmps41
    go_wp2
    go_ret
    exact ⟨ret_bool H.out.symm, Below.refl _ _⟩
  have g1 : 0 ≤ n := by omega
  have g2 : n ≤ 4096 := by omega
  clear h1 h2
  by_cases h3 : (n % 8 != 0) = true
  · have H : Hid (chB l n = false) := woB_no (by simp at h3; omega) l
    go_enter Try.func41, Try.ntmps41
    go_wp2
    go_ret
    exact ⟨ret_bool H.out.symm, Below.refl _ _⟩
  have h3 : (n % 8 != 0) = false := by simpa using h3
  have H : Hid (chB l n = l.all (miB n)) := chB_wo (decide_eq_true (by simp at h3; omega)) l
  have HR : Hid (RdS w (.slice a l.length cap) l) := hR
  clear hR
  have e45 := enter50
  have e47 := enter52
  have s0 := st0
  have sF := stF
  go_enter Try.func41, Try.ntmps41
  go_wp2_with (first
    | (go_at_call 43; refine (kinds_any _).mono ?_; rintro e w1 ⟨b, rfl, hT1, hb1⟩; have HT1 : Hid (Tab w1 b) := hT1; have HB1 : Hid (Below w.heap.size w w1) := hb1; clear hT1 hb1))
  go_loopw [24] (fun i w4 => ∃ k : Nat, k ≤ l.length ∧ i = .int .i64 k ∧ (l.take k).all (miB n) = true ∧ Below w.heap.size w w4 ∧ Tab w4 b) (fun i _ => l.length - (intOf i).toNat)
  case atStart => exact ⟨0, Nat.zero_le _, rfl, rfl, HB1.out, HT1.out⟩
  case round =>
    obtain ⟨k, hk, rfl, hall, hbel, hT⟩ := hrel
    have Ha : Hid ((l.take k).all (miB n) = true) := hall
    have HBe : Hid (Below w.heap.size w wr) := hbel
    have HTr : Hid (Tab wr b) := hT
    clear hall hbel hT
    by_cases hlt : k < l.length
    · have hltI : (k : Int) < (l.length : Int) := by omega
      obtain ⟨x, hx⟩ : ∃ x, l[k]? = some x := ⟨_, List.getElem?_eq_getElem hlt⟩
      have Hx : Hid (l[k]? = some x) := hx
      obtain ⟨blk, off, rfl, y0, y1, y2⟩ := (HR.out.below HBe.out).get hx
      clear hx
      obtain ⟨xk, xa, xv⟩ := x
      dsimp only at y0 y1 y2
      have b1 : Below wr.heap.size wr (wr.alloc (.cells #[.int .i64 xk, .int .i64 xa, .int .i64 xv] 51)) := (Below.refl _ _).alloc (Nat.le_refl _) _
      have T1 := HTr.out.below b1
      by_cases k1 : xk = 1
      · subst k1
        have lk := look_one T1 true
        have Hm : Hid (miB n ⟨1, xa, xv⟩ = stB n ⟨1, xa, xv⟩) := miB_one rfl
        clear b1 T1
        cases hst : stB n ⟨1, xa, xv⟩
        · have Hn : Hid (chB l n = false) := by (show _ = _; rw [H.out]; exact all_fail Hx.out (Hm.out.trans hst))
          go_wp2_with (first
            | (go_at_fn 50; refine (isStore_any ⟨1, xa, xv⟩ n _).mono ?_; rintro e w6 ⟨rfl, hb6⟩; have H6 : Hid (Below wr.heap.size wr w6) := bstep (((Below.refl _ _).alloc (Nat.le_refl _) _).alloc (by simp) _) hb6; clear hb6; rw [hst]))
          go_ret
          exact ⟨ret_bool Hn.out.symm, bstep HBe.out H6.out⟩
        · have Hn : Hid ((l.take (k + 1)).all (miB n) = true) := all_take_next Ha.out Hx.out (Hm.out.trans hst)
          go_wp2_with (first
            | (go_at_fn 50; refine (isStore_any ⟨1, xa, xv⟩ n _).mono ?_; rintro e w6 ⟨rfl, hb6⟩; have H6 : Hid (Below wr.heap.size wr w6) := bstep (((Below.refl _ _).alloc (Nat.le_refl _) _).alloc (by simp) _) hb6; clear hb6; rw [hst]))
          go_roundw
          case rel => exact ⟨k + 1, by omega, by go_num, Hn.out, bstep HBe.out H6.out, HTr.out.below H6.out⟩
          case measure => simp [intOf]; omega
      by_cases k2 : xk = 2
      · subst k2
        have lk := look_two T1 true
        have Hm : Hid (miB n ⟨2, xa, xv⟩ = peB n ⟨2, xa, xv⟩) := miB_two rfl
        clear b1 T1
        cases hst : peB n ⟨2, xa, xv⟩
        · have Hn : Hid (chB l n = false) := by (show _ = _; rw [H.out]; exact all_fail Hx.out (Hm.out.trans hst))
          go_wp2_with (first
            | (go_at_fn 52; refine (isPersist_any ⟨2, xa, xv⟩ n _ g1 g2).mono ?_; rintro e w6 ⟨rfl, hb6⟩; have H6 : Hid (Below wr.heap.size wr w6) := bstep (((Below.refl _ _).alloc (Nat.le_refl _) _).alloc (by simp) _) hb6; clear hb6; rw [hst]))
          go_ret
          exact ⟨ret_bool Hn.out.symm, bstep HBe.out H6.out⟩
        · have Hn : Hid ((l.take (k + 1)).all (miB n) = true) := all_take_next Ha.out Hx.out (Hm.out.trans hst)
          go_wp2_with (first
            | (go_at_fn 52; refine (isPersist_any ⟨2, xa, xv⟩ n _ g1 g2).mono ?_; rintro e w6 ⟨rfl, hb6⟩; have H6 : Hid (Below wr.heap.size wr w6) := bstep (((Below.refl _ _).alloc (Nat.le_refl _) _).alloc (by simp) _) hb6; clear hb6; rw [hst]))
          go_roundw
          case rel => exact ⟨k + 1, by omega, by go_num, Hn.out, bstep HBe.out H6.out, HTr.out.below H6.out⟩
          case measure => simp [intOf]; omega
      · have lk := look_none T1 k1 k2
        have Hn : Hid (chB l n = false) := by (show _ = _; rw [H.out]; exact all_fail Hx.out (miB_other k1 k2))
        clear b1 T1
        go_wp2
        go_ret
        exact ⟨ret_bool Hn.out.symm, (HBe.out.alloc HBe.out.size _).alloc (by simp; have := HBe.out.size; omega) _⟩
    · have Hn : Hid (chB l n = true) := by (show _ = _; rw [H.out]; have := Ha.out; rw [List.take_of_length_le (by omega)] at this; exact this)
      go_wp2
      go_ret
      exact ⟨ret_bool Hn.out.symm, HBe.out⟩
end Go.Proofs.Ytbnlekheadmecaa
