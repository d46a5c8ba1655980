/- Walk of FastSteps. -/
import Derived.Test.YtoboiahknapddaaFaste
import Derived.Test.YtoboiahknapddaaNumn
import Derived.Test.YtoboiahknapddaaMemin
namespace Go.Proofs.Ytoboiahknapddaa
open Go.RowKit Go.Shelf
set_option linter.unusedVariables false

set_option maxRecDepth 100000 in
set_option maxHeartbeats 2000000 in
theorem inside_any (v : Value) (s : List Mi) (b most : Int) (w : World) (hR : RdS w v s) (hI : Inside b s most) : Calls Try.prog 32 #[v, .int .i64 b, .int .i64 most] w fun e w' => e = .returned (.bool true) ∧ w' = w := by
  obtain ⟨hl, a, cap, rfl⟩ := hR.form
  have HR : Hid (RdS w (.slice a s.length cap) s) := hR
  have HI : Hid (Inside b s most) := hI
  clear hR hI
  go_enter Try.func32, Try.ntmps32
  go_wp2
  go_loop [7] (fun i => ∃ k : Nat, k ≤ s.length ∧ i = .int .i64 k) (fun i => s.length - (intOf i).toNat)
  case atStart => exact ⟨0, Nat.zero_le _, rfl⟩
  case round =>
    obtain ⟨k, hk, rfl⟩ := hrel
    by_cases hlt : k < s.length
    · have hltI : (k : Int) < (s.length : Int) := by omega
      obtain ⟨x, hx⟩ : ∃ x, s[k]? = some x := ⟨_, List.getElem?_eq_getElem hlt⟩
      obtain ⟨blk, off, rfl, y0, y1, y2⟩ := HR.out.get hx
      obtain ⟨b0, b1⟩ := HI.out.node (fun e => by rw [e] at hlt; simp at hlt)
      have hE := HI.out.each x (List.mem_of_getElem? hx)
      clear hx
      obtain ⟨xk, xa, xv⟩ := x
      dsimp only at y0 y1 y2 hE
      rcases hE with ⟨rfl, h1, h2, h3⟩ | ⟨rfl, h1⟩
      · go_wp2
        go_round
        case rel => exact ⟨k + 1, by omega, by go_num⟩
        case measure => simp [intOf]; omega
      · by_cases h2 : xa = b / 8
        · subst h2
          go_wp2
          go_round
          case rel => exact ⟨k + 1, by omega, by go_num⟩
          case measure => simp [intOf]; omega
        · have h3 : xa = b / 8 + 1 := h1.resolve_left h2
          subst h3
          clear h1 h2
          have d1 : (b / 8 + 1 == b / 8) = false := beq_eq_false_iff_ne.2 (by omega)
          go_wp2
          go_round
          case rel => exact ⟨k + 1, by omega, by go_num⟩
          case measure => simp [intOf]; omega
    · have hge : ¬ (k : Int) < (s.length : Int) := by omega
      have hf := HI.out.few
      by_cases h0 : s.length = 0
      · have d0 : ((s.length : Int) == 0) = true := beq_iff_eq.2 (by omega)
        go_wp2
        go_ret
        exact ⟨rfl, rfl⟩
      · have d0 : ((s.length : Int) == 0) = false := beq_eq_false_iff_ne.2 (by omega)
        obtain ⟨j, hj⟩ : ∃ j : Nat, s.length = j + 1 := ⟨s.length - 1, by omega⟩
        have hjI : (s.length : Int) - 1 = (j : Int) := by omega
        have hjl : (j : Int) < (s.length : Int) := by omega
        obtain ⟨x, hx⟩ : ∃ x, s[j]? = some x := ⟨_, List.getElem?_eq_getElem (by omega)⟩
        obtain ⟨blk, off, rfl, y0, y1, y2⟩ := HR.out.get hx
        have hE := HI.out.last x (by rw [hj]; exact hx)
        clear hx hj h0
        obtain ⟨xk, xa, xv⟩ := x
        dsimp only at y0 y1 y2 hE
        subst hE
        go_wp2
        go_ret
        exact ⟨rfl, rfl⟩

theorem insS_inside {b : Int} {l : List Int} {p r : Int} : Inside b (insS b l p r) ((l.length : Int) + 3) := by
  unfold insS
  cases e : insB b l p r && decide (l.length ≠ 13)
  · exact inside_nil b (by omega)
  · simp only [Bool.and_eq_true] at e
    obtain ⟨e1, e2⟩ := e
    unfold insB at e1
    simp only [Bool.and_eq_true, decide_eq_true_eq] at e1 e2
    obtain ⟨hm, hr, h0, h1⟩ := e1
    obtain ⟨hb, h13, hpos⟩ := mcB_out hm
    show Inside b (putS b (insF l p.toNat r)) _
    refine inside_put hb (insF_slots (by omega) (by omega)) (insF_vals (posB_out hpos) hr) ?_
    have := few_ins (l := l) (p := p.toNat) (r := r) hb (by omega) (by omega)
    omega
theorem delS_inside {b : Int} {l : List Int} {p : Int} : Inside b (delS b l p) ((l.length : Int) + 3) := by
  unfold delS
  cases e : delB b l p
  · exact inside_nil b (by omega)
  · unfold delB at e
    simp only [Bool.and_eq_true] at e
    obtain ⟨hb, h13, hpos⟩ := mcB_out e.1
    show Inside b (putS b (delF l p.toNat)) _
    refine inside_put hb (delF_slots h13) (delF_vals (posB_out hpos)) ?_
    have := few_del (l := l) (p := p.toNat) hb h13
    omega
theorem cutS_inside {b : Int} {l : List Int} {c : Int} : Inside b (cutS b l c) ((l.length : Int) + 3) := by
  unfold cutS
  cases e : cutB b l c
  · exact inside_nil b (by omega)
  · unfold cutB at e
    simp only [Bool.and_eq_true] at e
    obtain ⟨hb, h13, hpos⟩ := mcB_out e.1
    show Inside b (putS b (cutF l c.toNat)) _
    refine inside_put hb (cutF_slots h13) cutF_vals ?_
    have := few_cut (l := l) (c := c.toNat) hb h13
    omega

set_option maxRecDepth 100000 in
set_option maxHeartbeats 4000000 in
theorem walk_FastSteps (b : Int) (a : Option Addr) (len cap : Nat) (p r : Int) (w : World) (hK : KeepIn w a len cap) : Calls Try.prog 7 #[.int .i64 b, .slice a len cap, .int .i64 p, .int .i64 r] w fun e w' => e = .returned (.bool true) ∧ Below w.heap.size w w' := by
  by_cases h1 : (100 : Int) < (len : Int)
  · go_enter Try.func7, Try.ntmps7
    go_wp2_with (first
      | (go_at_call 9; refine (awake_any _).mono ?_; rintro e w1 ⟨rfl, b1⟩; have HB1 : Hid (Below w.heap.size w w1) := b1; clear b1))
    go_ret
    exact ⟨rfl, HB1.out⟩
  · obtain ⟨l, hl, hR, _⟩ := hK (by omega)
    subst hl
    have HR : Hid (Rd w (.slice a l.length cap) l) := hR
    clear hR
    have t1 : Hid (0 = 0) := rfl
    have t2 : Hid (0 = 0) := rfl
    have t3 : Hid (0 = 0) := rfl
    go_enter Try.func7, Try.ntmps7
    go_wp2_with (first
      | (go_at_call 9; refine (awake_any _).mono ?_; rintro e w1 ⟨rfl, b1⟩; have HB1 : Hid (Below w.heap.size w w1) := b1; clear b1)
      | (go_at_call 10; refine (insert_any b _ l p r _ (HR.out.below HB1.out)).mono ?_; rintro e w2 ⟨v2, rfl, R2, b2⟩; have HB2 : Hid (Below w.heap.size w w2) := bstep HB1.out b2; have HX2 : Hid (RdS w2 v2 (insS b l p r)) := R2; clear R2 b2)
      | (go_at_call 12; refine (delete_any b _ l p _ (HR.out.below HB2.out)).mono ?_; rintro e w3 ⟨v3, rfl, R3, b3⟩; have HB3 : Hid (Below w.heap.size w w3) := bstep HB2.out b3; have HX3 : Hid (RdS w3 v2 (insS b l p r)) := HX2.out.below b3; have HY3 : Hid (RdS w3 v3 (delS b l p)) := R3; clear R3 b3)
      | (go_at_call 16; refine (cut_any b _ l p _ (HR.out.below HB3.out)).mono ?_; rintro e w4 ⟨v4, rfl, R4, b4⟩; have HB4 : Hid (Below w.heap.size w w4) := bstep HB3.out b4; have HX4 : Hid (RdS w4 v2 (insS b l p r)) := HX3.out.below b4; have HY4 : Hid (RdS w4 v3 (delS b l p)) := HY3.out.below b4; have HZ4 : Hid (RdS w4 v4 (cutS b l p)) := R4; clear R4 b4)
      | (go_at_call 32; clear t1; refine (inside_any _ (insS b l p r) b _ _ HX4.out insS_inside).mono ?_; rintro e w' ⟨rfl, hw⟩; rw [hw]; clear hw w')
      | (go_at_call 32; clear t2; refine (inside_any _ (delS b l p) b _ _ HY4.out delS_inside).mono ?_; rintro e w' ⟨rfl, hw⟩; rw [hw]; clear hw w')
      | (go_at_call 32; clear t3; refine (inside_any _ (cutS b l p) b _ _ HZ4.out cutS_inside).mono ?_; rintro e w' ⟨rfl, hw⟩; rw [hw]; clear hw w'))
    go_ret
    exact ⟨rfl, HB4.out⟩
end Go.Proofs.Ytoboiahknapddaa
