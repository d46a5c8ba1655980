/- Walks of layer 4's statements: lines. -/
import Derived.Test.YthibgmndgkhfiaaNumf
import Derived.Test.YthibgmndgkhfiaaMemin
namespace Go.Proofs.Ythibgmndgkhfiaa
open Go.RowKit Go.Shelf
set_option linter.unusedVariables false

def eqP (x y : Int) (z : Bool) (x' y' : Int) (z' : Bool) : Bool := decide (x = x' ∧ y = y' ∧ z = z')
theorem neq41 (x y x' y' : Int) (z z' : Bool) (w : World) : (binOp .neq 55 (.agg #[.int .i64 x, .int .i64 y, .bool z]) (.agg #[.int .i64 x', .int .i64 y', .bool z'])).run Try.prog w = .ok (.bool (!eqP x y z x' y' z')) w := by
  unfold eqP
  have u3 := Try.underlying3
  have a3 := Try.isAgg3
  have z3 := Try.sizeOf3
  have u4 := Try.underlying4
  have a4 := Try.isAgg4
  have z4 := Try.sizeOf4
  have hS : Try.prog.underlying 55 = some (.struct (Try.prog.fieldsOf 55)) := by kernel_rfl
  have hp : Try.prog.stoodInHeld 55 = false := by kernel_rfl
  rw [run_neq_struct, show (10000 : Nat) = 9999 + 1 from rfl, run_equalIn_agg w 9999 55 _ _ hS hp]
  simp only [Program.fieldsOf, Try.underlying55]
  go_simp
  by_cases h1 : x = x' <;> by_cases h2 : y = y' <;> by_cases h3 : z = z' <;> simp [h1, h2, h3]
/-- Two memories are the same. -/
def Pd.deq : DecidableEq Pd := fun p q => decidable_of_iff (p.a = q.a ∧ p.v = q.v ∧ p.f = q.f) (by cases p; cases q; simp)
def Mm.deq (a b : Mm) : Decidable (a.vol = b.vol ∧ a.per = b.per ∧ a.pend = b.pend) := by have : DecidableEq Pd := Pd.deq; exact inferInstance
def sameB (a b : Mm) : Bool := @decide (a.vol = b.vol ∧ a.per = b.per ∧ a.pend = b.pend) (Mm.deq a b)
theorem same_yes {a b : Mm} (h : a.vol = b.vol ∧ a.per = b.per ∧ a.pend = b.pend) : sameB a b = true := @decide_eq_true _ (Mm.deq a b) h
theorem same_no {a b : Mm} (h : ¬ (a.vol = b.vol ∧ a.per = b.per ∧ a.pend = b.pend)) : sameB a b = false := @decide_eq_false _ (Mm.deq a b) h

set_option maxRecDepth 100000 in
set_option maxHeartbeats 4000000 in
theorem same_any (va vb vc ua ub uc : Value) (a b : Mm) (w : World) (hA : RdM w va vb vc a) (hB : RdM w ua ub uc b) : Calls Try.prog 16 #[.agg #[va, vb, vc], .agg #[ua, ub, uc]] w fun e w' => e = .returned (.bool (sameB a b)) ∧ Below w.heap.size w w' := by
  obtain ⟨l1, l2, l3⟩ := hA.lens
  obtain ⟨k1, k2, k3⟩ := hB.lens
  obtain ⟨a1, c1, a2, c2, a3, c3, rfl, rfl, rfl⟩ := hA.forms
  obtain ⟨b1, d1, b2, d2, b3, d3, rfl, rfl, rfl⟩ := hB.forms
  have B0 : Below w.heap.size w ((w.alloc (.cells #[.slice a1 a.vol.length c1, .slice a2 a.per.length c2, .slice a3 a.pend.length c3] 25)).alloc (.cells #[.slice b1 b.vol.length d1, .slice b2 b.per.length d2, .slice b3 b.pend.length d3] 25)) := ((Below.refl _ _).alloc (Nat.le_refl _) _).alloc (by simp) _
  have X0 : Bo ((w.alloc (.cells #[.slice a1 a.vol.length c1, .slice a2 a.per.length c2, .slice a3 a.pend.length c3] 25)).alloc (.cells #[.slice b1 b.vol.length d1, .slice b2 b.per.length d2, .slice b3 b.pend.length d3] 25)) w.heap.size (.slice a1 a.vol.length c1) (.slice a2 a.per.length c2) (.slice a3 a.pend.length c3) := (Bo.new w _ _ _).below ((Below.refl _ _).alloc (Nat.le_refl _) _)
  have Y0 : Bo ((w.alloc (.cells #[.slice a1 a.vol.length c1, .slice a2 a.per.length c2, .slice a3 a.pend.length c3] 25)).alloc (.cells #[.slice b1 b.vol.length d1, .slice b2 b.per.length d2, .slice b3 b.pend.length d3] 25)) (w.heap.size + 1) (.slice b1 b.vol.length d1) (.slice b2 b.per.length d2) (.slice b3 b.pend.length d3) := by
    have := Bo.new (w.alloc (.cells #[.slice a1 a.vol.length c1, .slice a2 a.per.length c2, .slice a3 a.pend.length c3] 25)) (.slice b1 b.vol.length d1) (.slice b2 b.per.length d2) (.slice b3 b.pend.length d3)
    rwa [World.size_alloc] at this
  have HB0 : Hid (Below w.heap.size w _) := B0
  have HX0 : Hid (Bo _ _ _ _ _) := X0
  have HY0 : Hid (Bo _ _ _ _ _) := Y0
  have hq := neq41
  clear B0 X0 Y0
  cases e1 : decide (a.vol = b.vol)
  · have H : Hid (sameB a b = false) := same_no fun h => of_decide_eq_false e1 h.1
    have t0 : Hid (0 = 0) := rfl
    go_enter Try.func16, Try.ntmps16
    go_wp2_with (first
      | (go_at_call 17; clear t0; refine (numbers_any _ _ a.vol b.vol _ (hA.below HB0.out).vol (hB.below HB0.out).vol).mono ?_; rintro e w1 ⟨rfl, hb1⟩; obtain ⟨⟨x0, x1, x2⟩, -⟩ := (HX0.out.below hb1).bx; obtain ⟨⟨y0, y1, y2⟩, -⟩ := (HY0.out.below hb1).bx; have HB1 : Hid (Below w.heap.size w w1) := bstep HB0.out hb1)
      | (go_at_call 17; refine (numbers_any _ _ a.per b.per _ (hA.below HB1.out).per (hB.below HB1.out).per).mono ?_; rintro e w2 ⟨rfl, hb2⟩))
    go_ret
    exact ⟨ret_bool H.out.symm, bstep HB1.out hb2⟩
  · cases e2 : decide (a.per = b.per)
    · have H : Hid (sameB a b = false) := same_no fun h => of_decide_eq_false e2 h.2.1
      have t0 : Hid (0 = 0) := rfl
      go_enter Try.func16, Try.ntmps16
      go_wp2_with (first
        | (go_at_call 17; clear t0; refine (numbers_any _ _ a.vol b.vol _ (hA.below HB0.out).vol (hB.below HB0.out).vol).mono ?_; rintro e w1 ⟨rfl, hb1⟩; obtain ⟨⟨x0, x1, x2⟩, -⟩ := (HX0.out.below hb1).bx; obtain ⟨⟨y0, y1, y2⟩, -⟩ := (HY0.out.below hb1).bx; have HB1 : Hid (Below w.heap.size w w1) := bstep HB0.out hb1)
        | (go_at_call 17; refine (numbers_any _ _ a.per b.per _ (hA.below HB1.out).per (hB.below HB1.out).per).mono ?_; rintro e w2 ⟨rfl, hb2⟩))
      go_ret
      exact ⟨ret_bool H.out.symm, bstep HB1.out hb2⟩
    · have E12 : Hid (a.vol = b.vol ∧ a.per = b.per) := ⟨of_decide_eq_true e1, of_decide_eq_true e2⟩
      by_cases e3 : a.pend.length = b.pend.length
      · have e3' : ((a.pend.length : Int) != (b.pend.length : Int)) = false := by simp [e3]
        have E3 : Hid (a.pend.length = b.pend.length) := e3
        clear e3
        have t0 : Hid (0 = 0) := rfl
        go_enter Try.func16, Try.ntmps16
        go_wp2_with (first
          | (go_at_call 17; clear t0; refine (numbers_any _ _ a.vol b.vol _ (hA.below HB0.out).vol (hB.below HB0.out).vol).mono ?_; rintro e w1 ⟨rfl, hb1⟩; obtain ⟨⟨x0, x1, x2⟩, -⟩ := (HX0.out.below hb1).bx; obtain ⟨⟨y0, y1, y2⟩, -⟩ := (HY0.out.below hb1).bx; have HB1 : Hid (Below w.heap.size w w1) := bstep HB0.out hb1)
          | (go_at_call 17; refine (numbers_any _ _ a.per b.per _ (hA.below HB1.out).per (hB.below HB1.out).per).mono ?_; rintro e w2 ⟨rfl, hb2⟩; have HX2 : Hid (Bo w2 _ _ _ _) := (HX0.out.below hb1).below hb2; have HY2 : Hid (Bo w2 _ _ _ _) := (HY0.out.below hb1).below hb2; have HB2 : Hid (Below w.heap.size w w2) := bstep HB1.out hb2; clear x0 x1 x2 y0 y1 y2; obtain ⟨⟨x0, x1, x2⟩, -⟩ := HX2.out.bx; obtain ⟨⟨y0, y1, y2⟩, -⟩ := HY2.out.bx; clear hb1 hb2))
        clear x0 x1 x2 y0 y1 y2
        go_loopw [7] (fun t w3 => ∃ k : Nat, k ≤ a.pend.length ∧ t = .int .i64 k ∧ a.pend.take k = b.pend.take k ∧ Below w2.heap.size w2 w3) (fun t _ => a.pend.length - (intOf t).toNat)
        case atStart => exact ⟨0, Nat.zero_le _, rfl, rfl, Below.refl _ _⟩
        case round =>
          obtain ⟨k, hk, rfl, ht, hbr⟩ := hrel
          obtain ⟨⟨x0, x1, x2⟩, -⟩ := (HX2.out.below hbr).bx
          obtain ⟨⟨y0, y1, y2⟩, -⟩ := (HY2.out.below hbr).bx
          have Ht : Hid (a.pend.take k = b.pend.take k) := ht
          clear ht
          by_cases hlt : k < a.pend.length
          · have hltI : (k : Int) < (a.pend.length : Int) := by omega
            have hlt2 : k < b.pend.length := by have := E3.out; omega
            have hltJ : (k : Int) < (b.pend.length : Int) := by omega
            obtain ⟨p, hp⟩ : ∃ p, a.pend[k]? = some p := ⟨_, List.getElem?_eq_getElem hlt⟩
            obtain ⟨q, hq2⟩ : ∃ q, b.pend[k]? = some q := ⟨_, List.getElem?_eq_getElem hlt2⟩
            have hpa := take_next hp
            have hpb := take_next hq2
            obtain ⟨g1, o1, rfl, s0, s1, s2⟩ := ((hA.below HB2.out).below hbr).pend.get hp
            obtain ⟨g2, o2, rfl, r0, r1, r2⟩ := ((hB.below HB2.out).below hbr).pend.get hq2
            by_cases he : p = q
            · have Hn : Hid (a.pend.take (k + 1) = b.pend.take (k + 1)) := by (show _ = _; rw [hpa, hpb, Ht.out, he])
              subst he
              obtain ⟨pa, pv, pf⟩ := p
              dsimp only at s0 s1 s2 r0 r1 r2
              have hd : eqP pa pv pf pa pv pf = true := decide_eq_true ⟨rfl, rfl, rfl⟩
              clear hp hq2 hpa hpb
              go_wp2
              go_quiet (fail)
              go_wp2
              go_roundw
              case rel => exact ⟨k + 1, by omega, by go_num, Hn.out, below_drewN hbr _⟩
              case measure => simp [intOf]; omega
            · have H : Hid (sameB a b = false) := same_no fun h => he (by
                have := h.2.2
                rw [this, hq2] at hp
                exact (Option.some.inj hp).symm)
              obtain ⟨pa, pv, pf⟩ := p
              obtain ⟨qa, qv, qf⟩ := q
              dsimp only at s0 s1 s2 r0 r1 r2
              have hd : eqP pa pv pf qa qv qf = false := decide_eq_false (fun h => he (by rw [h.1, h.2.1, h.2.2]))
              clear hp hq2 hpa hpb he
              go_wp2
              go_quiet (fail)
              go_wp2
              go_ret
              exact ⟨ret_bool H.out.symm, below_drewN (bstep HB2.out hbr) _⟩
          · have H : Hid (sameB a b = true) := same_yes ⟨E12.out.1, E12.out.2, by
              have := Ht.out
              rw [List.take_of_length_le (by omega), List.take_of_length_le (by have := E3.out; omega)] at this
              exact this⟩
            go_wp2
            go_ret
            exact ⟨ret_bool H.out.symm, bstep HB2.out hbr⟩
      · have e3' : ((a.pend.length : Int) != (b.pend.length : Int)) = true := by simp; omega
        have H : Hid (sameB a b = false) := same_no fun h => e3 (by rw [h.2.2])
        have t0 : Hid (0 = 0) := rfl
        go_enter Try.func16, Try.ntmps16
        go_wp2_with (first
          | (go_at_call 17; clear t0; refine (numbers_any _ _ a.vol b.vol _ (hA.below HB0.out).vol (hB.below HB0.out).vol).mono ?_; rintro e w1 ⟨rfl, hb1⟩; obtain ⟨⟨x0, x1, x2⟩, -⟩ := (HX0.out.below hb1).bx; obtain ⟨⟨y0, y1, y2⟩, -⟩ := (HY0.out.below hb1).bx; have HB1 : Hid (Below w.heap.size w w1) := bstep HB0.out hb1)
          | (go_at_call 17; refine (numbers_any _ _ a.per b.per _ (hA.below HB1.out).per (hB.below HB1.out).per).mono ?_; rintro e w2 ⟨rfl, hb2⟩; clear x0 x1 x2 y0 y1 y2; obtain ⟨⟨x0, x1, x2⟩, -⟩ := ((HX0.out.below hb1).below hb2).bx; obtain ⟨⟨y0, y1, y2⟩, -⟩ := ((HY0.out.below hb1).below hb2).bx))
        go_ret
        exact ⟨ret_bool H.out.symm, bstep HB1.out hb2⟩



end Go.Proofs.Ythibgmndgkhfiaa

