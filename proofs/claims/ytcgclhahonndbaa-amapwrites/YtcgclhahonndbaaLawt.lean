/- Layer 12: the walk of AmapTurns. -/
import Derived.Test.YtcgclhahonndbaaPin
namespace Go.Proofs.Ytcgclhahonndbaa
open Go.RowKit Go.Shelf Classical
set_option linter.unusedVariables false

theorem with_rd (v : Value) (l : List Pa) (key val : ByteArray) (w : World) (hR : RdP w v l) (hl : l.length ≤ 900) : Calls Try.prog 15 #[v, .string key, .string val] w fun e w' => ∃ v', e = .returned v' ∧ RdP w' v' (wiP l key val) ∧ Below w.heap.size w w' :=
  (with_any v l key val w hR).mono fun e w' ⟨v', h1, h2, h3⟩ => ⟨v', h1, h2.rd (by rw [wiP_len]; have := woP_len l key; omega), h3⟩
theorem without_rd (v : Value) (l : List Pa) (key : ByteArray) (w : World) (hR : RdP w v l) : Calls Try.prog 16 #[v, .string key] w fun e w' => ∃ v', e = .returned v' ∧ RdP w' v' (woP l key) ∧ Below w.heap.size w w' :=
  (without_any v l key w hR).mono fun e w' ⟨v', h1, h2, h3⟩ => ⟨v', h1, h2.rd (by have := woP_len l key; have := hR.form.1; omega), h3⟩
/-- A rise so far, and one more. -/
def RiTo (l : List Pa) (m : Nat) : Prop := ∀ (j : Nat) p q, j + 1 ≤ m → l[j]? = some p → l[j + 1]? = some q → tL p.k q.k = true
theorem ri_of : ∀ {l : List Pa}, (∀ (j : Nat) p q, l[j]? = some p → l[j + 1]? = some q → tL p.k q.k = true) → Ri l
  | [], _ => by unfold Ri; simp
  | p :: r, h => by
    have hr : Ri r := ri_of fun j a b ha hb => h (j + 1) a b (by simpa using ha) (by simpa using hb)
    unfold Ri at hr ⊢
    rw [List.pairwise_cons]
    refine ⟨?_, hr⟩
    cases r with
    | nil => intro q hq; cases hq
    | cons q r =>
      have h1 := h 0 p q rfl rfl
      intro x hx
      rw [List.mem_cons] at hx
      rcases hx with rfl | hx
      · exact h1
      · exact tL_tr h1 ((List.pairwise_cons.1 hr).1 x hx)
theorem tL_le {x y : ByteArray} (h : tL y x = true) : Op.bytesLess x.toList y.toList = false ∧ (x.toList == y.toList) = false := by
  have h1 := tL_as h
  have h2 : tE x y = false := tE_no (fun e => tL_ne h e.symm)
  unfold tL at h1
  unfold tE at h2
  exact ⟨h1, h2⟩
theorem tL_ge {x y : ByteArray} (h : tL y x = false) : (Op.bytesLess x.toList y.toList = true ∧ (x.toList == y.toList) = false) ∨ (Op.bytesLess x.toList y.toList = false ∧ (x.toList == y.toList) = true) := by
  by_cases e : x = y
  · subst e
    right
    have h1 := tL_irr x
    unfold tL at h1
    exact ⟨h1, by simp⟩
  · left
    have h1 := tL_tot h (fun e' => e e'.symm)
    have h2 : tE x y = false := tE_no e
    unfold tL at h1
    unfold tE at h2
    exact ⟨h1, h2⟩

set_option maxRecDepth 100000 in
set_option maxHeartbeats 4000000 in
theorem walk_AmapTurns (a0 : Option Addr) (len0 cap0 : Nat) (a b val : ByteArray) (w : World) (h0 : PIn w a0 len0 cap0) (h1 : a.size ≤ maxLen) (h2 : b.size ≤ maxLen) (h3 : val.size ≤ maxLen) :
    Calls Try.prog 5 #[.slice a0 len0 cap0, .string a, .string b, .string val] w fun e w' => e = .returned (.bool true) ∧ Below w.heap.size w w' := by
  obtain ⟨l, hI⟩ := h0
  have HI : Hid (InP w a0 len0 cap0 l) := hI
  have K14 : Hid (∀ W, InP W a0 len0 cap0 l → Calls Try.prog 14 #[.slice a0 len0 cap0, .int .i64 200] W fun e w' => e = .returned (.bool (shP l 200)) ∧ Below W.heap.size W w') := fun W h => short_any a0 len0 cap0 l 200 W h
  cases hs : shP l 200 with
  | false =>
    rw [hs] at K14
    clear hI hs
    go_enter Try.func5, Try.ntmps5
    go_wp2_with (first
      | (go_at_call 7; refine (awake_any _).mono ?_; rintro e w1 ⟨rfl, hb1⟩; have B1 : Hid (Below w.heap.size w w1) := hb1; clear hb1)
      | (go_at_call 14; refine (K14.out _ (HI.out.below B1.out)).mono ?_; rintro e w2 ⟨rfl, hb2⟩; have B2 : Hid (Below w.heap.size w w2) := bstep B1.out hb2; clear hb2))
    go_ret
    exact ⟨ret_bool rfl, B2.out⟩
  | true =>
    obtain ⟨rfl, hl⟩ := hI.short hs
    rw [hs] at K14
    clear hs
    by_cases g1 : (a.size : Int) > 100
    · clear hI
      go_enter Try.func5, Try.ntmps5
      go_wp2_with (first
        | (go_at_call 7; refine (awake_any _).mono ?_; rintro e w1 ⟨rfl, hb1⟩; have B1 : Hid (Below w.heap.size w w1) := hb1; clear hb1)
        | (go_at_call 14; refine (K14.out _ (HI.out.below B1.out)).mono ?_; rintro e w2 ⟨rfl, hb2⟩; have B2 : Hid (Below w.heap.size w w2) := bstep B1.out hb2; clear hb2))
      go_ret
      exact ⟨ret_bool rfl, B2.out⟩
    by_cases g2 : (b.size : Int) > 100
    · clear hI
      go_enter Try.func5, Try.ntmps5
      go_wp2_with (first
        | (go_at_call 7; refine (awake_any _).mono ?_; rintro e w1 ⟨rfl, hb1⟩; have B1 : Hid (Below w.heap.size w w1) := hb1; clear hb1)
        | (go_at_call 14; refine (K14.out _ (HI.out.below B1.out)).mono ?_; rintro e w2 ⟨rfl, hb2⟩; have B2 : Hid (Below w.heap.size w w2) := bstep B1.out hb2; clear hb2))
      go_ret
      exact ⟨ret_bool rfl, B2.out⟩
    by_cases g3 : (val.size : Int) > 100
    · clear hI
      go_enter Try.func5, Try.ntmps5
      go_wp2_with (first
        | (go_at_call 7; refine (awake_any _).mono ?_; rintro e w1 ⟨rfl, hb1⟩; have B1 : Hid (Below w.heap.size w w1) := hb1; clear hb1)
        | (go_at_call 14; refine (K14.out _ (HI.out.below B1.out)).mono ?_; rintro e w2 ⟨rfl, hb2⟩; have B2 : Hid (Below w.heap.size w w2) := bstep B1.out hb2; clear hb2))
      go_ret
      exact ⟨ret_bool rfl, B2.out⟩
    have RL : Hid (RdP w (.slice a0 l.length cap0) l) := hI.rd (by omega)
    clear hI
    go_enter Try.func5, Try.ntmps5
    go_wp2_with (first
      | (go_at_call 7; refine (awake_any _).mono ?_; rintro e w1 ⟨rfl, hb1⟩; have B1 : Hid (Below w.heap.size w w1) := hb1; clear hb1)
      | (go_at_call 14; refine (K14.out _ (HI.out.below B1.out)).mono ?_; rintro e w2 ⟨rfl, hb2⟩; have B2 : Hid (Below w.heap.size w w2) := bstep B1.out hb2; clear hb2))
    go_loopw [10] (fun i w3 => ∃ m : Nat, m ≤ l.length ∧ i = .int .i64 ((m : Int) + 1) ∧ RiTo l m ∧ Below w.heap.size w w3) (fun i _ => l.length + 1 - (Go.RowKit.intOf i).toNat)
    case atStart => exact ⟨0, Nat.zero_le _, rfl, fun j p q hj => by omega, B2.out⟩
    case round =>
      obtain ⟨m, hm, rfl, hri, hbel⟩ := hrel
      have HR : Hid (RiTo l m) := hri
      have HB : Hid (Below w.heap.size w wr) := hbel
      clear hri hbel
      by_cases hlt : m + 1 < l.length
      · have hltI : (m : Int) + 1 < (l.length : Int) := by omega
        obtain ⟨x, hx⟩ : ∃ x, l[m + 1]? = some x := ⟨_, List.getElem?_eq_getElem hlt⟩
        obtain ⟨y, hy⟩ : ∃ y, l[m]? = some y := ⟨_, List.getElem?_eq_getElem (by omega)⟩
        obtain ⟨bb, off, rfl, x0, _⟩ := (RL.out.below HB.out).get hx
        obtain ⟨b2, off2, e2, y0, _⟩ := (RL.out.below HB.out).get hy
        cases e2
        have Hx : Hid (l[m + 1]? = some x) := hx
        have Hy : Hid (l[m]? = some y) := hy
        clear hx hy
        cases ht : tL y.k x.k with
        | true =>
          obtain ⟨e7, e8⟩ := tL_le ht
          have Hn : Hid (RiTo l (m + 1)) := fun j p q hj hp hq => by
            by_cases e : j = m
            · subst e
              rw [Hy.out] at hp
              rw [Hx.out] at hq
              cases hp
              cases hq
              exact ht
            · exact HR.out j p q (by omega) hp hq
          clear ht
          go_wp2
          go_quiet (fail)
          go_wp2
          go_roundw
          case rel => exact ⟨m + 1, by omega, by go_num, Hn.out, below_drewN HB.out _⟩
          case measure => simp [Go.RowKit.intOf]; omega
        | false =>
          rcases tL_ge ht with ⟨e7, e8⟩ | ⟨e7, e8⟩
          all_goals
            clear ht
            go_wp2
            go_quiet (fail)
            go_wp2
            go_ret
            exact ⟨ret_bool rfl, below_drewN HB.out _⟩
      · have hge : ¬ (m : Int) + 1 < (l.length : Int) := by omega
        have hri : Ri l := ri_of fun j p q hp hq => HR.out j p q (by have := (List.getElem?_eq_some_iff.1 hq).1; omega) hp hq
        have K17 : Hid (∀ v W, RdP W v l → Calls Try.prog 17 #[v, .string a] W fun e w' => e = .returned (.tuple #[.string (gvP l a), .bool (gbP l a)]) ∧ Below W.heap.size W w') := fun v W h => get_any v l a W h
        obtain ⟨LA, hA⟩ : ∃ LA, LA = wiP l a ⟨#[49]⟩ := ⟨_, rfl⟩
        obtain ⟨LX, hX⟩ : ∃ LX, LX = wiP LA b val := ⟨_, rfl⟩
        obtain ⟨LB, hLB⟩ : ∃ LB, LB = wiP l b val := ⟨_, rfl⟩
        obtain ⟨LY, hY⟩ : ∃ LY, LY = wiP LB a ⟨#[49]⟩ := ⟨_, rfl⟩
        obtain ⟨LM, hM⟩ : ∃ LM, LM = wiP LA a val := ⟨_, rfl⟩
        obtain ⟨LV, hV⟩ : ∃ LV, LV = wiP l a val := ⟨_, rfl⟩
        obtain ⟨LG, hG⟩ : ∃ LG, LG = woP LV a := ⟨_, rfl⟩
        obtain ⟨LZ, hZ⟩ : ∃ LZ, LZ = woP l a := ⟨_, rfl⟩
        have lA : LA.length ≤ 900 := by rw [hA, wiP_len]; have := woP_len l a; omega
        have lB : LB.length ≤ 900 := by rw [hLB, wiP_len]; have := woP_len l b; omega
        have lV : LV.length ≤ 900 := by rw [hV, wiP_len]; have := woP_len l a; omega
        have WA : Hid (∀ v W, RdP W v l → Calls Try.prog 15 #[v, .string a, .string ⟨#[49]⟩] W fun e w' => ∃ v', e = .returned v' ∧ RdP w' v' LA ∧ Below W.heap.size W w') := fun v W h => by rw [hA]; exact with_rd v l a _ W h (by omega)
        have WX : Hid (∀ v W, RdP W v LA → Calls Try.prog 15 #[v, .string b, .string val] W fun e w' => ∃ v', e = .returned v' ∧ RdP w' v' LX ∧ Below W.heap.size W w') := fun v W h => by rw [hX]; exact with_rd v LA b _ W h lA
        have WB : Hid (∀ v W, RdP W v l → Calls Try.prog 15 #[v, .string b, .string val] W fun e w' => ∃ v', e = .returned v' ∧ RdP w' v' LB ∧ Below W.heap.size W w') := fun v W h => by rw [hLB]; exact with_rd v l b _ W h (by omega)
        have WY : Hid (∀ v W, RdP W v LB → Calls Try.prog 15 #[v, .string a, .string ⟨#[49]⟩] W fun e w' => ∃ v', e = .returned v' ∧ RdP w' v' LY ∧ Below W.heap.size W w') := fun v W h => by rw [hY]; exact with_rd v LB a _ W h lB
        have WM : Hid (∀ v W, RdP W v LA → Calls Try.prog 15 #[v, .string a, .string val] W fun e w' => ∃ v', e = .returned v' ∧ RdP w' v' LM ∧ Below W.heap.size W w') := fun v W h => by rw [hM]; exact with_rd v LA a _ W h lA
        have WV : Hid (∀ v W, RdP W v l → Calls Try.prog 15 #[v, .string a, .string val] W fun e w' => ∃ v', e = .returned v' ∧ RdP w' v' LV ∧ Below W.heap.size W w') := fun v W h => by rw [hV]; exact with_rd v l a _ W h (by omega)
        have WG : Hid (∀ v W, RdP W v LV → Calls Try.prog 16 #[v, .string a] W fun e w' => ∃ v', e = .returned v' ∧ RdP w' v' LG ∧ Below W.heap.size W w') := fun v W h => by rw [hG]; exact without_rd v LV a W h
        have WZ : Hid (∀ v W, RdP W v l → Calls Try.prog 16 #[v, .string a] W fun e w' => ∃ v', e = .returned v' ∧ RdP w' v' LZ ∧ Below W.heap.size W w') := fun v W h => by rw [hZ]; exact without_rd v l a W h
        have EMV : Hid (decide (LM = LV) = true) := decide_eq_true (by rw [hM, hA, hV]; exact last_two hri a _ _)
        have fXY : a ≠ b → LX = LY := fun hne => by rw [hX, hA, hY, hLB]; exact turn_two hri hne
        have fG : gbP l a = false → LG = l ∧ LZ = l := fun hg => by
          have hn : geP l a = none := by
            unfold gbP at hg
            cases e : geP l a with
            | none => rfl
            | some x => rw [e] at hg; cases hg
          exact ⟨by rw [hG, hV]; exact gone_two hri val hn, by rw [hZ]; exact woP_none hn⟩
        have Rl : Hid (RdP wr (.slice a0 l.length cap0) l) := RL.out.below HB.out
        clear hA hX hLB hY hM hV hG hZ lA lB lV hri HR
        generalize gvP l a = gv at *
        obtain ⟨w0, hw0⟩ : ∃ w0, w0 = wr := ⟨_, rfl⟩
        subst hw0
        cases hg : gbP l a with
        | false =>
          rw [hg] at K17
          obtain ⟨q1, q2⟩ := fG hg
          have EG : Hid (decide (LG = l) = true) := decide_eq_true q1
          have EZ : Hid (decide (LZ = l) = true) := decide_eq_true q2
          clear q1 q2
          clear hg fG
          by_cases hab : a = b
          · have hab2 : (a.toList == b.toList) = true := by rw [hab]; simp
            clear hab fXY
            have t1 : Hid (0 = 0) := rfl
            have t2 : Hid (0 = 0) := rfl
            have t3 : Hid (0 = 0) := rfl
            have t4 : Hid (0 = 0) := rfl
            have t5 : Hid (0 = 0) := rfl
            have t6 : Hid (0 = 0) := rfl
            have t7 : Hid (0 = 0) := rfl
            have t8 : Hid (0 = 0) := rfl
            have t9 : Hid (0 = 0) := rfl
            have t10 : Hid (0 = 0) := rfl
            have t11 : Hid (0 = 0) := rfl
            have t12 : Hid (0 = 0) := rfl
            have t13 : Hid (0 = 0) := rfl
            have t14 : Hid (0 = 0) := rfl
            go_wp2_with (first
              | (clear t1; go_at_call 17; refine (K17.out _ _ Rl.out).mono ?_; rintro e w1 ⟨rfl, hb1⟩; have H1 : Hid (Below w0.heap.size w0 w1) := hb1; clear hb1)
              | (clear t2; go_at_call 15; refine (WA.out _ _ (Rl.out.below H1.out)).mono ?_; rintro e w2 ⟨v2, rfl, r2, hb2⟩; have RA_2 : Hid (RdP w2 v2 LA) := r2; have H2 : Hid (Below w1.heap.size w1 w2) := hb2; clear r2; clear hb2)
              | (clear t3; go_at_call 15; refine (WX.out _ _ RA_2.out).mono ?_; rintro e w3 ⟨v3, rfl, r3, hb3⟩; have RX_3 : Hid (RdP w3 v3 LX) := r3; have H3 : Hid (Below w2.heap.size w2 w3) := hb3; clear r3; clear hb3)
              | (clear t4; go_at_call 15; refine (WB.out _ _ (Rl.out.below (bstep (bstep H1.out H2.out) H3.out))).mono ?_; rintro e w4 ⟨v4, rfl, r4, hb4⟩; have RB_4 : Hid (RdP w4 v4 LB) := r4; have H4 : Hid (Below w3.heap.size w3 w4) := hb4; clear r4; clear hb4)
              | (clear t5; go_at_call 15; refine (WY.out _ _ RB_4.out).mono ?_; rintro e w5 ⟨v5, rfl, r5, hb5⟩; have RY_5 : Hid (RdP w5 v5 LY) := r5; have H5 : Hid (Below w4.heap.size w4 w5) := hb5; clear r5; clear hb5)
              | (clear t6; go_at_call 15; refine (WA.out _ _ (Rl.out.below (bstep (bstep (bstep (bstep H1.out H2.out) H3.out) H4.out) H5.out))).mono ?_; rintro e w6 ⟨v6, rfl, r6, hb6⟩; have RA_6 : Hid (RdP w6 v6 LA) := r6; have H6 : Hid (Below w5.heap.size w5 w6) := hb6; clear r6; clear hb6)
              | (clear t7; go_at_call 15; refine (WM.out _ _ RA_6.out).mono ?_; rintro e w7 ⟨v7, rfl, r7, hb7⟩; have RM_7 : Hid (RdP w7 v7 LM) := r7; have H7 : Hid (Below w6.heap.size w6 w7) := hb7; clear r7; clear hb7)
              | (clear t8; go_at_call 15; refine (WV.out _ _ (Rl.out.below (bstep (bstep (bstep (bstep (bstep (bstep H1.out H2.out) H3.out) H4.out) H5.out) H6.out) H7.out))).mono ?_; rintro e w8 ⟨v8, rfl, r8, hb8⟩; have RV_8 : Hid (RdP w8 v8 LV) := r8; have H8 : Hid (Below w7.heap.size w7 w8) := hb8; clear r8; clear hb8)
              | (clear t9; go_at_call 13; refine (sameP_any _ _ _ _ _ (RM_7.out.below H8.out) RV_8.out).mono ?_; rintro e w9 ⟨rfl, hb9⟩; rw [EMV.out]; have H9 : Hid (Below w8.heap.size w8 w9) := hb9; clear hb9)
              | (clear t10; go_at_call 15; refine (WV.out _ _ (Rl.out.below (bstep (bstep (bstep (bstep (bstep (bstep (bstep (bstep H1.out H2.out) H3.out) H4.out) H5.out) H6.out) H7.out) H8.out) H9.out))).mono ?_; rintro e w10 ⟨v10, rfl, r10, hb10⟩; have RV_10 : Hid (RdP w10 v10 LV) := r10; have H10 : Hid (Below w9.heap.size w9 w10) := hb10; clear r10; clear hb10)
              | (clear t11; go_at_call 16; refine (WG.out _ _ RV_10.out).mono ?_; rintro e w11 ⟨v11, rfl, r11, hb11⟩; have RG_11 : Hid (RdP w11 v11 LG) := r11; have H11 : Hid (Below w10.heap.size w10 w11) := hb11; clear r11; clear hb11)
              | (clear t12; go_at_call 13; refine (sameP_any _ _ _ _ _ RG_11.out (Rl.out.below (bstep (bstep (bstep (bstep (bstep (bstep (bstep (bstep (bstep (bstep H1.out H2.out) H3.out) H4.out) H5.out) H6.out) H7.out) H8.out) H9.out) H10.out) H11.out))).mono ?_; rintro e w12 ⟨rfl, hb12⟩; rw [EG.out]; have H12 : Hid (Below w11.heap.size w11 w12) := hb12; clear hb12)
              | (clear t13; go_at_call 16; refine (WZ.out _ _ (Rl.out.below (bstep (bstep (bstep (bstep (bstep (bstep (bstep (bstep (bstep (bstep (bstep H1.out H2.out) H3.out) H4.out) H5.out) H6.out) H7.out) H8.out) H9.out) H10.out) H11.out) H12.out))).mono ?_; rintro e w13 ⟨v13, rfl, r13, hb13⟩; have RZ_13 : Hid (RdP w13 v13 LZ) := r13; have H13 : Hid (Below w12.heap.size w12 w13) := hb13; clear r13; clear hb13)
              | (clear t14; go_at_call 13; refine (sameP_any _ _ _ _ _ RZ_13.out (Rl.out.below (bstep (bstep (bstep (bstep (bstep (bstep (bstep (bstep (bstep (bstep (bstep (bstep H1.out H2.out) H3.out) H4.out) H5.out) H6.out) H7.out) H8.out) H9.out) H10.out) H11.out) H12.out) H13.out))).mono ?_; rintro e w14 ⟨rfl, hb14⟩; rw [EZ.out]; have H14 : Hid (Below w13.heap.size w13 w14) := hb14; clear hb14))
            go_ret
            exact ⟨ret_bool rfl, bstep HB.out (bstep (bstep (bstep (bstep (bstep (bstep (bstep (bstep (bstep (bstep (bstep (bstep (bstep H1.out H2.out) H3.out) H4.out) H5.out) H6.out) H7.out) H8.out) H9.out) H10.out) H11.out) H12.out) H13.out) H14.out)⟩
          · have hab2 : (a.toList == b.toList) = false := by have := tE_no hab; unfold tE at this; exact this
            have EXY : Hid (decide (LX = LY) = true) := decide_eq_true (fXY hab)
            clear hab fXY
            have t1 : Hid (0 = 0) := rfl
            have t2 : Hid (0 = 0) := rfl
            have t3 : Hid (0 = 0) := rfl
            have t4 : Hid (0 = 0) := rfl
            have t5 : Hid (0 = 0) := rfl
            have t6 : Hid (0 = 0) := rfl
            have t7 : Hid (0 = 0) := rfl
            have t8 : Hid (0 = 0) := rfl
            have t9 : Hid (0 = 0) := rfl
            have t10 : Hid (0 = 0) := rfl
            have t11 : Hid (0 = 0) := rfl
            have t12 : Hid (0 = 0) := rfl
            have t13 : Hid (0 = 0) := rfl
            have t14 : Hid (0 = 0) := rfl
            have t15 : Hid (0 = 0) := rfl
            go_wp2_with (first
              | (clear t1; go_at_call 17; refine (K17.out _ _ Rl.out).mono ?_; rintro e w1 ⟨rfl, hb1⟩; have H1 : Hid (Below w0.heap.size w0 w1) := hb1; clear hb1)
              | (clear t2; go_at_call 15; refine (WA.out _ _ (Rl.out.below H1.out)).mono ?_; rintro e w2 ⟨v2, rfl, r2, hb2⟩; have RA_2 : Hid (RdP w2 v2 LA) := r2; have H2 : Hid (Below w1.heap.size w1 w2) := hb2; clear r2; clear hb2)
              | (clear t3; go_at_call 15; refine (WX.out _ _ RA_2.out).mono ?_; rintro e w3 ⟨v3, rfl, r3, hb3⟩; have RX_3 : Hid (RdP w3 v3 LX) := r3; have H3 : Hid (Below w2.heap.size w2 w3) := hb3; clear r3; clear hb3)
              | (clear t4; go_at_call 15; refine (WB.out _ _ (Rl.out.below (bstep (bstep H1.out H2.out) H3.out))).mono ?_; rintro e w4 ⟨v4, rfl, r4, hb4⟩; have RB_4 : Hid (RdP w4 v4 LB) := r4; have H4 : Hid (Below w3.heap.size w3 w4) := hb4; clear r4; clear hb4)
              | (clear t5; go_at_call 15; refine (WY.out _ _ RB_4.out).mono ?_; rintro e w5 ⟨v5, rfl, r5, hb5⟩; have RY_5 : Hid (RdP w5 v5 LY) := r5; have H5 : Hid (Below w4.heap.size w4 w5) := hb5; clear r5; clear hb5)
              | (clear t6; go_at_call 13; refine (sameP_any _ _ _ _ _ (RX_3.out.below (bstep H4.out H5.out)) RY_5.out).mono ?_; rintro e w6 ⟨rfl, hb6⟩; rw [EXY.out]; have H6 : Hid (Below w5.heap.size w5 w6) := hb6; clear hb6)
              | (clear t7; go_at_call 15; refine (WA.out _ _ (Rl.out.below (bstep (bstep (bstep (bstep (bstep H1.out H2.out) H3.out) H4.out) H5.out) H6.out))).mono ?_; rintro e w7 ⟨v7, rfl, r7, hb7⟩; have RA_7 : Hid (RdP w7 v7 LA) := r7; have H7 : Hid (Below w6.heap.size w6 w7) := hb7; clear r7; clear hb7)
              | (clear t8; go_at_call 15; refine (WM.out _ _ RA_7.out).mono ?_; rintro e w8 ⟨v8, rfl, r8, hb8⟩; have RM_8 : Hid (RdP w8 v8 LM) := r8; have H8 : Hid (Below w7.heap.size w7 w8) := hb8; clear r8; clear hb8)
              | (clear t9; go_at_call 15; refine (WV.out _ _ (Rl.out.below (bstep (bstep (bstep (bstep (bstep (bstep (bstep H1.out H2.out) H3.out) H4.out) H5.out) H6.out) H7.out) H8.out))).mono ?_; rintro e w9 ⟨v9, rfl, r9, hb9⟩; have RV_9 : Hid (RdP w9 v9 LV) := r9; have H9 : Hid (Below w8.heap.size w8 w9) := hb9; clear r9; clear hb9)
              | (clear t10; go_at_call 13; refine (sameP_any _ _ _ _ _ (RM_8.out.below H9.out) RV_9.out).mono ?_; rintro e w10 ⟨rfl, hb10⟩; rw [EMV.out]; have H10 : Hid (Below w9.heap.size w9 w10) := hb10; clear hb10)
              | (clear t11; go_at_call 15; refine (WV.out _ _ (Rl.out.below (bstep (bstep (bstep (bstep (bstep (bstep (bstep (bstep (bstep H1.out H2.out) H3.out) H4.out) H5.out) H6.out) H7.out) H8.out) H9.out) H10.out))).mono ?_; rintro e w11 ⟨v11, rfl, r11, hb11⟩; have RV_11 : Hid (RdP w11 v11 LV) := r11; have H11 : Hid (Below w10.heap.size w10 w11) := hb11; clear r11; clear hb11)
              | (clear t12; go_at_call 16; refine (WG.out _ _ RV_11.out).mono ?_; rintro e w12 ⟨v12, rfl, r12, hb12⟩; have RG_12 : Hid (RdP w12 v12 LG) := r12; have H12 : Hid (Below w11.heap.size w11 w12) := hb12; clear r12; clear hb12)
              | (clear t13; go_at_call 13; refine (sameP_any _ _ _ _ _ RG_12.out (Rl.out.below (bstep (bstep (bstep (bstep (bstep (bstep (bstep (bstep (bstep (bstep (bstep H1.out H2.out) H3.out) H4.out) H5.out) H6.out) H7.out) H8.out) H9.out) H10.out) H11.out) H12.out))).mono ?_; rintro e w13 ⟨rfl, hb13⟩; rw [EG.out]; have H13 : Hid (Below w12.heap.size w12 w13) := hb13; clear hb13)
              | (clear t14; go_at_call 16; refine (WZ.out _ _ (Rl.out.below (bstep (bstep (bstep (bstep (bstep (bstep (bstep (bstep (bstep (bstep (bstep (bstep H1.out H2.out) H3.out) H4.out) H5.out) H6.out) H7.out) H8.out) H9.out) H10.out) H11.out) H12.out) H13.out))).mono ?_; rintro e w14 ⟨v14, rfl, r14, hb14⟩; have RZ_14 : Hid (RdP w14 v14 LZ) := r14; have H14 : Hid (Below w13.heap.size w13 w14) := hb14; clear r14; clear hb14)
              | (clear t15; go_at_call 13; refine (sameP_any _ _ _ _ _ RZ_14.out (Rl.out.below (bstep (bstep (bstep (bstep (bstep (bstep (bstep (bstep (bstep (bstep (bstep (bstep (bstep H1.out H2.out) H3.out) H4.out) H5.out) H6.out) H7.out) H8.out) H9.out) H10.out) H11.out) H12.out) H13.out) H14.out))).mono ?_; rintro e w15 ⟨rfl, hb15⟩; rw [EZ.out]; have H15 : Hid (Below w14.heap.size w14 w15) := hb15; clear hb15))
            go_ret
            exact ⟨ret_bool rfl, bstep HB.out (bstep (bstep (bstep (bstep (bstep (bstep (bstep (bstep (bstep (bstep (bstep (bstep (bstep (bstep H1.out H2.out) H3.out) H4.out) H5.out) H6.out) H7.out) H8.out) H9.out) H10.out) H11.out) H12.out) H13.out) H14.out) H15.out)⟩
        | true =>
          rw [hg] at K17
          clear hg fG
          by_cases hab : a = b
          · have hab2 : (a.toList == b.toList) = true := by rw [hab]; simp
            clear hab fXY
            have t1 : Hid (0 = 0) := rfl
            have t2 : Hid (0 = 0) := rfl
            have t3 : Hid (0 = 0) := rfl
            have t4 : Hid (0 = 0) := rfl
            have t5 : Hid (0 = 0) := rfl
            have t6 : Hid (0 = 0) := rfl
            have t7 : Hid (0 = 0) := rfl
            have t8 : Hid (0 = 0) := rfl
            have t9 : Hid (0 = 0) := rfl
            go_wp2_with (first
              | (clear t1; go_at_call 17; refine (K17.out _ _ Rl.out).mono ?_; rintro e w1 ⟨rfl, hb1⟩; have H1 : Hid (Below w0.heap.size w0 w1) := hb1; clear hb1)
              | (clear t2; go_at_call 15; refine (WA.out _ _ (Rl.out.below H1.out)).mono ?_; rintro e w2 ⟨v2, rfl, r2, hb2⟩; have RA_2 : Hid (RdP w2 v2 LA) := r2; have H2 : Hid (Below w1.heap.size w1 w2) := hb2; clear r2; clear hb2)
              | (clear t3; go_at_call 15; refine (WX.out _ _ RA_2.out).mono ?_; rintro e w3 ⟨v3, rfl, r3, hb3⟩; have RX_3 : Hid (RdP w3 v3 LX) := r3; have H3 : Hid (Below w2.heap.size w2 w3) := hb3; clear r3; clear hb3)
              | (clear t4; go_at_call 15; refine (WB.out _ _ (Rl.out.below (bstep (bstep H1.out H2.out) H3.out))).mono ?_; rintro e w4 ⟨v4, rfl, r4, hb4⟩; have RB_4 : Hid (RdP w4 v4 LB) := r4; have H4 : Hid (Below w3.heap.size w3 w4) := hb4; clear r4; clear hb4)
              | (clear t5; go_at_call 15; refine (WY.out _ _ RB_4.out).mono ?_; rintro e w5 ⟨v5, rfl, r5, hb5⟩; have RY_5 : Hid (RdP w5 v5 LY) := r5; have H5 : Hid (Below w4.heap.size w4 w5) := hb5; clear r5; clear hb5)
              | (clear t6; go_at_call 15; refine (WA.out _ _ (Rl.out.below (bstep (bstep (bstep (bstep H1.out H2.out) H3.out) H4.out) H5.out))).mono ?_; rintro e w6 ⟨v6, rfl, r6, hb6⟩; have RA_6 : Hid (RdP w6 v6 LA) := r6; have H6 : Hid (Below w5.heap.size w5 w6) := hb6; clear r6; clear hb6)
              | (clear t7; go_at_call 15; refine (WM.out _ _ RA_6.out).mono ?_; rintro e w7 ⟨v7, rfl, r7, hb7⟩; have RM_7 : Hid (RdP w7 v7 LM) := r7; have H7 : Hid (Below w6.heap.size w6 w7) := hb7; clear r7; clear hb7)
              | (clear t8; go_at_call 15; refine (WV.out _ _ (Rl.out.below (bstep (bstep (bstep (bstep (bstep (bstep H1.out H2.out) H3.out) H4.out) H5.out) H6.out) H7.out))).mono ?_; rintro e w8 ⟨v8, rfl, r8, hb8⟩; have RV_8 : Hid (RdP w8 v8 LV) := r8; have H8 : Hid (Below w7.heap.size w7 w8) := hb8; clear r8; clear hb8)
              | (clear t9; go_at_call 13; refine (sameP_any _ _ _ _ _ (RM_7.out.below H8.out) RV_8.out).mono ?_; rintro e w9 ⟨rfl, hb9⟩; rw [EMV.out]; have H9 : Hid (Below w8.heap.size w8 w9) := hb9; clear hb9))
            go_ret
            exact ⟨ret_bool rfl, bstep HB.out (bstep (bstep (bstep (bstep (bstep (bstep (bstep (bstep H1.out H2.out) H3.out) H4.out) H5.out) H6.out) H7.out) H8.out) H9.out)⟩
          · have hab2 : (a.toList == b.toList) = false := by have := tE_no hab; unfold tE at this; exact this
            have EXY : Hid (decide (LX = LY) = true) := decide_eq_true (fXY hab)
            clear hab fXY
            have t1 : Hid (0 = 0) := rfl
            have t2 : Hid (0 = 0) := rfl
            have t3 : Hid (0 = 0) := rfl
            have t4 : Hid (0 = 0) := rfl
            have t5 : Hid (0 = 0) := rfl
            have t6 : Hid (0 = 0) := rfl
            have t7 : Hid (0 = 0) := rfl
            have t8 : Hid (0 = 0) := rfl
            have t9 : Hid (0 = 0) := rfl
            have t10 : Hid (0 = 0) := rfl
            go_wp2_with (first
              | (clear t1; go_at_call 17; refine (K17.out _ _ Rl.out).mono ?_; rintro e w1 ⟨rfl, hb1⟩; have H1 : Hid (Below w0.heap.size w0 w1) := hb1; clear hb1)
              | (clear t2; go_at_call 15; refine (WA.out _ _ (Rl.out.below H1.out)).mono ?_; rintro e w2 ⟨v2, rfl, r2, hb2⟩; have RA_2 : Hid (RdP w2 v2 LA) := r2; have H2 : Hid (Below w1.heap.size w1 w2) := hb2; clear r2; clear hb2)
              | (clear t3; go_at_call 15; refine (WX.out _ _ RA_2.out).mono ?_; rintro e w3 ⟨v3, rfl, r3, hb3⟩; have RX_3 : Hid (RdP w3 v3 LX) := r3; have H3 : Hid (Below w2.heap.size w2 w3) := hb3; clear r3; clear hb3)
              | (clear t4; go_at_call 15; refine (WB.out _ _ (Rl.out.below (bstep (bstep H1.out H2.out) H3.out))).mono ?_; rintro e w4 ⟨v4, rfl, r4, hb4⟩; have RB_4 : Hid (RdP w4 v4 LB) := r4; have H4 : Hid (Below w3.heap.size w3 w4) := hb4; clear r4; clear hb4)
              | (clear t5; go_at_call 15; refine (WY.out _ _ RB_4.out).mono ?_; rintro e w5 ⟨v5, rfl, r5, hb5⟩; have RY_5 : Hid (RdP w5 v5 LY) := r5; have H5 : Hid (Below w4.heap.size w4 w5) := hb5; clear r5; clear hb5)
              | (clear t6; go_at_call 13; refine (sameP_any _ _ _ _ _ (RX_3.out.below (bstep H4.out H5.out)) RY_5.out).mono ?_; rintro e w6 ⟨rfl, hb6⟩; rw [EXY.out]; have H6 : Hid (Below w5.heap.size w5 w6) := hb6; clear hb6)
              | (clear t7; go_at_call 15; refine (WA.out _ _ (Rl.out.below (bstep (bstep (bstep (bstep (bstep H1.out H2.out) H3.out) H4.out) H5.out) H6.out))).mono ?_; rintro e w7 ⟨v7, rfl, r7, hb7⟩; have RA_7 : Hid (RdP w7 v7 LA) := r7; have H7 : Hid (Below w6.heap.size w6 w7) := hb7; clear r7; clear hb7)
              | (clear t8; go_at_call 15; refine (WM.out _ _ RA_7.out).mono ?_; rintro e w8 ⟨v8, rfl, r8, hb8⟩; have RM_8 : Hid (RdP w8 v8 LM) := r8; have H8 : Hid (Below w7.heap.size w7 w8) := hb8; clear r8; clear hb8)
              | (clear t9; go_at_call 15; refine (WV.out _ _ (Rl.out.below (bstep (bstep (bstep (bstep (bstep (bstep (bstep H1.out H2.out) H3.out) H4.out) H5.out) H6.out) H7.out) H8.out))).mono ?_; rintro e w9 ⟨v9, rfl, r9, hb9⟩; have RV_9 : Hid (RdP w9 v9 LV) := r9; have H9 : Hid (Below w8.heap.size w8 w9) := hb9; clear r9; clear hb9)
              | (clear t10; go_at_call 13; refine (sameP_any _ _ _ _ _ (RM_8.out.below H9.out) RV_9.out).mono ?_; rintro e w10 ⟨rfl, hb10⟩; rw [EMV.out]; have H10 : Hid (Below w9.heap.size w9 w10) := hb10; clear hb10))
            go_ret
            exact ⟨ret_bool rfl, bstep HB.out (bstep (bstep (bstep (bstep (bstep (bstep (bstep (bstep (bstep H1.out H2.out) H3.out) H4.out) H5.out) H6.out) H7.out) H8.out) H9.out) H10.out)⟩
end Go.Proofs.Ytcgclhahonndbaa

