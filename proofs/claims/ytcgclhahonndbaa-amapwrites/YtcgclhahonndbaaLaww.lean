/- Layer 12: the walk of AmapWrites. -/
import Derived.Test.YtcgclhahonndbaaLawt
namespace Go.Proofs.Ytcgclhahonndbaa
open Go.RowKit Go.Shelf
set_option linter.unusedVariables false

/-- Whether keys rise so far. -/
def stB (p q : Option Pa) : Bool := match p, q with
  | some p, some q => tL p.k q.k
  | _, _ => true
def riB (l : List Pa) : Nat → Bool
  | 0 => true
  | m + 1 => riB l m && stB l[m]? l[m + 1]?
theorem riB_next {l : List Pa} {m : Nat} {x y : Pa} (hy : l[m]? = some y) (hx : l[m + 1]? = some x) : riB l (m + 1) = (riB l m && tL y.k x.k) := by
  show (riB l m && stB l[m]? l[m + 1]?) = _
  rw [hy, hx]
  rfl
theorem riB_to {l : List Pa} : ∀ {m : Nat}, riB l m = true → RiTo l m
  | 0, _, j, p, q, hj, _, _ => by omega
  | m + 1, h, j, p, q, hj, hp, hq => by
    have h' : (riB l m && stB l[m]? l[m + 1]?) = true := h
    rw [Bool.and_eq_true] at h'
    by_cases e : j = m
    · subst e
      have := h'.2
      rw [hp, hq] at this
      exact this
    · exact riB_to h'.1 j p q (by omega) hp hq
theorem ri_get {l : List Pa} (h : Ri l) {m : Nat} {x y : Pa} (hy : l[m]? = some y) (hx : l[m + 1]? = some x) : tL y.k x.k = true := by
  obtain ⟨q1, rfl⟩ := List.getElem?_eq_some_iff.1 hx
  obtain ⟨q2, rfl⟩ := List.getElem?_eq_some_iff.1 hy
  exact List.pairwise_iff_getElem.1 h m (m + 1) q2 q1 (Nat.lt_succ_self _)

set_option maxRecDepth 100000 in
set_option maxHeartbeats 4000000 in
theorem walk_AmapWrites (a0 : Option Addr) (len0 cap0 : Nat) (key val other : ByteArray) (w : World) (h0 : PIn w a0 len0 cap0) (h1 : key.size ≤ maxLen) (h2 : val.size ≤ maxLen) (h3 : other.size ≤ maxLen) :
    Calls Try.prog 4 #[.slice a0 len0 cap0, .string key, .string val, .string other] w fun e w' => e = .returned (.bool true) ∧ Below w.heap.size w w' := by
  obtain ⟨l, hI⟩ := h0
  have HI : Hid (InP w a0 len0 cap0 l) := hI
  have K14 : Hid (∀ W, InP W a0 len0 cap0 l → Calls Try.prog 14 #[.slice a0 len0 cap0, .int .i64 200] W fun e w' => e = .returned (.bool (shP l 200)) ∧ Below W.heap.size W w') := fun W h => short_any a0 len0 cap0 l 200 W h
  cases hs : shP l 200 with
  | false =>
    rw [hs] at K14
    clear hI hs
    go_enter Try.func4, Try.ntmps4
    go_wp2_with (first
      | (go_at_call 7; refine (awake_any _).mono ?_; rintro e w1 ⟨rfl, hb1⟩; have B1 : Hid (Below w.heap.size w w1) := hb1; clear hb1)
      | (go_at_call 14; refine (K14.out _ (HI.out.below B1.out)).mono ?_; rintro e w2 ⟨rfl, hb2⟩; have B2 : Hid (Below w.heap.size w w2) := bstep B1.out hb2; clear hb2))
    go_ret
    exact ⟨ret_bool rfl, B2.out⟩
  | true =>
    obtain ⟨rfl, hl⟩ := hI.short hs
    rw [hs] at K14
    clear hs
    by_cases g1 : (key.size : Int) > 100
    · clear hI
      go_enter Try.func4, Try.ntmps4
      go_wp2_with (first
      | (go_at_call 7; refine (awake_any _).mono ?_; rintro e w1 ⟨rfl, hb1⟩; have B1 : Hid (Below w.heap.size w w1) := hb1; clear hb1)
      | (go_at_call 14; refine (K14.out _ (HI.out.below B1.out)).mono ?_; rintro e w2 ⟨rfl, hb2⟩; have B2 : Hid (Below w.heap.size w w2) := bstep B1.out hb2; clear hb2))
      go_ret
      exact ⟨ret_bool rfl, B2.out⟩
    by_cases g2 : (val.size : Int) > 100
    · clear hI
      go_enter Try.func4, Try.ntmps4
      go_wp2_with (first
      | (go_at_call 7; refine (awake_any _).mono ?_; rintro e w1 ⟨rfl, hb1⟩; have B1 : Hid (Below w.heap.size w w1) := hb1; clear hb1)
      | (go_at_call 14; refine (K14.out _ (HI.out.below B1.out)).mono ?_; rintro e w2 ⟨rfl, hb2⟩; have B2 : Hid (Below w.heap.size w w2) := bstep B1.out hb2; clear hb2))
      go_ret
      exact ⟨ret_bool rfl, B2.out⟩
    by_cases g3 : (other.size : Int) > 100
    · clear hI
      go_enter Try.func4, Try.ntmps4
      go_wp2_with (first
      | (go_at_call 7; refine (awake_any _).mono ?_; rintro e w1 ⟨rfl, hb1⟩; have B1 : Hid (Below w.heap.size w w1) := hb1; clear hb1)
      | (go_at_call 14; refine (K14.out _ (HI.out.below B1.out)).mono ?_; rintro e w2 ⟨rfl, hb2⟩; have B2 : Hid (Below w.heap.size w w2) := bstep B1.out hb2; clear hb2))
      go_ret
      exact ⟨ret_bool rfl, B2.out⟩
    have RL : Hid (RdP w (.slice a0 l.length cap0) l) := hI.rd (by omega)
    obtain ⟨LA, hA⟩ : ∃ LA, LA = wiP l key val := ⟨_, rfl⟩
    obtain ⟨LB, hB⟩ : ∃ LB, LB = woP l key := ⟨_, rfl⟩
    have lB : LB.length ≤ l.length := by rw [hB]; exact woP_len l key
    have lA : LA.length = LB.length + 1 := by rw [hA, hB, wiP_len]
    have hAB : ((LA.length : Int) == (LB.length : Int) + 1) = true := by simp [lA]
    have hBI : (LB.length : Int) ≤ (l.length : Int) := by omega
    have lA9 : LA.length ≤ 900 := by omega
    have HRA : Hid (Ri l → Ri LA) := fun h => by rw [hA]; exact wiP_rise h key val
    have WA : Hid (∀ v W, RdP W v l → Calls Try.prog 15 #[v, .string key, .string val] W fun e w' => ∃ v', e = .returned v' ∧ RdP w' v' LA ∧ Below W.heap.size W w') := fun v W h => by rw [hA]; exact with_rd v l key _ W h (by omega)
    have WB : Hid (∀ v W, RdP W v l → Calls Try.prog 16 #[v, .string key] W fun e w' => ∃ v', e = .returned v' ∧ RdP w' v' LB ∧ Below W.heap.size W w') := fun v W h => by rw [hB]; exact without_rd v l key W h
    have gA : geP LA key = some val := by rw [hA]; exact geP_wi_self l key val
    have gB : geP LB key = none := by rw [hB]; exact geP_wo_self l key
    have GA : Hid (∀ v W, RdP W v LA → Calls Try.prog 17 #[v, .string key] W fun e w' => e = .returned (.tuple #[.string val, .bool true]) ∧ Below W.heap.size W w') := fun v W h => by
      have := get_any v LA key W h
      rwa [show gvP LA key = val by unfold gvP; rw [gA]; rfl, show gbP LA key = true by unfold gbP; rw [gA]; rfl] at this
    have GB : Hid (∀ v W, RdP W v LB → Calls Try.prog 17 #[v, .string key] W fun e w' => e = .returned (.tuple #[.string (gvP LB key), .bool false]) ∧ Below W.heap.size W w') := fun v W h => by
      have := get_any v LB key W h
      rwa [show gbP LB key = false by unfold gbP; rw [gB]; rfl] at this
    have Gl : Hid (∀ v W, RdP W v l → Calls Try.prog 17 #[v, .string other] W fun e w' => e = .returned (.tuple #[.string (gvP l other), .bool (gbP l other)]) ∧ Below W.heap.size W w') := fun v W h => get_any v l other W h
    have GAo : Hid (∀ v W, RdP W v LA → Calls Try.prog 17 #[v, .string other] W fun e w' => e = .returned (.tuple #[.string (gvP LA other), .bool (gbP LA other)]) ∧ Below W.heap.size W w') := fun v W h => get_any v LA other W h
    have GBo : Hid (∀ v W, RdP W v LB → Calls Try.prog 17 #[v, .string other] W fun e w' => e = .returned (.tuple #[.string (gvP LB other), .bool (gbP LB other)]) ∧ Below W.heap.size W w') := fun v W h => get_any v LB other W h
    have hno : other ≠ key → (gvP LA other = gvP l other ∧ gbP LA other = gbP l other) ∧ gvP LB other = gvP l other ∧ gbP LB other = gbP l other := fun hne => by
      have e1 : geP LA other = geP l other := by rw [hA]; exact geP_wi_other l val hne
      have e2 : geP LB other = geP l other := by rw [hB]; exact geP_wo_other l hne
      unfold gvP gbP
      rw [e1, e2]
      exact ⟨⟨rfl, rfl⟩, rfl, rfl⟩
    clear hI hA hB gA gB lA
    generalize gvP LB key = gk at *
    generalize gvP l other = x0 at *
    generalize gbP l other = y0 at *
    generalize gvP LA other = x1 at *
    generalize gbP LA other = y1 at *
    generalize gvP LB other = x2 at *
    generalize gbP LB other = y2 at *
    by_cases ho : other = key
    · have ho2 : (other.toList == key.toList) = true := by rw [ho]; simp
      clear ho hno
      have t1 : Hid (0 = 0) := rfl
      have t2 : Hid (0 = 0) := rfl
      have t3 : Hid (0 = 0) := rfl
      have t4 : Hid (0 = 0) := rfl
      go_enter Try.func4, Try.ntmps4
      go_wp2_with (first
        | (go_at_call 7; refine (awake_any _).mono ?_; rintro e w1 ⟨rfl, hb1⟩; have B1 : Hid (Below w.heap.size w w1) := hb1; clear hb1)
        | (go_at_call 14; refine (K14.out _ (HI.out.below B1.out)).mono ?_; rintro e w2 ⟨rfl, hb2⟩; have B2 : Hid (Below w.heap.size w w2) := bstep B1.out hb2; clear hb2)
        | (go_at_call 15; refine (WA.out _ _ (RL.out.below B2.out)).mono ?_; rintro e w3 ⟨v3, rfl, r3, hb3⟩; obtain ⟨_, a3, c3, rfl, _⟩ := r3.form; have R3 : Hid (RdP w3 (.slice a3 LA.length c3) LA) := r3; have B3 : Hid (Below w.heap.size w w3) := bstep B2.out hb3; clear r3 hb3)
        | (go_at_call 16; refine (WB.out _ _ (RL.out.below B3.out)).mono ?_; rintro e w4 ⟨v4, rfl, r4, hb4⟩; obtain ⟨_, a4, c4, rfl, _⟩ := r4.form; have R4 : Hid (RdP w4 (.slice a4 LB.length c4) LB) := r4; have B4 : Hid (Below w.heap.size w w4) := bstep B3.out hb4; have H4 : Hid (Below w3.heap.size w3 w4) := hb4; clear r4 hb4)
        | (clear t1; go_at_call 17; refine (GA.out _ _ (R3.out.below H4.out)).mono ?_; rintro e w5 ⟨rfl, hb5⟩; have H5 : Hid (Below w4.heap.size w4 w5) := hb5; clear hb5)
        | (clear t2; go_at_call 17; refine (GB.out _ _ (R4.out.below H5.out)).mono ?_; rintro e w6 ⟨rfl, hb6⟩; have H6 : Hid (Below w4.heap.size w4 w6) := bstep H5.out hb6; clear hb6)
        | (clear t3; go_at_call 17; refine (Gl.out _ _ (RL.out.below (bstep B4.out H6.out))).mono ?_; rintro e w7 ⟨rfl, hb7⟩; have H7 : Hid (Below w4.heap.size w4 w7) := bstep H6.out hb7; clear hb7)
        | (clear t4; go_at_call 17; refine (GAo.out _ _ (R3.out.below (bstep H4.out H7.out))).mono ?_; rintro e w8 ⟨rfl, hb8⟩; have H8 : Hid (Below w4.heap.size w4 w8) := bstep H7.out hb8; clear hb8)
        | (go_at_call 17; refine (GBo.out _ _ (R4.out.below H8.out)).mono ?_; rintro e w9 ⟨rfl, hb9⟩; have H9 : Hid (Below w4.heap.size w4 w9) := bstep H8.out hb9; have B9 : Hid (Below w.heap.size w w9) := bstep B4.out H9.out; have R9 : Hid (RdP w9 (.slice a3 LA.length c3) LA) := R3.out.below (bstep H4.out H9.out); clear hb9))
      go_loopw [22, 23] (fun r i w3 => ∃ m : Nat, m ≤ l.length ∧ i = .int .i64 ((m : Int) + 1) ∧ r = .bool (riB l m) ∧ Below w9.heap.size w9 w3) (fun _ i _ => l.length + 1 - (Go.RowKit.intOf i).toNat)
      case atStart => exact ⟨0, Nat.zero_le _, rfl, rfl, Below.refl _ _⟩
      case round =>
        obtain ⟨m, hm, rfl, rfl, hbel⟩ := hrel
        have HB : Hid (Below w9.heap.size w9 wr) := hbel
        clear hbel
        by_cases hlt : m + 1 < l.length
        · have hltI : (m : Int) + 1 < (l.length : Int) := by omega
          obtain ⟨x, hx⟩ : ∃ x, l[m + 1]? = some x := ⟨_, List.getElem?_eq_getElem hlt⟩
          obtain ⟨y, hy⟩ : ∃ y, l[m]? = some y := ⟨_, List.getElem?_eq_getElem (by omega)⟩
          obtain ⟨bb, off, rfl, x0c, _⟩ := (RL.out.below (bstep B9.out HB.out)).get hx
          obtain ⟨b2, off2, e2, y0c, _⟩ := (RL.out.below (bstep B9.out HB.out)).get hy
          cases e2
          have hnx := riB_next hy hx
          have cx : ∀ p : BW wr, p.w.cell? ⟨bb, off + (m + 1) * 2, none⟩ = some (.string x.k) := fun p => (p.b.cell (World.block_lt_of_cell? _ _ x0c)).trans x0c
          have cy : ∀ p : BW wr, p.w.cell? ⟨bb, off + m * 2, none⟩ = some (.string y.k) := fun p => (p.b.cell (World.block_lt_of_cell? _ _ y0c)).trans y0c
          clear hx hy x0c y0c
          have hmw : IntKind.i64.wrap (m : Int) = (m : Int) := by rw [IntKind.wrap_i64]; omega
          have h0I : (0 : Int) ≤ (m : Int) + 1 := by omega
          have htn : ((m : Int) + 1).toNat = m + 1 := by omega
          have hmI : (m : Int) < (l.length : Int) := by omega
          cases e : riB l m with
          | false =>
            rw [e, Bool.false_and] at hnx
            have Hn : Hid (riB l (m + 1) = false) := hnx
            clear hnx e
            go_wp2
            refine wp_region_bw (by kernel_rfl) (by kernel_rfl) (fun hbw0 => ?_)
            repeat (refine QW.step (fun K hK => ?_); go_simp; refine hK _ ?_; clear hK K)
            refine QW.nil ?_
            rintro ⟨w11, hb11⟩
            dsimp only
            go_wp2
            go_roundw
            case rel => exact ⟨m + 1, by omega, by go_num, by rw [Hn.out], bstep HB.out hb11⟩
            case measure => simp [Go.RowKit.intOf]; omega
          | true =>
            rw [e, Bool.true_and] at hnx
            clear e
            cases ht : tL y.k x.k with
            | true =>
              obtain ⟨e7, e8⟩ := tL_le ht
              rw [ht] at hnx
              have Hn : Hid (riB l (m + 1) = true) := hnx
              clear hnx ht
              go_wp2
              refine wp_region_bw (by kernel_rfl) (by kernel_rfl) (fun hbw0 => ?_)
              repeat (refine QW.step (fun K hK => ?_); go_simp; refine hK _ ?_; clear hK K)
              refine QW.nil ?_
              rintro ⟨w11, hb11⟩
              dsimp only
              go_wp2
              go_roundw
              case rel => exact ⟨m + 1, by omega, by go_num, by rw [Hn.out], bstep HB.out hb11⟩
              case measure => simp [Go.RowKit.intOf]; omega
            | false =>
              rw [ht] at hnx
              have Hn : Hid (riB l (m + 1) = false) := hnx
              rcases tL_ge ht with ⟨e7, e8⟩ | ⟨e7, e8⟩
              all_goals
                clear hnx ht
                go_wp2
                refine wp_region_bw (by kernel_rfl) (by kernel_rfl) (fun hbw0 => ?_)
                repeat (refine QW.step (fun K hK => ?_); go_simp; refine hK _ ?_; clear hK K)
                refine QW.nil ?_
                rintro ⟨w11, hb11⟩
                dsimp only
                go_wp2
                go_roundw
                case rel => exact ⟨m + 1, by omega, by go_num, by rw [Hn.out], bstep HB.out hb11⟩
                case measure => simp [Go.RowKit.intOf]; omega
        · have hge : ¬ (m : Int) + 1 < (l.length : Int) := by omega
          have RA : Hid (RdP wr (.slice a3 LA.length c3) LA) := R9.out.below HB.out
          have Bw : Hid (Below w.heap.size w wr) := bstep B9.out HB.out
          cases e : riB l m with
          | false =>
            clear e
            go_wp2
            go_loop [24] (fun i => i = .int .i64 1) (fun _ => 0)
            case atStart => rfl
            case round =>
              subst hrel
              by_cases h1A : (1 : Int) < (LA.length : Int)
              all_goals
                go_wp2
                go_ret
                exact ⟨ret_bool rfl, Bw.out⟩
          | true =>
            obtain ⟨w10, hw10⟩ : ∃ w10, w10 = wr := ⟨_, rfl⟩
            subst hw10
            have hRA : Ri LA := HRA.out (ri_of fun j p q hp hq => riB_to e j p q (by have := (List.getElem?_eq_some_iff.1 hq).1; omega) hp hq)
            have HRi : Hid (Ri LA) := hRA
            clear e hRA
            go_wp2
            go_loopw [24] (fun i w12 => ∃ j : Nat, j ≤ LA.length ∧ i = .int .i64 ((j : Int) + 1) ∧ Below w10.heap.size w10 w12) (fun i _ => LA.length + 1 - (Go.RowKit.intOf i).toNat)
            case atStart => exact ⟨0, Nat.zero_le _, rfl, Below.refl _ _⟩
            case round =>
              obtain ⟨j, hj, rfl, hbel⟩ := hrel
              have HB2 : Hid (Below w10.heap.size w10 wr) := hbel
              clear hbel
              by_cases hlt2 : j + 1 < LA.length
              · have hlt2I : (j : Int) + 1 < (LA.length : Int) := by omega
                obtain ⟨x, hx⟩ : ∃ x, LA[j + 1]? = some x := ⟨_, List.getElem?_eq_getElem hlt2⟩
                obtain ⟨y, hy⟩ : ∃ y, LA[j]? = some y := ⟨_, List.getElem?_eq_getElem (by omega)⟩
                obtain ⟨bb, off, rfl, x0c, _⟩ := (RA.out.below HB2.out).get hx
                obtain ⟨b2, off2, e2, y0c, _⟩ := (RA.out.below HB2.out).get hy
                cases e2
                obtain ⟨e7, e8⟩ := tL_le (ri_get HRi.out hy hx)
                clear hx hy
                go_wp2
                go_quiet (fail)
                go_wp2
                go_roundw
                case rel => exact ⟨j + 1, by omega, by go_num, below_drewN HB2.out _⟩
                case measure => simp [Go.RowKit.intOf]; omega
              · have hge2 : ¬ (j : Int) + 1 < (LA.length : Int) := by omega
                go_wp2
                go_ret
                exact ⟨ret_bool rfl, bstep Bw.out HB2.out⟩
    · have ho2 : (other.toList == key.toList) = false := by have := tE_no ho; unfold tE at this; exact this
      obtain ⟨⟨rfl, rfl⟩, rfl, rfl⟩ := hno ho
      clear ho
      have t1 : Hid (0 = 0) := rfl
      have t2 : Hid (0 = 0) := rfl
      have t3 : Hid (0 = 0) := rfl
      have t4 : Hid (0 = 0) := rfl
      go_enter Try.func4, Try.ntmps4
      go_wp2_with (first
        | (go_at_call 7; refine (awake_any _).mono ?_; rintro e w1 ⟨rfl, hb1⟩; have B1 : Hid (Below w.heap.size w w1) := hb1; clear hb1)
        | (go_at_call 14; refine (K14.out _ (HI.out.below B1.out)).mono ?_; rintro e w2 ⟨rfl, hb2⟩; have B2 : Hid (Below w.heap.size w w2) := bstep B1.out hb2; clear hb2)
        | (go_at_call 15; refine (WA.out _ _ (RL.out.below B2.out)).mono ?_; rintro e w3 ⟨v3, rfl, r3, hb3⟩; obtain ⟨_, a3, c3, rfl, _⟩ := r3.form; have R3 : Hid (RdP w3 (.slice a3 LA.length c3) LA) := r3; have B3 : Hid (Below w.heap.size w w3) := bstep B2.out hb3; clear r3 hb3)
        | (go_at_call 16; refine (WB.out _ _ (RL.out.below B3.out)).mono ?_; rintro e w4 ⟨v4, rfl, r4, hb4⟩; obtain ⟨_, a4, c4, rfl, _⟩ := r4.form; have R4 : Hid (RdP w4 (.slice a4 LB.length c4) LB) := r4; have B4 : Hid (Below w.heap.size w w4) := bstep B3.out hb4; have H4 : Hid (Below w3.heap.size w3 w4) := hb4; clear r4 hb4)
        | (clear t1; go_at_call 17; refine (GA.out _ _ (R3.out.below H4.out)).mono ?_; rintro e w5 ⟨rfl, hb5⟩; have H5 : Hid (Below w4.heap.size w4 w5) := hb5; clear hb5)
        | (clear t2; go_at_call 17; refine (GB.out _ _ (R4.out.below H5.out)).mono ?_; rintro e w6 ⟨rfl, hb6⟩; have H6 : Hid (Below w4.heap.size w4 w6) := bstep H5.out hb6; clear hb6)
        | (clear t3; go_at_call 17; refine (Gl.out _ _ (RL.out.below (bstep B4.out H6.out))).mono ?_; rintro e w7 ⟨rfl, hb7⟩; have H7 : Hid (Below w4.heap.size w4 w7) := bstep H6.out hb7; clear hb7)
        | (clear t4; go_at_call 17; refine (GAo.out _ _ (R3.out.below (bstep H4.out H7.out))).mono ?_; rintro e w8 ⟨rfl, hb8⟩; have H8 : Hid (Below w4.heap.size w4 w8) := bstep H7.out hb8; clear hb8)
        | (go_at_call 17; refine (GBo.out _ _ (R4.out.below H8.out)).mono ?_; rintro e w9 ⟨rfl, hb9⟩; have H9 : Hid (Below w4.heap.size w4 w9) := bstep H8.out hb9; have B9 : Hid (Below w.heap.size w w9) := bstep B4.out H9.out; have R9 : Hid (RdP w9 (.slice a3 LA.length c3) LA) := R3.out.below (bstep H4.out H9.out); clear hb9))
      go_loopw [22, 23] (fun r i w3 => ∃ m : Nat, m ≤ l.length ∧ i = .int .i64 ((m : Int) + 1) ∧ r = .bool (riB l m) ∧ Below w9.heap.size w9 w3) (fun _ i _ => l.length + 1 - (Go.RowKit.intOf i).toNat)
      case atStart => exact ⟨0, Nat.zero_le _, rfl, rfl, Below.refl _ _⟩
      case round =>
        obtain ⟨m, hm, rfl, rfl, hbel⟩ := hrel
        have HB : Hid (Below w9.heap.size w9 wr) := hbel
        clear hbel
        by_cases hlt : m + 1 < l.length
        · have hltI : (m : Int) + 1 < (l.length : Int) := by omega
          obtain ⟨x, hx⟩ : ∃ x, l[m + 1]? = some x := ⟨_, List.getElem?_eq_getElem hlt⟩
          obtain ⟨y, hy⟩ : ∃ y, l[m]? = some y := ⟨_, List.getElem?_eq_getElem (by omega)⟩
          obtain ⟨bb, off, rfl, x0c, _⟩ := (RL.out.below (bstep B9.out HB.out)).get hx
          obtain ⟨b2, off2, e2, y0c, _⟩ := (RL.out.below (bstep B9.out HB.out)).get hy
          cases e2
          have hnx := riB_next hy hx
          have cx : ∀ p : BW wr, p.w.cell? ⟨bb, off + (m + 1) * 2, none⟩ = some (.string x.k) := fun p => (p.b.cell (World.block_lt_of_cell? _ _ x0c)).trans x0c
          have cy : ∀ p : BW wr, p.w.cell? ⟨bb, off + m * 2, none⟩ = some (.string y.k) := fun p => (p.b.cell (World.block_lt_of_cell? _ _ y0c)).trans y0c
          clear hx hy x0c y0c
          have hmw : IntKind.i64.wrap (m : Int) = (m : Int) := by rw [IntKind.wrap_i64]; omega
          have h0I : (0 : Int) ≤ (m : Int) + 1 := by omega
          have htn : ((m : Int) + 1).toNat = m + 1 := by omega
          have hmI : (m : Int) < (l.length : Int) := by omega
          cases e : riB l m with
          | false =>
            rw [e, Bool.false_and] at hnx
            have Hn : Hid (riB l (m + 1) = false) := hnx
            clear hnx e
            go_wp2
            refine wp_region_bw (by kernel_rfl) (by kernel_rfl) (fun hbw0 => ?_)
            repeat (refine QW.step (fun K hK => ?_); go_simp; refine hK _ ?_; clear hK K)
            refine QW.nil ?_
            rintro ⟨w11, hb11⟩
            dsimp only
            go_wp2
            go_roundw
            case rel => exact ⟨m + 1, by omega, by go_num, by rw [Hn.out], bstep HB.out hb11⟩
            case measure => simp [Go.RowKit.intOf]; omega
          | true =>
            rw [e, Bool.true_and] at hnx
            clear e
            cases ht : tL y.k x.k with
            | true =>
              obtain ⟨e7, e8⟩ := tL_le ht
              rw [ht] at hnx
              have Hn : Hid (riB l (m + 1) = true) := hnx
              clear hnx ht
              go_wp2
              refine wp_region_bw (by kernel_rfl) (by kernel_rfl) (fun hbw0 => ?_)
              repeat (refine QW.step (fun K hK => ?_); go_simp; refine hK _ ?_; clear hK K)
              refine QW.nil ?_
              rintro ⟨w11, hb11⟩
              dsimp only
              go_wp2
              go_roundw
              case rel => exact ⟨m + 1, by omega, by go_num, by rw [Hn.out], bstep HB.out hb11⟩
              case measure => simp [Go.RowKit.intOf]; omega
            | false =>
              rw [ht] at hnx
              have Hn : Hid (riB l (m + 1) = false) := hnx
              rcases tL_ge ht with ⟨e7, e8⟩ | ⟨e7, e8⟩
              all_goals
                clear hnx ht
                go_wp2
                refine wp_region_bw (by kernel_rfl) (by kernel_rfl) (fun hbw0 => ?_)
                repeat (refine QW.step (fun K hK => ?_); go_simp; refine hK _ ?_; clear hK K)
                refine QW.nil ?_
                rintro ⟨w11, hb11⟩
                dsimp only
                go_wp2
                go_roundw
                case rel => exact ⟨m + 1, by omega, by go_num, by rw [Hn.out], bstep HB.out hb11⟩
                case measure => simp [Go.RowKit.intOf]; omega
        · have hge : ¬ (m : Int) + 1 < (l.length : Int) := by omega
          have RA : Hid (RdP wr (.slice a3 LA.length c3) LA) := R9.out.below HB.out
          have Bw : Hid (Below w.heap.size w wr) := bstep B9.out HB.out
          cases e : riB l m with
          | false =>
            clear e
            go_wp2
            go_loop [24] (fun i => i = .int .i64 1) (fun _ => 0)
            case atStart => rfl
            case round =>
              subst hrel
              by_cases h1A : (1 : Int) < (LA.length : Int)
              all_goals
                go_wp2
                go_ret
                exact ⟨ret_bool rfl, Bw.out⟩
          | true =>
            obtain ⟨w10, hw10⟩ : ∃ w10, w10 = wr := ⟨_, rfl⟩
            subst hw10
            have hRA : Ri LA := HRA.out (ri_of fun j p q hp hq => riB_to e j p q (by have := (List.getElem?_eq_some_iff.1 hq).1; omega) hp hq)
            have HRi : Hid (Ri LA) := hRA
            clear e hRA
            go_wp2
            go_loopw [24] (fun i w12 => ∃ j : Nat, j ≤ LA.length ∧ i = .int .i64 ((j : Int) + 1) ∧ Below w10.heap.size w10 w12) (fun i _ => LA.length + 1 - (Go.RowKit.intOf i).toNat)
            case atStart => exact ⟨0, Nat.zero_le _, rfl, Below.refl _ _⟩
            case round =>
              obtain ⟨j, hj, rfl, hbel⟩ := hrel
              have HB2 : Hid (Below w10.heap.size w10 wr) := hbel
              clear hbel
              by_cases hlt2 : j + 1 < LA.length
              · have hlt2I : (j : Int) + 1 < (LA.length : Int) := by omega
                obtain ⟨x, hx⟩ : ∃ x, LA[j + 1]? = some x := ⟨_, List.getElem?_eq_getElem hlt2⟩
                obtain ⟨y, hy⟩ : ∃ y, LA[j]? = some y := ⟨_, List.getElem?_eq_getElem (by omega)⟩
                obtain ⟨bb, off, rfl, x0c, _⟩ := (RA.out.below HB2.out).get hx
                obtain ⟨b2, off2, e2, y0c, _⟩ := (RA.out.below HB2.out).get hy
                cases e2
                obtain ⟨e7, e8⟩ := tL_le (ri_get HRi.out hy hx)
                clear hx hy
                go_wp2
                go_quiet (fail)
                go_wp2
                go_roundw
                case rel => exact ⟨j + 1, by omega, by go_num, below_drewN HB2.out _⟩
                case measure => simp [Go.RowKit.intOf]; omega
              · have hge2 : ¬ (j : Int) + 1 < (LA.length : Int) := by omega
                go_wp2
                go_ret
                exact ⟨ret_bool rfl, bstep Bw.out HB2.out⟩
end Go.Proofs.Ytcgclhahonndbaa

