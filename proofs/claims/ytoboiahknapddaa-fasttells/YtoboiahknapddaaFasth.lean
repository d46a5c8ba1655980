/- Walks of layer 6: the document's own answers: a slot stored; Insert, Delete, Swap, Cut. -/
import Derived.Test.YtoboiahknapddaaFastg
namespace Go.Proofs.Ytoboiahknapddaa
open Go.RowKit Go.Shelf
set_option linter.unusedVariables false

theorem own_steps {W : World} {base : Nat} {v : Value} {L : List Mi} (h : W.ownsRow base 51 3 v (0 + L.length) ([] ++ mcs L)) : OwnS W base v L := by
  rw [Nat.zero_add] at h
  exact h

set_option maxRecDepth 100000 in
set_option maxHeartbeats 4000000 in
theorem storeR_any (b : Int) (v : Value) (L : List Mi) (s x : Int) (w : World) (hR : RdS w v L) (hA : InA L) (hb : ndB b = true) (h0 : 0 ≤ s) (h1 : s ≤ 12) (hL : L.length ≤ 100) : Calls Try.prog 37 #[.int .i64 b, v, .int .i64 s, .int .i64 x] w fun e w' => ∃ v', e = .returned v' ∧ RdS w' v' (stR b L ⟨s, x⟩) ∧ Below w.heap.size w w' := by
  obtain ⟨hl, a, cap, rfl⟩ := hR.form
  obtain ⟨b0, b1, b2⟩ := ndB_out hb
  have hpl := plc_yes hb h0 h1
  obtain ⟨q, hq⟩ : ∃ q, b + 3 + s = q := ⟨_, rfl⟩
  have q0 : 0 ≤ q := by omega
  have q1 : q < 100000 := by omega
  have HmS : Hid (mS b ⟨s, x⟩ = ⟨1, q, x⟩) := by (show _ = _; unfold mS; rw [hpl, hq])
  have Hpl : Hid (plc b s = q) := hpl.trans hq
  have HR : Hid (RdS w (.slice a L.length cap) L) := hR
  have HW : Hid (Below w.heap.size w (w.alloc (.cells #[] 51))) := (Below.refl _ _).alloc (Nat.le_refl _) _
  have t0 : Hid (0 = 0) := rfl
  have t1 : Hid (0 = 0) := rfl
  have t2 : Hid (0 = 0) := rfl
  rcases List.eq_nil_or_concat L with rfl | ⟨A, y, rfl⟩
  · have HE : Hid (stR b [] ⟨s, x⟩ = [] ++ [⟨1, q, x⟩]) := by (show _ = _; unfold stR; show [mS b ⟨s, x⟩] = _; rw [HmS.out]; rfl)
    clear hpl hR hA hb
    go_enter Try.func37, Try.ntmps37
    go_wp2_with (first
      | (at_builtin; clear t0; refine append_rdc rfl _ _ 24 rfl w.heap.size 51 3 _ 24 Try.underlying24 Try.info51 rfl (by decide) (by decide) _ 0 [] rfl (World.ownsRow_made (base := w.heap.size) (e := 51) (size := 3) w #[] 0 (Nat.le_refl _) (by omega) rfl) _ ([] : List Mi).length _ rfl (HR.out.below HW.out) (mcs_one []) (by omega) (by simp) ?_; intro v2 w2 o2 g2; have HB2 : Hid (Below w.heap.size w w2) := HW.out.grown g2 (by simp) (by intro q hq; cases hq; exact Nat.le_refl _); have O2 := own_steps (L := []) o2; obtain ⟨a2, c2, rfl⟩ := O2.form; have HO2 : Hid (OwnS w2 w.heap.size _ []) := O2; have hs2 : w.heap.size ≤ w2.heap.size := HB2.out.size; clear o2 g2 O2)
      | (at_builtin; clear t1; refine append_s1 rfl _ _ rfl w.heap.size _ [] ⟨1, q, x⟩ HO2.out (by simp) hs2 rfl rfl w2.heap.size rfl rfl ?_; intro g5 c5 w5 o5 b5; have HO5 : Hid (OwnS w5 w.heap.size _ ([] ++ [⟨1, q, x⟩])) := o5; have HB5 : Hid (Below w.heap.size w w5) := HB2.out.trans b5; clear o5 b5))
    go_ret
    exact ⟨_, rfl, by rw [HE.out]; exact HO5.out.rd (by simp), HB5.out⟩
  · rw [List.concat_eq_append] at *
    have HE : Hid (stR b (A ++ [y]) ⟨s, x⟩ = if y.a / 8 = q / 8 then A ++ [y] ++ [⟨1, q, x⟩] else A ++ [y] ++ [⟨2, y.a / 8, 0⟩] ++ [⟨1, q, x⟩]) := by (show _ = _; rw [stR_snoc, HmS.out]; show (if y.a / 8 = plc b s / 8 then _ else _) = _; rw [Hpl.out])
    obtain ⟨y0, y1⟩ := hA y (by simp)
    obtain ⟨j, hj⟩ : ∃ j : Nat, j = A.length := ⟨_, rfl⟩
    have Hy : Hid ((A ++ [y])[j]? = some y) := by (show _ = _; rw [hj]; simp)
    have hsl : (A ++ [y]).length = j + 1 := by rw [hj]; simp
    clear hpl hR hA hb hj
    generalize A ++ [y] = L at *
    have hjI : (L.length : Int) - 1 = (j : Int) := by omega
    have hjl : (j : Int) < (L.length : Int) := by omega
    have hp : (0 : Int) < (L.length : Int) := by omega
    obtain ⟨yk, ya, yv⟩ := y
    dsimp only at *
    clear hsl A
    by_cases hc : ya / 8 = q / 8
    · have hd : (ya / 8 != q / 8) = false := by simpa using hc
      have HE2 : Hid (stR b L ⟨s, x⟩ = L ++ [⟨1, q, x⟩]) := by (show _ = _; rw [HE.out, if_pos hc])
      clear hc HE
      go_enter Try.func37, Try.ntmps37
      go_wp2_with (first
        | (at_builtin; clear t0; refine append_rdc rfl _ _ 24 rfl w.heap.size 51 3 _ 24 Try.underlying24 Try.info51 rfl (by decide) (by decide) _ 0 [] rfl (World.ownsRow_made (base := w.heap.size) (e := 51) (size := 3) w #[] 0 (Nat.le_refl _) (by omega) rfl) _ L.length _ rfl (HR.out.below HW.out) (mcs_one L) (by omega) (by simp) ?_; intro v2 w2 o2 g2; have HB2 : Hid (Below w.heap.size w w2) := HW.out.grown g2 (by simp) (by intro q hq; cases hq; exact Nat.le_refl _); have O2 := own_steps (L := L) o2; obtain ⟨a2, c2, rfl⟩ := O2.form; obtain ⟨bk, of, rfl, k0, k1, k2⟩ := (O2.rd (by omega)).get Hy.out; dsimp only at k0 k1 k2; have HO2 : Hid (OwnS w2 w.heap.size _ L) := O2; have hs2 : w.heap.size ≤ w2.heap.size := HB2.out.size; clear o2 g2 O2)
        | (at_builtin; clear t1; refine append_s1 rfl _ _ rfl w.heap.size _ L ⟨1, q, x⟩ HO2.out (by omega) hs2 rfl rfl w2.heap.size rfl rfl ?_; intro g5 c5 w5 o5 b5; have HO5 : Hid (OwnS w5 w.heap.size _ (L ++ [⟨1, q, x⟩])) := o5; have HB5 : Hid (Below w.heap.size w w5) := HB2.out.trans b5; clear o5 b5))
      go_ret
      exact ⟨_, rfl, by rw [HE2.out]; exact HO5.out.rd (by rw [List.length_append]; show _ + 1 ≤ _; omega), HB5.out⟩
    · have hd : (ya / 8 != q / 8) = true := by simpa using hc
      have HE2 : Hid (stR b L ⟨s, x⟩ = L ++ [⟨2, ya / 8, 0⟩] ++ [⟨1, q, x⟩]) := by (show _ = _; rw [HE.out, if_neg hc])
      clear hc HE
      go_enter Try.func37, Try.ntmps37
      go_wp2_with (first
        | (at_builtin; clear t0; refine append_rdc rfl _ _ 24 rfl w.heap.size 51 3 _ 24 Try.underlying24 Try.info51 rfl (by decide) (by decide) _ 0 [] rfl (World.ownsRow_made (base := w.heap.size) (e := 51) (size := 3) w #[] 0 (Nat.le_refl _) (by omega) rfl) _ L.length _ rfl (HR.out.below HW.out) (mcs_one L) (by omega) (by simp) ?_; intro v2 w2 o2 g2; have HB2 : Hid (Below w.heap.size w w2) := HW.out.grown g2 (by simp) (by intro q hq; cases hq; exact Nat.le_refl _); have O2 := own_steps (L := L) o2; obtain ⟨a2, c2, rfl⟩ := O2.form; obtain ⟨bk, of, rfl, k0, k1, k2⟩ := (O2.rd (by omega)).get Hy.out; dsimp only at k0 k1 k2; have HO2 : Hid (OwnS w2 w.heap.size _ L) := O2; have hs2 : w.heap.size ≤ w2.heap.size := HB2.out.size; clear o2 g2 O2)
        | (at_builtin; clear t1; refine append_s1 rfl _ _ rfl w.heap.size _ L ⟨2, ya / 8, 0⟩ HO2.out (by omega) hs2 rfl rfl w2.heap.size rfl rfl ?_; intro g5 c5 w5 o5 b5; have HO5 : Hid (OwnS w5 w.heap.size _ (L ++ [⟨2, ya / 8, 0⟩])) := o5; have HB5 : Hid (Below w.heap.size w w5) := HB2.out.trans b5; have hs5 : w.heap.size ≤ w5.heap.size := HB5.out.size; clear o5 b5)
        | (at_builtin; clear t2; refine append_s1 rfl _ _ rfl w.heap.size _ (L ++ [⟨2, ya / 8, 0⟩]) ⟨1, q, x⟩ HO5.out (by rw [List.length_append]; show _ + 1 ≤ _; omega) hs5 rfl rfl w5.heap.size rfl rfl ?_; intro g6 c6 w6 o6 b6; have HO6 : Hid (OwnS w6 w.heap.size _ (L ++ [⟨2, ya / 8, 0⟩] ++ [⟨1, q, x⟩])) := o6; have HB6 : Hid (Below w.heap.size w w6) := HB5.out.trans b6; clear o6 b6))
      go_ret
      exact ⟨_, rfl, by rw [HE2.out]; simpa using HO6.out.rd (by simp; omega), HB6.out⟩
set_option maxRecDepth 100000 in
set_option maxHeartbeats 4000000 in
theorem insertR_any (b : Int) (v : Value) (l : List Int) (p r : Int) (w : World) (hR : Rd w v l) : Calls Try.prog 11 #[.int .i64 b, v, .int .i64 p, .int .i64 r] w fun e w' => ∃ v', e = .returned (.tuple #[v', .int .i64 (insE b l p r)]) ∧ RdS w' v' (insS b l p r) ∧ Below w.heap.size w w' := by
  have HR : Hid (Rd w v l) := hR
  obtain ⟨hl, a, cap, rfl⟩ := hR.form
  clear hR
  cases e1 : ndB b
  · obtain ⟨E1, E2⟩ : Hid (insS b l p r = []) ∧ Hid (insE b l p r = 1) := ins_no (by rw [mcB_my, e1]; simp)
    go_enter Try.func11, Try.ntmps11
    go_wp2_with (first
      | (go_at_call 35; refine (nodeR_any b _).mono ?_; rintro e w' ⟨rfl, hw⟩; rw [hw, e1]; clear hw w'))
    go_ret2
    exact ⟨_, by rw [E2.out]; rfl, by rw [E1.out]; exact RdS.bare _, Below.refl _ _⟩
  cases e2 : myB l
  · obtain ⟨E1, E2⟩ : Hid (insS b l p r = []) ∧ Hid (insE b l p r = 1) := ins_no (by rw [mcB_my, e1, e2]; simp)
    go_enter Try.func11, Try.ntmps11
    go_wp2_with (first
      | (go_at_call 35; refine (nodeR_any b _).mono ?_; rintro e w' ⟨rfl, hw⟩; rw [hw, e1]; clear hw w')
      | (go_at_call 36; refine (mayR_any _ l _ HR.out).mono ?_; rintro e w' ⟨rfl, hw⟩; rw [hw, e2]; clear hw w'))
    go_ret2
    exact ⟨_, by rw [E2.out]; rfl, by rw [E1.out]; exact RdS.bare _, Below.refl _ _⟩
  by_cases h1 : r ≤ 0
  · obtain ⟨E1, E2⟩ : Hid (insS b l p r = []) ∧ Hid (insE b l p r = 1) := ins_no (by omega)
    go_enter Try.func11, Try.ntmps11
    go_wp2_with (first
      | (go_at_call 35; refine (nodeR_any b _).mono ?_; rintro e w' ⟨rfl, hw⟩; rw [hw, e1]; clear hw w')
      | (go_at_call 36; refine (mayR_any _ l _ HR.out).mono ?_; rintro e w' ⟨rfl, hw⟩; rw [hw, e2]; clear hw w'))
    go_ret2
    exact ⟨_, by rw [E2.out]; rfl, by rw [E1.out]; exact RdS.bare _, Below.refl _ _⟩
  by_cases h2 : p < 0
  · obtain ⟨E1, E2⟩ : Hid (insS b l p r = []) ∧ Hid (insE b l p r = 1) := ins_no (by omega)
    go_enter Try.func11, Try.ntmps11
    go_wp2_with (first
      | (go_at_call 35; refine (nodeR_any b _).mono ?_; rintro e w' ⟨rfl, hw⟩; rw [hw, e1]; clear hw w')
      | (go_at_call 36; refine (mayR_any _ l _ HR.out).mono ?_; rintro e w' ⟨rfl, hw⟩; rw [hw, e2]; clear hw w'))
    go_ret2
    exact ⟨_, by rw [E2.out]; rfl, by rw [E1.out]; exact RdS.bare _, Below.refl _ _⟩
  by_cases h3 : (l.length : Int) < p
  · obtain ⟨E1, E2⟩ : Hid (insS b l p r = []) ∧ Hid (insE b l p r = 1) := ins_no (by omega)
    go_enter Try.func11, Try.ntmps11
    go_wp2_with (first
      | (go_at_call 35; refine (nodeR_any b _).mono ?_; rintro e w' ⟨rfl, hw⟩; rw [hw, e1]; clear hw w')
      | (go_at_call 36; refine (mayR_any _ l _ HR.out).mono ?_; rintro e w' ⟨rfl, hw⟩; rw [hw, e2]; clear hw w'))
    go_ret2
    exact ⟨_, by rw [E2.out]; rfl, by rw [E1.out]; exact RdS.bare _, Below.refl _ _⟩
  have em : mcB b l = true := by rw [mcB_my, e1, e2]; rfl
  have eB : insB b l p r = true := insB_yes em (by omega) (by omega) (by omega)
  obtain ⟨hnd, h13, _⟩ := mcB_out em
  by_cases h4 : ((l.length : Int) == 13) = true
  · obtain ⟨E1, E2⟩ : Hid (insS b l p r = []) ∧ Hid (insE b l p r = 100) := ins_full eB (by simp at h4; omega)
    go_enter Try.func11, Try.ntmps11
    go_wp2_with (first
      | (go_at_call 35; refine (nodeR_any b _).mono ?_; rintro e w' ⟨rfl, hw⟩; rw [hw, e1]; clear hw w')
      | (go_at_call 36; refine (mayR_any _ l _ HR.out).mono ?_; rintro e w' ⟨rfl, hw⟩; rw [hw, e2]; clear hw w'))
    go_ret2
    exact ⟨_, by rw [E2.out]; rfl, by rw [E1.out]; exact RdS.bare _, Below.refl _ _⟩
  have h4 : ((l.length : Int) == 13) = false := by simpa using h4
  have h12 : l.length ≤ 12 := by simp at h4; omega
  obtain ⟨pn, rfl⟩ : ∃ pn : Nat, p = (pn : Int) := ⟨p.toNat, by omega⟩
  have hpn : pn ≤ l.length := by omega
  obtain ⟨E1, E2⟩ : Hid (insS b l (pn : Int) r = putS b (insF l pn r)) ∧ Hid (insE b l (pn : Int) r = 0) := ins_yes eB (by omega)
  have HI : Hid (ndB b = true) := hnd
  have HF : Hid (∀ f ∈ insF l pn r, 0 ≤ f.s ∧ f.s ≤ 12) := insF_slots h12 hpn
  clear eB hnd em
  have d1 : decide (r ≤ 0) = false := decide_eq_false (by omega)
  have d2 : decide ((pn : Int) < 0) = false := decide_eq_false (by omega)
  have d3 : decide (l.length < pn) = false := decide_eq_false (by omega)
  have d4 : decide ((l.length : Int) < (pn : Int)) = false := decide_eq_false (by omega)
  go_enter Try.func11, Try.ntmps11
  go_wp2_with (first
    | (go_at_call 35; refine (nodeR_any b _).mono ?_; rintro e w' ⟨rfl, hw⟩; rw [hw, e1]; clear hw w')
    | (go_at_call 36; refine (mayR_any _ l _ HR.out).mono ?_; rintro e w' ⟨rfl, hw⟩; rw [hw, e2]; clear hw w'))
  go_loopw [10, 11] (fun o i w1 => ∃ (j : Nat) (L : List Mi), pn ≤ j ∧ j ≤ l.length ∧ i = .int .i64 j ∧ RdS w1 o L ∧ L = foR b ((insF l pn r).take (l.length - j)) ∧ Below w.heap.size w w1) (fun _ i _ => (intOf i).toNat - pn)
  case atStart => exact ⟨l.length, [], hpn, Nat.le_refl _, rfl, RdS.bare _, by rw [Nat.sub_self]; rfl, Below.refl _ _⟩
  case round =>
    obtain ⟨j, L, hj1, hj2, rfl, hO, hE, hB⟩ := hrel
    have hsz : w.heap.size ≤ wr.heap.size := hB.size
    have HB : Hid (Below w.heap.size w wr) := hB
    have HL : Hid (RdS wr _ L) := hO
    have HE : Hid (L = foR b ((insF l pn r).take (l.length - j))) := hE
    obtain ⟨hA, hlen⟩ := foR_in (fs := (insF l pn r).take (l.length - j)) HI.out (fun f hf => HF.out f (List.mem_of_mem_take hf))
    rw [← hE] at hA hlen
    rw [List.length_take, insF_length] at hlen
    have HA : Hid (InA L) := hA
    have hlen2 : L.length ≤ 100 := by omega
    clear hO hB hE hA hlen
    have t0 : Hid (0 = 0) := rfl
    by_cases hlt : pn < j
    · obtain ⟨m, rfl⟩ : ∃ m, j = m + 1 := ⟨j - 1, by omega⟩
      have hltI : (pn : Int) < (m : Int) + 1 := by omega
      have hml : m < l.length := by omega
      have hmI : (m : Int) < (l.length : Int) := by omega
      obtain ⟨blk, off, rfl, hc⟩ := (HR.out.below HB.out).at m hml
      have Hx : Hid (l[m]? = some l[m]) := List.getElem?_eq_getElem hml
      generalize l[m] = x at *
      have hs0 : (0 : Int) ≤ (m : Int) + 1 := by omega
      have hs1 : (m : Int) + 1 ≤ 12 := by omega
      have Hn : Hid (stR b L ⟨(m : Int) + 1, x⟩ = foR b ((insF l pn r).take (l.length - m))) := by
        show _ = _
        have e := insF_get (l := l) (p := pn) (r := r) (j := l.length - (m + 1)) (by omega)
        rw [show l.length - (l.length - (m + 1)) = m + 1 from by omega, Nat.add_sub_cancel, getD_at Hx.out] at e
        rw [show l.length - m = l.length - (m + 1) + 1 from by omega, foR_next e, HE.out]
        rfl
      go_wp2_with (first
        | (go_at_call 37; clear t0; refine (storeR_any b _ L ((m : Int) + 1) x _ HL.out HA.out HI.out hs0 hs1 hlen2).mono ?_; rintro e w5 ⟨v5, rfl, R5, b5⟩; have HL5 : Hid (RdS w5 v5 (stR b L ⟨((m : Int) + 1), x⟩)) := R5; have HB5 : Hid (Below w.heap.size w w5) := bstep HB.out b5; clear R5 b5))
      go_roundw
      case rel => exact ⟨m, _, by omega, by omega, by go_num, HL5.out, Hn.out, HB5.out⟩
      case measure => simp [intOf]; omega
    · obtain rfl : j = pn := by omega
      have hge : ¬ (j : Int) < (j : Int) := by omega
      have hs0 : (0 : Int) ≤ (j : Int) := by omega
      have hs1 : (j : Int) ≤ 12 := by omega
      have Hn : Hid (stR b L ⟨(j : Int), r⟩ = foR b (insF l j r)) := by
        show _ = _
        rw [HE.out, ← foR_next (insF_last l j r), List.take_of_length_le (by rw [insF_length]; omega)]
      obtain ⟨hA5, hlen5⟩ := foR_in (fs := insF l j r) HI.out HF.out
      rw [← Hn.out] at hA5 hlen5
      rw [insF_length] at hlen5
      have hlen5 : (stR b L ⟨(j : Int), r⟩).length ≤ 900 := by omega
      have HA5 : Hid (InA (stR b L ⟨(j : Int), r⟩)) := hA5
      clear hA5
      go_wp2_with (first
        | (go_at_call 37; clear t0; refine (storeR_any b _ L (j : Int) r _ HL.out HA.out HI.out hs0 hs1 hlen2).mono ?_; rintro e w5 ⟨v5, rfl, R5, b5⟩; have HL5 : Hid (RdS w5 v5 (stR b L ⟨(j : Int), r⟩)) := R5; have HB5 : Hid (Below w.heap.size w w5) := bstep HB.out b5; clear R5 b5)
        | (go_at_call 38; refine (endR_any _ (stR b L ⟨(j : Int), r⟩) _ HL5.out HA5.out).mono ?_; rintro e w6 ⟨v6, rfl, R6, b6⟩; have HL6 : Hid (RdS w6 v6 (enR (stR b L ⟨(j : Int), r⟩))) := R6 hlen5; have HB6 : Hid (Below w.heap.size w w6) := bstep HB5.out b6; clear R6 b6))
      go_ret2
      exact ⟨_, by rw [E2.out]; rfl, by rw [E1.out, ← foR_put, ← Hn.out]; exact HL6.out, HB6.out⟩

set_option maxRecDepth 100000 in
set_option maxHeartbeats 4000000 in
theorem deleteR_any (b : Int) (v : Value) (l : List Int) (p : Int) (w : World) (hR : Rd w v l) : Calls Try.prog 13 #[.int .i64 b, v, .int .i64 p] w fun e w' => ∃ v', e = .returned (.tuple #[v', .int .i64 (delE b l p)]) ∧ RdS w' v' (delS b l p) ∧ Below w.heap.size w w' := by
  have HR : Hid (Rd w v l) := hR
  obtain ⟨hl, a, cap, rfl⟩ := hR.form
  clear hR
  cases e1 : ndB b
  · obtain ⟨E1, E2⟩ : Hid (delS b l p = []) ∧ Hid (delE b l p = 1) := del_no (by unfold delB; rw [mcB_my, e1]; rfl)
    go_enter Try.func13, Try.ntmps13
    go_wp2_with (first
      | (go_at_call 35; refine (nodeR_any b _).mono ?_; rintro e w' ⟨rfl, hw⟩; rw [hw, e1]; clear hw w'))
    go_ret2
    exact ⟨_, by rw [E2.out]; rfl, by rw [E1.out]; exact RdS.bare _, Below.refl _ _⟩
  cases e2 : myB l
  · obtain ⟨E1, E2⟩ : Hid (delS b l p = []) ∧ Hid (delE b l p = 1) := del_no (by unfold delB; rw [mcB_my, e1, e2]; rfl)
    go_enter Try.func13, Try.ntmps13
    go_wp2_with (first
      | (go_at_call 35; refine (nodeR_any b _).mono ?_; rintro e w' ⟨rfl, hw⟩; rw [hw, e1]; clear hw w')
      | (go_at_call 36; refine (mayR_any _ l _ HR.out).mono ?_; rintro e w' ⟨rfl, hw⟩; rw [hw, e2]; clear hw w'))
    go_ret2
    exact ⟨_, by rw [E2.out]; rfl, by rw [E1.out]; exact RdS.bare _, Below.refl _ _⟩
  by_cases h2 : p < 0
  · obtain ⟨E1, E2⟩ : Hid (delS b l p = []) ∧ Hid (delE b l p = 1) := del_no (by unfold delB hpB; rw [decide_eq_false (by omega), Bool.and_false])
    go_enter Try.func13, Try.ntmps13
    go_wp2_with (first
      | (go_at_call 35; refine (nodeR_any b _).mono ?_; rintro e w' ⟨rfl, hw⟩; rw [hw, e1]; clear hw w')
      | (go_at_call 36; refine (mayR_any _ l _ HR.out).mono ?_; rintro e w' ⟨rfl, hw⟩; rw [hw, e2]; clear hw w'))
    go_ret2
    exact ⟨_, by rw [E2.out]; rfl, by rw [E1.out]; exact RdS.bare _, Below.refl _ _⟩
  by_cases h3 : (l.length : Int) ≤ p
  · obtain ⟨E1, E2⟩ : Hid (delS b l p = []) ∧ Hid (delE b l p = 1) := del_no (by unfold delB hpB; rw [decide_eq_false (by omega), Bool.and_false])
    go_enter Try.func13, Try.ntmps13
    go_wp2_with (first
      | (go_at_call 35; refine (nodeR_any b _).mono ?_; rintro e w' ⟨rfl, hw⟩; rw [hw, e1]; clear hw w')
      | (go_at_call 36; refine (mayR_any _ l _ HR.out).mono ?_; rintro e w' ⟨rfl, hw⟩; rw [hw, e2]; clear hw w'))
    go_ret2
    exact ⟨_, by rw [E2.out]; rfl, by rw [E1.out]; exact RdS.bare _, Below.refl _ _⟩
  have em : mcB b l = true := by rw [mcB_my, e1, e2]; rfl
  obtain ⟨hnd, h13, _⟩ := mcB_out em
  obtain ⟨pn, rfl⟩ : ∃ pn : Nat, p = (pn : Int) := ⟨p.toNat, by omega⟩
  have hpn : pn < l.length := by omega
  obtain ⟨E1, E2⟩ : Hid (delS b l (pn : Int) = putS b (delF l pn)) ∧ Hid (delE b l (pn : Int) = 0) := del_yes (by unfold delB hpB; rw [em, decide_eq_true (by omega)]; rfl)
  have HI : Hid (ndB b = true) := hnd
  have HF : Hid (∀ f ∈ delF l pn, 0 ≤ f.s ∧ f.s ≤ 12) := delF_slots h13
  obtain ⟨n1, hn1⟩ : ∃ n1 : Nat, l.length = n1 + 1 := ⟨l.length - 1, by omega⟩
  have Hn1 : Hid (l.length = n1 + 1) := hn1
  have hnI : (l.length : Int) - 1 = (n1 : Int) := by omega
  clear hnd em hn1
  have d2 : decide ((pn : Int) < 0) = false := decide_eq_false (by omega)
  have d3 : decide (l.length ≤ pn) = false := decide_eq_false (by omega)
  have d4 : decide ((l.length : Int) ≤ (pn : Int)) = false := decide_eq_false (by omega)
  go_enter Try.func13, Try.ntmps13
  go_wp2_with (first
    | (go_at_call 35; refine (nodeR_any b _).mono ?_; rintro e w' ⟨rfl, hw⟩; rw [hw, e1]; clear hw w')
    | (go_at_call 36; refine (mayR_any _ l _ HR.out).mono ?_; rintro e w' ⟨rfl, hw⟩; rw [hw, e2]; clear hw w'))
  go_loopw [8, 9] (fun o i w1 => ∃ (j : Nat) (L : List Mi), pn ≤ j ∧ j ≤ n1 ∧ i = .int .i64 j ∧ RdS w1 o L ∧ L = foR b ((delF l pn).take (j - pn)) ∧ Below w.heap.size w w1) (fun _ i _ => n1 - (intOf i).toNat)
  case atStart => exact ⟨pn, [], Nat.le_refl _, by have := Hn1.out; omega, rfl, RdS.bare _, by rw [Nat.sub_self]; rfl, Below.refl _ _⟩
  case round =>
    obtain ⟨j, L, hj1, hj2, rfl, hO, hE, hB⟩ := hrel
    have hn2 := Hn1.out
    have hsz : w.heap.size ≤ wr.heap.size := hB.size
    have HB : Hid (Below w.heap.size w wr) := hB
    have HL : Hid (RdS wr _ L) := hO
    have HE : Hid (L = foR b ((delF l pn).take (j - pn))) := hE
    obtain ⟨hA, hlen⟩ := foR_in (fs := (delF l pn).take (j - pn)) HI.out (fun f hf => HF.out f (List.mem_of_mem_take hf))
    rw [← hE] at hA hlen
    rw [List.length_take, delF_length] at hlen
    have HA : Hid (InA L) := hA
    have hlen2 : L.length ≤ 100 := by omega
    clear hO hB hE hA hlen
    have t0 : Hid (0 = 0) := rfl
    by_cases hlt : j < n1
    · have hltI : (j : Int) < (n1 : Int) := by omega
      have hjl : j + 1 < l.length := by omega
      have hjI2 : (j : Int) + 1 < (l.length : Int) := by omega
      obtain ⟨blk, off, rfl, hc⟩ := (HR.out.below HB.out).at (j + 1) hjl
      have Hx : Hid (l[j + 1]? = some l[j + 1]) := List.getElem?_eq_getElem hjl
      generalize l[j + 1] = x at *
      have hs0 : (0 : Int) ≤ (j : Int) := by omega
      have hs1 : (j : Int) ≤ 12 := by omega
      have Hn : Hid (stR b L ⟨(j : Int), x⟩ = foR b ((delF l pn).take (j + 1 - pn))) := by
        show _ = _
        have e := delF_get (l := l) (p := pn) (j := j - pn) (by omega)
        rw [show pn + (j - pn) = j from by omega, getD_at Hx.out] at e
        rw [show j + 1 - pn = j - pn + 1 from by omega, foR_next e, HE.out]
      clear hn2
      go_wp2_with (first
        | (go_at_call 37; clear t0; refine (storeR_any b _ L (j : Int) x _ HL.out HA.out HI.out hs0 hs1 hlen2).mono ?_; rintro e w5 ⟨v5, rfl, R5, b5⟩; have HL5 : Hid (RdS w5 v5 (stR b L ⟨(j : Int), x⟩)) := R5; have HB5 : Hid (Below w.heap.size w w5) := bstep HB.out b5; clear R5 b5))
      go_roundw
      case rel => exact ⟨j + 1, _, by omega, by omega, by go_num, HL5.out, Hn.out, HB5.out⟩
      case measure => simp [intOf]; omega
    · obtain rfl : j = n1 := by omega
      have hge : ¬ (j : Int) < (j : Int) := by omega
      have hs0 : (0 : Int) ≤ (j : Int) := by omega
      have hs1 : (j : Int) ≤ 12 := by omega
      have Hn : Hid (stR b L ⟨(j : Int), 0⟩ = foR b (delF l pn)) := by
        show _ = _
        have e := delF_get (l := l) (p := pn) (j := j - pn) (by omega)
        rw [show pn + (j - pn) = j from by omega, getD_far (by omega)] at e
        rw [HE.out, ← foR_next e, List.take_of_length_le (by rw [delF_length]; omega)]
      obtain ⟨hA5, hlen5⟩ := foR_in (fs := delF l pn) HI.out HF.out
      rw [← Hn.out] at hA5 hlen5
      rw [delF_length] at hlen5
      have hlen5 : (stR b L ⟨(j : Int), 0⟩).length ≤ 900 := by omega
      have HA5 : Hid (InA (stR b L ⟨(j : Int), 0⟩)) := hA5
      clear hA5 hn2
      go_wp2_with (first
        | (go_at_call 37; clear t0; refine (storeR_any b _ L (j : Int) 0 _ HL.out HA.out HI.out hs0 hs1 hlen2).mono ?_; rintro e w5 ⟨v5, rfl, R5, b5⟩; have HL5 : Hid (RdS w5 v5 (stR b L ⟨(j : Int), 0⟩)) := R5; have HB5 : Hid (Below w.heap.size w w5) := bstep HB.out b5; clear R5 b5)
        | (go_at_call 38; refine (endR_any _ (stR b L ⟨(j : Int), 0⟩) _ HL5.out HA5.out).mono ?_; rintro e w6 ⟨v6, rfl, R6, b6⟩; have HL6 : Hid (RdS w6 v6 (enR (stR b L ⟨(j : Int), 0⟩))) := R6 hlen5; have HB6 : Hid (Below w.heap.size w w6) := bstep HB5.out b6; clear R6 b6))
      go_ret2
      exact ⟨_, by rw [E2.out]; rfl, by rw [E1.out, ← foR_put, ← Hn.out]; exact HL6.out, HB6.out⟩

set_option maxRecDepth 100000 in
set_option maxHeartbeats 4000000 in
theorem swapR_any (b : Int) (v : Value) (l : List Int) (p r : Int) (w : World) (hR : Rd w v l) : Calls Try.prog 15 #[.int .i64 b, v, .int .i64 p, .int .i64 r] w fun e w' => ∃ v', e = .returned (.tuple #[v', .int .i64 (swpE b l p r)]) ∧ RdS w' v' (swpS b l p r) ∧ Below w.heap.size w w' := by
  have HR : Hid (Rd w v l) := hR
  obtain ⟨hl, a, cap, rfl⟩ := hR.form
  clear hR
  cases e1 : ndB b
  · obtain ⟨E1, E2⟩ : Hid (swpS b l p r = []) ∧ Hid (swpE b l p r = 1) := swp_no (by unfold swpB; rw [mcB_my, e1]; rfl)
    go_enter Try.func15, Try.ntmps15
    go_wp2_with (first
      | (go_at_call 35; refine (nodeR_any b _).mono ?_; rintro e w' ⟨rfl, hw⟩; rw [hw, e1]; clear hw w'))
    go_ret2
    exact ⟨_, by rw [E2.out]; rfl, by rw [E1.out]; exact RdS.bare _, Below.refl _ _⟩
  cases e2 : myB l
  · obtain ⟨E1, E2⟩ : Hid (swpS b l p r = []) ∧ Hid (swpE b l p r = 1) := swp_no (by unfold swpB; rw [mcB_my, e1, e2]; rfl)
    go_enter Try.func15, Try.ntmps15
    go_wp2_with (first
      | (go_at_call 35; refine (nodeR_any b _).mono ?_; rintro e w' ⟨rfl, hw⟩; rw [hw, e1]; clear hw w')
      | (go_at_call 36; refine (mayR_any _ l _ HR.out).mono ?_; rintro e w' ⟨rfl, hw⟩; rw [hw, e2]; clear hw w'))
    go_ret2
    exact ⟨_, by rw [E2.out]; rfl, by rw [E1.out]; exact RdS.bare _, Below.refl _ _⟩
  by_cases h1 : r ≤ 0
  · obtain ⟨E1, E2⟩ : Hid (swpS b l p r = []) ∧ Hid (swpE b l p r = 1) := swp_no (by unfold swpB; rw [decide_eq_false (by omega), Bool.and_false, Bool.and_false])
    go_enter Try.func15, Try.ntmps15
    go_wp2_with (first
      | (go_at_call 35; refine (nodeR_any b _).mono ?_; rintro e w' ⟨rfl, hw⟩; rw [hw, e1]; clear hw w')
      | (go_at_call 36; refine (mayR_any _ l _ HR.out).mono ?_; rintro e w' ⟨rfl, hw⟩; rw [hw, e2]; clear hw w'))
    go_ret2
    exact ⟨_, by rw [E2.out]; rfl, by rw [E1.out]; exact RdS.bare _, Below.refl _ _⟩
  by_cases h2 : p < 0
  · obtain ⟨E1, E2⟩ : Hid (swpS b l p r = []) ∧ Hid (swpE b l p r = 1) := swp_no (by unfold swpB hpB; rw [decide_eq_false (by omega), Bool.false_and, Bool.and_false])
    go_enter Try.func15, Try.ntmps15
    go_wp2_with (first
      | (go_at_call 35; refine (nodeR_any b _).mono ?_; rintro e w' ⟨rfl, hw⟩; rw [hw, e1]; clear hw w')
      | (go_at_call 36; refine (mayR_any _ l _ HR.out).mono ?_; rintro e w' ⟨rfl, hw⟩; rw [hw, e2]; clear hw w'))
    go_ret2
    exact ⟨_, by rw [E2.out]; rfl, by rw [E1.out]; exact RdS.bare _, Below.refl _ _⟩
  by_cases h3 : (l.length : Int) ≤ p
  · obtain ⟨E1, E2⟩ : Hid (swpS b l p r = []) ∧ Hid (swpE b l p r = 1) := swp_no (by unfold swpB hpB; rw [decide_eq_false (by omega), Bool.false_and, Bool.and_false])
    go_enter Try.func15, Try.ntmps15
    go_wp2_with (first
      | (go_at_call 35; refine (nodeR_any b _).mono ?_; rintro e w' ⟨rfl, hw⟩; rw [hw, e1]; clear hw w')
      | (go_at_call 36; refine (mayR_any _ l _ HR.out).mono ?_; rintro e w' ⟨rfl, hw⟩; rw [hw, e2]; clear hw w'))
    go_ret2
    exact ⟨_, by rw [E2.out]; rfl, by rw [E1.out]; exact RdS.bare _, Below.refl _ _⟩
  have em : mcB b l = true := by rw [mcB_my, e1, e2]; rfl
  obtain ⟨hnd, h13, _⟩ := mcB_out em
  obtain ⟨E1, E2⟩ : Hid (swpS b l p r = putS b [⟨p, r⟩]) ∧ Hid (swpE b l p r = 0) := swp_yes (by unfold swpB hpB; rw [em, decide_eq_true (by omega), decide_eq_true (by omega)]; rfl)
  have HI : Hid (ndB b = true) := hnd
  have hs0 : 0 ≤ p := by omega
  have hs1 : p ≤ 12 := by omega
  have HA : Hid (InA []) := fun x hx => by cases hx
  have hlen2 : ([] : List Mi).length ≤ 100 := by simp
  have HL : Hid (RdS w (.slice none 0 0) []) := RdS.bare _
  have HB : Hid (Below w.heap.size w w) := Below.refl _ _
  obtain ⟨hA5, hlen5⟩ := foR_in (b := b) (fs := [⟨p, r⟩]) hnd (by intro f hf; rw [List.mem_singleton.1 hf]; exact ⟨hs0, hs1⟩)
  have hlen5 : (stR b [] ⟨p, r⟩).length ≤ 900 := by (have e : (stR b [] ⟨p, r⟩).length ≤ 2 := hlen5; omega)
  have HA5 : Hid (InA (stR b [] ⟨p, r⟩)) := hA5
  clear hnd em hA5
  have t0 : Hid (0 = 0) := rfl
  go_enter Try.func15, Try.ntmps15
  go_wp2_with (first
    | (go_at_call 35; refine (nodeR_any b _).mono ?_; rintro e w' ⟨rfl, hw⟩; rw [hw, e1]; clear hw w')
    | (go_at_call 36; refine (mayR_any _ l _ HR.out).mono ?_; rintro e w' ⟨rfl, hw⟩; rw [hw, e2]; clear hw w')
    | (go_at_call 37; clear t0; refine (storeR_any b _ [] p r _ HL.out HA.out HI.out hs0 hs1 hlen2).mono ?_; rintro e w5 ⟨v5, rfl, R5, b5⟩; have HL5 : Hid (RdS w5 v5 (stR b [] ⟨p, r⟩)) := R5; have HB5 : Hid (Below w.heap.size w w5) := bstep HB.out b5; clear R5 b5)
    | (go_at_call 38; refine (endR_any _ (stR b [] ⟨p, r⟩) _ HL5.out HA5.out).mono ?_; rintro e w6 ⟨v6, rfl, R6, b6⟩; have HL6 : Hid (RdS w6 v6 (enR (stR b [] ⟨p, r⟩))) := R6 hlen5; have HB6 : Hid (Below w.heap.size w w6) := bstep HB5.out b6; clear R6 b6))
  go_ret2
  exact ⟨_, by rw [E2.out]; rfl, by rw [E1.out, ← foR_put]; exact HL6.out, HB6.out⟩

set_option maxRecDepth 100000 in
set_option maxHeartbeats 4000000 in
theorem cutR_any (b : Int) (v : Value) (l : List Int) (c : Int) (w : World) (hR : Rd w v l) : Calls Try.prog 17 #[.int .i64 b, v, .int .i64 c] w fun e w' => ∃ v', e = .returned (.tuple #[v', .int .i64 (cutE b l c)]) ∧ RdS w' v' (cutS b l c) ∧ Below w.heap.size w w' := by
  have HR : Hid (Rd w v l) := hR
  obtain ⟨hl, a, cap, rfl⟩ := hR.form
  clear hR
  cases e1 : ndB b
  · obtain ⟨E1, E2⟩ : Hid (cutS b l c = []) ∧ Hid (cutE b l c = 1) := cut_no (by unfold cutB; rw [mcB_my, e1]; rfl)
    go_enter Try.func17, Try.ntmps17
    go_wp2_with (first
      | (go_at_call 35; refine (nodeR_any b _).mono ?_; rintro e w' ⟨rfl, hw⟩; rw [hw, e1]; clear hw w'))
    go_ret2
    exact ⟨_, by rw [E2.out]; rfl, by rw [E1.out]; exact RdS.bare _, Below.refl _ _⟩
  cases e2 : myB l
  · obtain ⟨E1, E2⟩ : Hid (cutS b l c = []) ∧ Hid (cutE b l c = 1) := cut_no (by unfold cutB; rw [mcB_my, e1, e2]; rfl)
    go_enter Try.func17, Try.ntmps17
    go_wp2_with (first
      | (go_at_call 35; refine (nodeR_any b _).mono ?_; rintro e w' ⟨rfl, hw⟩; rw [hw, e1]; clear hw w')
      | (go_at_call 36; refine (mayR_any _ l _ HR.out).mono ?_; rintro e w' ⟨rfl, hw⟩; rw [hw, e2]; clear hw w'))
    go_ret2
    exact ⟨_, by rw [E2.out]; rfl, by rw [E1.out]; exact RdS.bare _, Below.refl _ _⟩
  by_cases h2 : c < 0
  · obtain ⟨E1, E2⟩ : Hid (cutS b l c = []) ∧ Hid (cutE b l c = 1) := cut_no (by unfold cutB; rw [decide_eq_false (by omega), Bool.and_false])
    go_enter Try.func17, Try.ntmps17
    go_wp2_with (first
      | (go_at_call 35; refine (nodeR_any b _).mono ?_; rintro e w' ⟨rfl, hw⟩; rw [hw, e1]; clear hw w')
      | (go_at_call 36; refine (mayR_any _ l _ HR.out).mono ?_; rintro e w' ⟨rfl, hw⟩; rw [hw, e2]; clear hw w'))
    go_ret2
    exact ⟨_, by rw [E2.out]; rfl, by rw [E1.out]; exact RdS.bare _, Below.refl _ _⟩
  by_cases h3 : (l.length : Int) < c
  · obtain ⟨E1, E2⟩ : Hid (cutS b l c = []) ∧ Hid (cutE b l c = 1) := cut_no (by unfold cutB; rw [decide_eq_false (by omega), Bool.and_false])
    go_enter Try.func17, Try.ntmps17
    go_wp2_with (first
      | (go_at_call 35; refine (nodeR_any b _).mono ?_; rintro e w' ⟨rfl, hw⟩; rw [hw, e1]; clear hw w')
      | (go_at_call 36; refine (mayR_any _ l _ HR.out).mono ?_; rintro e w' ⟨rfl, hw⟩; rw [hw, e2]; clear hw w'))
    go_ret2
    exact ⟨_, by rw [E2.out]; rfl, by rw [E1.out]; exact RdS.bare _, Below.refl _ _⟩
  have em : mcB b l = true := by rw [mcB_my, e1, e2]; rfl
  obtain ⟨hnd, h13, _⟩ := mcB_out em
  obtain ⟨cn, rfl⟩ : ∃ cn : Nat, c = (cn : Int) := ⟨c.toNat, by omega⟩
  have hcn : cn ≤ l.length := by omega
  obtain ⟨E1, E2⟩ : Hid (cutS b l (cn : Int) = putS b (cutF l cn)) ∧ Hid (cutE b l (cn : Int) = 0) := cut_yes (by unfold cutB; rw [em, decide_eq_true (by omega)]; rfl)
  have HI : Hid (ndB b = true) := hnd
  have HF : Hid (∀ f ∈ cutF l cn, 0 ≤ f.s ∧ f.s ≤ 12) := cutF_slots h13
  clear hnd em
  have d2 : decide ((cn : Int) < 0) = false := decide_eq_false (by omega)
  have d3 : decide (l.length < cn) = false := decide_eq_false (by omega)
  have d4 : decide ((l.length : Int) < (cn : Int)) = false := decide_eq_false (by omega)
  go_enter Try.func17, Try.ntmps17
  go_wp2_with (first
    | (go_at_call 35; refine (nodeR_any b _).mono ?_; rintro e w' ⟨rfl, hw⟩; rw [hw, e1]; clear hw w')
    | (go_at_call 36; refine (mayR_any _ l _ HR.out).mono ?_; rintro e w' ⟨rfl, hw⟩; rw [hw, e2]; clear hw w'))
  go_loopw [8, 9] (fun o i w1 => ∃ (j : Nat) (L : List Mi), cn ≤ j ∧ j ≤ l.length ∧ i = .int .i64 ((j : Int) - 1) ∧ RdS w1 o L ∧ L = foR b ((cutF l cn).take (l.length - j)) ∧ Below w.heap.size w w1) (fun _ i _ => (intOf i + 1).toNat - cn)
  case atStart => exact ⟨l.length, [], hcn, Nat.le_refl _, rfl, RdS.bare _, by rw [Nat.sub_self]; rfl, Below.refl _ _⟩
  case round =>
    obtain ⟨j, L, hj1, hj2, rfl, hO, hE, hB⟩ := hrel
    have hsz : w.heap.size ≤ wr.heap.size := hB.size
    have HB : Hid (Below w.heap.size w wr) := hB
    have HL : Hid (RdS wr _ L) := hO
    have HE : Hid (L = foR b ((cutF l cn).take (l.length - j))) := hE
    obtain ⟨hA, hlen⟩ := foR_in (fs := (cutF l cn).take (l.length - j)) HI.out (fun f hf => HF.out f (List.mem_of_mem_take hf))
    rw [← hE] at hA hlen
    rw [List.length_take, cutF_length] at hlen
    have HA : Hid (InA L) := hA
    have hlen2 : L.length ≤ 100 := by omega
    clear hO hB hE hA hlen
    have t0 : Hid (0 = 0) := rfl
    by_cases hlt : cn < j
    · obtain ⟨m, rfl⟩ : ∃ m, j = m + 1 := ⟨j - 1, by omega⟩
      have hcast : ((m + 1 : Nat) : Int) - 1 = (m : Int) := by omega
      rw [hcast]
      have hltI : (cn : Int) ≤ (m : Int) := by omega
      have hs0 : (0 : Int) ≤ (m : Int) := by omega
      have hs1 : (m : Int) ≤ 12 := by omega
      have Hn : Hid (stR b L ⟨(m : Int), 0⟩ = foR b ((cutF l cn).take (l.length - m))) := by
        show _ = _
        have e := cutF_get (l := l) (c := cn) (j := l.length - (m + 1)) (by omega)
        rw [show l.length - 1 - (l.length - (m + 1)) = m from by omega] at e
        rw [show l.length - m = l.length - (m + 1) + 1 from by omega, foR_next e, HE.out]
      clear hcast
      go_wp2_with (first
        | (go_at_call 37; clear t0; refine (storeR_any b _ L (m : Int) 0 _ HL.out HA.out HI.out hs0 hs1 hlen2).mono ?_; rintro e w5 ⟨v5, rfl, R5, b5⟩; have HL5 : Hid (RdS w5 v5 (stR b L ⟨(m : Int), 0⟩)) := R5; have HB5 : Hid (Below w.heap.size w w5) := bstep HB.out b5; clear R5 b5))
      go_roundw
      case rel => exact ⟨m, _, by omega, by omega, by go_num, HL5.out, Hn.out, HB5.out⟩
      case measure => simp [intOf]; omega
    · obtain rfl : j = cn := by omega
      have hge : ¬ (j : Int) ≤ (j : Int) - 1 := by omega
      have HL5 : Hid (RdS wr _ L) := HL.out
      have HB5 : Hid (Below w.heap.size w wr) := HB.out
      have hlen9 : L.length ≤ 900 := by omega
      have Hn : Hid (L = foR b (cutF l j)) := by
        show _ = _
        rw [HE.out, List.take_of_length_le (by rw [cutF_length]; omega)]
      go_wp2_with (first
        | (go_at_call 38; refine (endR_any _ L _ HL5.out HA.out).mono ?_; rintro e w6 ⟨v6, rfl, R6, b6⟩; have HL6 : Hid (RdS w6 v6 (enR L)) := R6 hlen9; have HB6 : Hid (Below w.heap.size w w6) := bstep HB5.out b6; clear R6 b6))
      go_ret2
      exact ⟨_, by rw [E2.out]; rfl, by rw [E1.out, ← foR_put, ← Hn.out]; exact HL6.out, HB6.out⟩
end Go.Proofs.Ytoboiahknapddaa
