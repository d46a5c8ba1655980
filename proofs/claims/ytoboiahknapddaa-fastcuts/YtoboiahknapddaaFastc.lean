/- Walks of layer 6: Insert, Delete, Swap, Cut. -/
import Derived.Test.YtoboiahknapddaaFastb
import Derived.Test.YtoboiahknapddaaWalkp
namespace Go.Proofs.Ytoboiahknapddaa
open Go.RowKit Go.Shelf
set_option linter.unusedVariables false

/-- What they tell: the steps, and the error. -/
def insB (b : Int) (l : List Int) (p r : Int) : Bool := mcB b l && decide (0 < r ∧ 0 ≤ p ∧ p ≤ (l.length : Int))
def insS (b : Int) (l : List Int) (p r : Int) : List Mi := if insB b l p r && decide (l.length ≠ 13) then putS b (insF l p.toNat r) else []
def insE (b : Int) (l : List Int) (p r : Int) : Int := if insB b l p r then (if l.length = 13 then 100 else 0) else 1
def delB (b : Int) (l : List Int) (p : Int) : Bool := mcB b l && hpB l p
def delS (b : Int) (l : List Int) (p : Int) : List Mi := if delB b l p then putS b (delF l p.toNat) else []
def delE (b : Int) (l : List Int) (p : Int) : Int := if delB b l p then 0 else 1
def swpB (b : Int) (l : List Int) (p r : Int) : Bool := mcB b l && (hpB l p && decide (0 < r))
def swpS (b : Int) (l : List Int) (p r : Int) : List Mi := if swpB b l p r then putS b [⟨p, r⟩] else []
def swpE (b : Int) (l : List Int) (p r : Int) : Int := if swpB b l p r then 0 else 1
def cutB (b : Int) (l : List Int) (c : Int) : Bool := mcB b l && decide (0 ≤ c ∧ c ≤ (l.length : Int))
def cutS (b : Int) (l : List Int) (c : Int) : List Mi := if cutB b l c then putS b (cutF l c.toNat) else []
def cutE (b : Int) (l : List Int) (c : Int) : Int := if cutB b l c then 0 else 1
theorem ins_no {b : Int} {l : List Int} {p r : Int} (h : ¬ (mcB b l = true ∧ 0 < r ∧ 0 ≤ p ∧ p ≤ (l.length : Int))) : insS b l p r = [] ∧ insE b l p r = 1 := by
  have e : insB b l p r = false := by
    unfold insB
    cases e1 : mcB b l
    · rfl
    · exact decide_eq_false fun k => h ⟨e1, k⟩
  exact ⟨by unfold insS; rw [e]; rfl, by unfold insE; rw [e]; rfl⟩
theorem insB_yes {b : Int} {l : List Int} {p r : Int} (h : mcB b l = true) (h1 : 0 < r) (h2 : 0 ≤ p) (h3 : p ≤ (l.length : Int)) : insB b l p r = true := by
  unfold insB; rw [h, decide_eq_true ⟨h1, h2, h3⟩]; rfl
theorem ins_full {b : Int} {l : List Int} {p r : Int} (h : insB b l p r = true) (h1 : l.length = 13) : insS b l p r = [] ∧ insE b l p r = 100 :=
  ⟨by unfold insS; rw [decide_eq_false (fun k => k h1), Bool.and_false]; rfl, by unfold insE; rw [h, if_pos h1]; rfl⟩
theorem ins_yes {b : Int} {l : List Int} {p r : Int} (h : insB b l p r = true) (h1 : l.length ≠ 13) : insS b l p r = putS b (insF l p.toNat r) ∧ insE b l p r = 0 :=
  ⟨by unfold insS; rw [h, decide_eq_true h1]; rfl, by unfold insE; rw [h, if_neg h1]; rfl⟩
theorem del_no {b : Int} {l : List Int} {p : Int} (h : delB b l p = false) : delS b l p = [] ∧ delE b l p = 1 := ⟨by unfold delS; rw [h]; rfl, by unfold delE; rw [h]; rfl⟩
theorem del_yes {b : Int} {l : List Int} {p : Int} (h : delB b l p = true) : delS b l p = putS b (delF l p.toNat) ∧ delE b l p = 0 := ⟨by unfold delS; rw [h]; rfl, by unfold delE; rw [h]; rfl⟩
theorem swp_no {b : Int} {l : List Int} {p r : Int} (h : swpB b l p r = false) : swpS b l p r = [] ∧ swpE b l p r = 1 := ⟨by unfold swpS; rw [h]; rfl, by unfold swpE; rw [h]; rfl⟩
theorem swp_yes {b : Int} {l : List Int} {p r : Int} (h : swpB b l p r = true) : swpS b l p r = putS b [⟨p, r⟩] ∧ swpE b l p r = 0 := ⟨by unfold swpS; rw [h]; rfl, by unfold swpE; rw [h]; rfl⟩
theorem cut_no {b : Int} {l : List Int} {c : Int} (h : cutB b l c = false) : cutS b l c = [] ∧ cutE b l c = 1 := ⟨by unfold cutS; rw [h]; rfl, by unfold cutE; rw [h]; rfl⟩
theorem cut_yes {b : Int} {l : List Int} {c : Int} (h : cutB b l c = true) : cutS b l c = putS b (cutF l c.toNat) ∧ cutE b l c = 0 := ⟨by unfold cutS; rw [h]; rfl, by unfold cutE; rw [h]; rfl⟩
theorem RdS.bare (W : World) : RdS W (.slice none 0 0) [] := ⟨rfl, by simp, none, 0, rfl, Nat.le_refl _, .inl ⟨rfl, fun _ => rfl⟩⟩
theorem getD_at {l : List Int} {k : Nat} {x : Int} (h : l[k]? = some x) : l.getD k 0 = x := by rw [List.getD_eq_getElem?_getD, h]; rfl

set_option maxRecDepth 100000 in
set_option maxHeartbeats 2000000 in
theorem insert_any (b : Int) (v : Value) (l : List Int) (p r : Int) (w : World) (hR : Rd w v l) : Calls Try.prog 10 #[.int .i64 b, v, .int .i64 p, .int .i64 r] w fun e w' => ∃ v', e = .returned (.tuple #[v', .int .i64 (insE b l p r)]) ∧ RdS w' v' (insS b l p r) ∧ Below w.heap.size w w' := by
  have HR : Hid (Rd w v l) := hR
  obtain ⟨hl, a, cap, rfl⟩ := hR.form
  clear hR
  cases e1 : mcB b l
  · obtain ⟨E1, E2⟩ : Hid (insS b l p r = []) ∧ Hid (insE b l p r = 1) := ins_no (by rw [e1]; simp)
    go_enter Try.func10, Try.ntmps10
    go_wp2_with (first
      | (go_at_call 33; refine (mayChange_any b _ l _ HR.out).mono ?_; rintro e w' ⟨rfl, hw⟩; rw [hw, e1]; clear hw w'))
    go_ret2
    exact ⟨_, by rw [E2.out]; rfl, by rw [E1.out]; exact RdS.bare _, Below.refl _ _⟩
  by_cases h1 : r ≤ 0
  · obtain ⟨E1, E2⟩ : Hid (insS b l p r = []) ∧ Hid (insE b l p r = 1) := ins_no (by omega)
    go_enter Try.func10, Try.ntmps10
    go_wp2_with (first
      | (go_at_call 33; refine (mayChange_any b _ l _ HR.out).mono ?_; rintro e w' ⟨rfl, hw⟩; rw [hw, e1]; clear hw w'))
    go_ret2
    exact ⟨_, by rw [E2.out]; rfl, by rw [E1.out]; exact RdS.bare _, Below.refl _ _⟩
  by_cases h2 : p < 0
  · obtain ⟨E1, E2⟩ : Hid (insS b l p r = []) ∧ Hid (insE b l p r = 1) := ins_no (by omega)
    go_enter Try.func10, Try.ntmps10
    go_wp2_with (first
      | (go_at_call 33; refine (mayChange_any b _ l _ HR.out).mono ?_; rintro e w' ⟨rfl, hw⟩; rw [hw, e1]; clear hw w'))
    go_ret2
    exact ⟨_, by rw [E2.out]; rfl, by rw [E1.out]; exact RdS.bare _, Below.refl _ _⟩
  by_cases h3 : (l.length : Int) < p
  · obtain ⟨E1, E2⟩ : Hid (insS b l p r = []) ∧ Hid (insE b l p r = 1) := ins_no (by omega)
    go_enter Try.func10, Try.ntmps10
    go_wp2_with (first
      | (go_at_call 33; refine (mayChange_any b _ l _ HR.out).mono ?_; rintro e w' ⟨rfl, hw⟩; rw [hw, e1]; clear hw w'))
    go_ret2
    exact ⟨_, by rw [E2.out]; rfl, by rw [E1.out]; exact RdS.bare _, Below.refl _ _⟩
  have eB : insB b l p r = true := insB_yes e1 (by omega) (by omega) (by omega)
  obtain ⟨hnd, h13, _⟩ := mcB_out e1
  by_cases h4 : ((l.length : Int) == 13) = true
  · obtain ⟨E1, E2⟩ : Hid (insS b l p r = []) ∧ Hid (insE b l p r = 100) := ins_full eB (by simp at h4; omega)
    clear eB
    go_enter Try.func10, Try.ntmps10
    go_wp2_with (first
      | (go_at_call 33; refine (mayChange_any b _ l _ HR.out).mono ?_; rintro e w' ⟨rfl, hw⟩; rw [hw, e1]; clear hw w'))
    go_ret2
    exact ⟨_, by rw [E2.out]; rfl, by rw [E1.out]; exact RdS.bare _, Below.refl _ _⟩
  have h4 : ((l.length : Int) == 13) = false := by simpa using h4
  have h12 : l.length ≤ 12 := by simp at h4; omega
  obtain ⟨pn, rfl⟩ : ∃ pn : Nat, p = (pn : Int) := ⟨p.toNat, by omega⟩
  have hpn : pn ≤ l.length := by omega
  obtain ⟨E1, E2⟩ : Hid (insS b l (pn : Int) r = putS b (insF l pn r)) ∧ Hid (insE b l (pn : Int) r = 0) := ins_yes eB (by omega)
  clear eB
  have HI : Hid (ndB b = true) := hnd
  have HF : Hid (∀ f ∈ insF l pn r, 0 ≤ f.s ∧ f.s ≤ 12) := insF_slots h12 hpn
  clear hnd
  have d1 : decide (r ≤ 0) = false := decide_eq_false (by omega)
  have d2 : decide ((pn : Int) < 0) = false := decide_eq_false (by omega)
  have d3 : decide (l.length < pn) = false := decide_eq_false (by omega)
  have d4 : decide ((l.length : Int) < (pn : Int)) = false := decide_eq_false (by omega)
  go_enter Try.func10, Try.ntmps10
  go_wp2_with (first
    | (go_at_call 33; refine (mayChange_any b _ l _ HR.out).mono ?_; rintro e w' ⟨rfl, hw⟩; rw [hw, e1]; clear hw w'))
  go_loopw [10, 38] (fun o i w1 => ∃ (k : Nat) (L : List Fl), k ≤ l.length - pn ∧ i = .int .i64 k ∧ OwnF w1 w.heap.size o L ∧ L = (insF l pn r).take k ∧ Below w.heap.size w w1) (fun _ i _ => l.length - pn - (intOf i).toNat)
  case atStart => exact ⟨0, [], Nat.zero_le _, rfl, OwnF.bare _ _, rfl, Below.refl _ _⟩
  case round =>
    obtain ⟨k, L, hk, rfl, hO, hE, hB⟩ := hrel
    have hsz : w.heap.size ≤ wr.heap.size := hB.size
    have HB : Hid (Below w.heap.size w wr) := hB
    have HO : Hid (OwnF wr w.heap.size _ L) := hO
    have HE : Hid (L = (insF l pn r).take k) := hE
    have hlen : L.length ≤ 13 := by rw [hE, List.length_take, insF_length]; omega
    clear hO hB hE
    by_cases hlt : k < l.length - pn
    · have hltI : (k : Int) < (l.length : Int) - (pn : Int) := by omega
      obtain ⟨j, hj⟩ : ∃ j : Nat, l.length - k = j + 1 := ⟨l.length - k - 1, by omega⟩
      have hjI : (l.length : Int) - (k : Int) = (j : Int) + 1 := by omega
      have hjl : j < l.length := by omega
      have hjI2 : (j : Int) < (l.length : Int) := by omega
      obtain ⟨blk, off, rfl, hc⟩ := (HR.out.below HB.out).at j hjl
      have Hx : Hid (l[j]? = some l[j]) := List.getElem?_eq_getElem hjl
      generalize l[j] = x at *
      have Hn : Hid (L ++ [⟨(j : Int) + 1, x⟩] = (insF l pn r).take (k + 1)) := by
        show _ = _
        rw [HE.out, take_next (insF_get hlt), hj, Nat.add_sub_cancel, getD_at Hx.out]
        rfl
      have t0 : Hid (0 = 0) := rfl
      clear hj
      go_wp2_with (first
        | (at_builtin; clear t0; refine append_f1 rfl _ _ rfl w.heap.size _ L ⟨(j : Int) + 1, x⟩ HO.out (by omega) hsz rfl rfl wr.heap.size rfl rfl ?_; intro g5 c5 w5 o5 b5; have HO5 : Hid (OwnF w5 w.heap.size _ (L ++ [⟨(j : Int) + 1, x⟩])) := o5; have HB5 : Hid (Below w.heap.size w w5) := HB.out.trans b5; clear o5 b5))
      go_roundw
      case rel => exact ⟨k + 1, _, by omega, by go_num, HO5.out, Hn.out, HB5.out⟩
      case measure => simp [intOf]; omega
    · have hge : ¬ (k : Int) < (l.length : Int) - (pn : Int) := by omega
      have Hn : Hid (L ++ [⟨(pn : Int), r⟩] = insF l pn r) := by
        show _ = _
        rw [HE.out, show k = l.length - pn from by omega, ← take_next (insF_last l pn r), List.take_of_length_le (by rw [insF_length]; omega)]
      have hlen2 : (insF l pn r).length ≤ 100 := by rw [insF_length]; omega
      have t0 : Hid (0 = 0) := rfl
      go_wp2_with (first
        | (at_builtin; clear t0; refine append_f1 rfl _ _ rfl w.heap.size _ L ⟨(pn : Int), r⟩ HO.out (by omega) hsz rfl rfl wr.heap.size rfl rfl ?_; intro g5 c5 w5 o5 b5; have HO5 : Hid (OwnF w5 w.heap.size _ (insF l pn r)) := (by rw [← Hn.out]; exact o5); have HB5 : Hid (Below w.heap.size w w5) := HB.out.trans b5; clear o5 b5)
        | (go_at_call 34; refine (put_fast b _ (insF l pn r) _ HI.out HF.out hlen2 (HO5.out.rd (by omega))).mono ?_; rintro e w6 ⟨v6, rfl, R6, b6⟩; have HR6 : Hid (RdS w6 v6 (putS b (insF l pn r))) := R6; have HB6 : Hid (Below w.heap.size w w6) := bstep HB5.out b6; clear R6 b6))
      go_ret2
      exact ⟨_, by rw [E2.out]; rfl, by rw [E1.out]; exact HR6.out, HB6.out⟩
set_option maxRecDepth 100000 in
set_option maxHeartbeats 2000000 in
theorem delete_any (b : Int) (v : Value) (l : List Int) (p : Int) (w : World) (hR : Rd w v l) : Calls Try.prog 12 #[.int .i64 b, v, .int .i64 p] w fun e w' => ∃ v', e = .returned (.tuple #[v', .int .i64 (delE b l p)]) ∧ RdS w' v' (delS b l p) ∧ Below w.heap.size w w' := by
  have HR : Hid (Rd w v l) := hR
  obtain ⟨hl, a, cap, rfl⟩ := hR.form
  clear hR
  cases e1 : mcB b l
  · obtain ⟨E1, E2⟩ : Hid (delS b l p = []) ∧ Hid (delE b l p = 1) := del_no (by unfold delB; rw [e1]; rfl)
    go_enter Try.func12, Try.ntmps12
    go_wp2_with (first
      | (go_at_call 33; refine (mayChange_any b _ l _ HR.out).mono ?_; rintro e w' ⟨rfl, hw⟩; rw [hw, e1]; clear hw w'))
    go_ret2
    exact ⟨_, by rw [E2.out]; rfl, by rw [E1.out]; exact RdS.bare _, Below.refl _ _⟩
  cases e2 : hpB l p
  · obtain ⟨E1, E2⟩ : Hid (delS b l p = []) ∧ Hid (delE b l p = 1) := del_no (by unfold delB; rw [e1, e2]; rfl)
    go_enter Try.func12, Try.ntmps12
    go_wp2_with (first
      | (go_at_call 33; refine (mayChange_any b _ l _ HR.out).mono ?_; rintro e w' ⟨rfl, hw⟩; rw [hw, e1]; clear hw w')
      | (go_at_call 39; refine (hasPlace_any _ l p _ HR.out).mono ?_; rintro e w' ⟨rfl, hw⟩; rw [hw, e2]; clear hw w'))
    go_ret2
    exact ⟨_, by rw [E2.out]; rfl, by rw [E1.out]; exact RdS.bare _, Below.refl _ _⟩
  have eB : delB b l p = true := by unfold delB; rw [e1, e2]; rfl
  obtain ⟨hnd, h13, _⟩ := mcB_out e1
  have hp2 : 0 ≤ p ∧ p < (l.length : Int) := of_decide_eq_true e2
  obtain ⟨pn, rfl⟩ : ∃ pn : Nat, p = (pn : Int) := ⟨p.toNat, by omega⟩
  have hpn : pn < l.length := by omega
  obtain ⟨E1, E2⟩ : Hid (delS b l (pn : Int) = putS b (delF l pn)) ∧ Hid (delE b l (pn : Int) = 0) := del_yes eB
  clear eB hp2
  have HI : Hid (ndB b = true) := hnd
  have HF : Hid (∀ f ∈ delF l pn, 0 ≤ f.s ∧ f.s ≤ 12) := delF_slots h13
  obtain ⟨n1, hn1⟩ : ∃ n1 : Nat, l.length = n1 + 1 := ⟨l.length - 1, by omega⟩
  have Hn1 : Hid (l.length = n1 + 1) := hn1
  have hnI : (l.length : Int) - 1 = (n1 : Int) := by omega
  have hlI : (l.length : Int) = (n1 : Int) + 1 := by omega
  have HlI : Hid ((l.length : Int) = (n1 : Int) + 1) := hlI
  clear hnd hn1 hlI
  go_enter Try.func12, Try.ntmps12
  go_wp2_with (first
    | (go_at_call 33; refine (mayChange_any b _ l _ HR.out).mono ?_; rintro e w' ⟨rfl, hw⟩; rw [hw, e1]; clear hw w')
    | (go_at_call 39; refine (hasPlace_any _ l (pn : Int) _ HR.out).mono ?_; rintro e w' ⟨rfl, hw⟩; rw [hw, e2]; clear hw w'))
  go_loopw [9, 28] (fun o i w1 => ∃ (k : Nat) (L : List Fl), k ≤ n1 - pn ∧ i = .int .i64 k ∧ OwnF w1 w.heap.size o L ∧ L = (delF l pn).take k ∧ Below w.heap.size w w1) (fun _ i _ => n1 - pn - (intOf i).toNat)
  case atStart => exact ⟨0, [], Nat.zero_le _, rfl, OwnF.bare _ _, rfl, Below.refl _ _⟩
  case round =>
    obtain ⟨k, L, hk, rfl, hO, hE, hB⟩ := hrel
    have hsz : w.heap.size ≤ wr.heap.size := hB.size
    have HB : Hid (Below w.heap.size w wr) := hB
    have HO : Hid (OwnF wr w.heap.size _ L) := hO
    have HE : Hid (L = (delF l pn).take k) := hE
    have hlen : L.length ≤ 13 := by rw [hE, List.length_take, delF_length]; omega
    have hn2 := Hn1.out
    clear hO hB hE
    by_cases hlt : k < n1 - pn
    · have hltI : (k : Int) < (n1 : Int) - (pn : Int) := by omega
      obtain ⟨j, hj⟩ : ∃ j : Nat, j = pn + k := ⟨_, rfl⟩
      have hjI : (pn : Int) + (k : Int) = (j : Int) := by omega
      have hjl : j + 1 < l.length := by omega
      have hjI2 : (j : Int) + 1 < (l.length : Int) := by omega
      obtain ⟨blk, off, rfl, hc⟩ := (HR.out.below HB.out).at (j + 1) hjl
      have Hx : Hid (l[j + 1]? = some l[j + 1]) := List.getElem?_eq_getElem hjl
      generalize l[j + 1] = x at *
      have Hn : Hid (L ++ [⟨(j : Int), x⟩] = (delF l pn).take (k + 1)) := by
        show _ = _
        rw [HE.out, take_next (delF_get (by omega)), ← hj, getD_at Hx.out]
      have t0 : Hid (0 = 0) := rfl
      clear hj hn2
      go_wp2_with (first
        | (at_builtin; clear t0; refine append_f1 rfl _ _ rfl w.heap.size _ L ⟨(j : Int), x⟩ HO.out (by omega) hsz rfl rfl wr.heap.size rfl rfl ?_; intro g5 c5 w5 o5 b5; have HO5 : Hid (OwnF w5 w.heap.size _ (L ++ [⟨(j : Int), x⟩])) := o5; have HB5 : Hid (Below w.heap.size w w5) := HB.out.trans b5; clear o5 b5))
      go_roundw
      case rel => exact ⟨k + 1, _, by omega, by go_num, HO5.out, Hn.out, HB5.out⟩
      case measure => simp [intOf]; omega
    · have hge : ¬ (k : Int) < (n1 : Int) - (pn : Int) := by omega
      have Hn : Hid (L ++ [⟨(n1 : Int), 0⟩] = delF l pn) := by
        show _ = _
        have e : (delF l pn)[k]? = some ⟨(n1 : Int), 0⟩ := by
          rw [delF_get (by omega), show pn + k = n1 from by omega, getD_far (by omega)]
        rw [HE.out, ← take_next e, List.take_of_length_le (by rw [delF_length]; omega)]
      have hlen2 : (delF l pn).length ≤ 100 := by rw [delF_length]; omega
      have t0 : Hid (0 = 0) := rfl
      clear hn2
      go_wp2_with (first
        | (at_builtin; clear t0; refine append_f1 rfl _ _ rfl w.heap.size _ L ⟨(n1 : Int), 0⟩ HO.out (by omega) hsz rfl rfl wr.heap.size rfl rfl ?_; intro g5 c5 w5 o5 b5; have HO5 : Hid (OwnF w5 w.heap.size _ (delF l pn)) := (by rw [← Hn.out]; exact o5); have HB5 : Hid (Below w.heap.size w w5) := HB.out.trans b5; clear o5 b5)
        | (go_at_call 34; refine (put_fast b _ (delF l pn) _ HI.out HF.out hlen2 (HO5.out.rd (by omega))).mono ?_; rintro e w6 ⟨v6, rfl, R6, b6⟩; have HR6 : Hid (RdS w6 v6 (putS b (delF l pn))) := R6; have HB6 : Hid (Below w.heap.size w w6) := bstep HB5.out b6; clear R6 b6))
      go_ret2
      exact ⟨_, by rw [E2.out]; rfl, by rw [E1.out]; exact HR6.out, HB6.out⟩

set_option maxRecDepth 100000 in
set_option maxHeartbeats 2000000 in
theorem swap_any (b : Int) (v : Value) (l : List Int) (p r : Int) (w : World) (hR : Rd w v l) : Calls Try.prog 14 #[.int .i64 b, v, .int .i64 p, .int .i64 r] w fun e w' => ∃ v', e = .returned (.tuple #[v', .int .i64 (swpE b l p r)]) ∧ RdS w' v' (swpS b l p r) ∧ Below w.heap.size w w' := by
  have HR : Hid (Rd w v l) := hR
  obtain ⟨hl, a, cap, rfl⟩ := hR.form
  clear hR
  cases e1 : mcB b l
  · obtain ⟨E1, E2⟩ : Hid (swpS b l p r = []) ∧ Hid (swpE b l p r = 1) := swp_no (by unfold swpB; rw [e1]; rfl)
    go_enter Try.func14, Try.ntmps14
    go_wp2_with (first
      | (go_at_call 33; refine (mayChange_any b _ l _ HR.out).mono ?_; rintro e w' ⟨rfl, hw⟩; rw [hw, e1]; clear hw w'))
    go_ret2
    exact ⟨_, by rw [E2.out]; rfl, by rw [E1.out]; exact RdS.bare _, Below.refl _ _⟩
  cases e2 : hpB l p
  · obtain ⟨E1, E2⟩ : Hid (swpS b l p r = []) ∧ Hid (swpE b l p r = 1) := swp_no (by unfold swpB; rw [e1, e2]; rfl)
    go_enter Try.func14, Try.ntmps14
    go_wp2_with (first
      | (go_at_call 33; refine (mayChange_any b _ l _ HR.out).mono ?_; rintro e w' ⟨rfl, hw⟩; rw [hw, e1]; clear hw w')
      | (go_at_call 39; refine (hasPlace_any _ l p _ HR.out).mono ?_; rintro e w' ⟨rfl, hw⟩; rw [hw, e2]; clear hw w'))
    go_ret2
    exact ⟨_, by rw [E2.out]; rfl, by rw [E1.out]; exact RdS.bare _, Below.refl _ _⟩
  by_cases h1 : r ≤ 0
  · obtain ⟨E1, E2⟩ : Hid (swpS b l p r = []) ∧ Hid (swpE b l p r = 1) := swp_no (by unfold swpB; rw [decide_eq_false (by omega), Bool.and_false, Bool.and_false])
    go_enter Try.func14, Try.ntmps14
    go_wp2_with (first
      | (go_at_call 33; refine (mayChange_any b _ l _ HR.out).mono ?_; rintro e w' ⟨rfl, hw⟩; rw [hw, e1]; clear hw w')
      | (go_at_call 39; refine (hasPlace_any _ l p _ HR.out).mono ?_; rintro e w' ⟨rfl, hw⟩; rw [hw, e2]; clear hw w'))
    go_ret2
    exact ⟨_, by rw [E2.out]; rfl, by rw [E1.out]; exact RdS.bare _, Below.refl _ _⟩
  obtain ⟨hnd, h13, _⟩ := mcB_out e1
  have hp2 : 0 ≤ p ∧ p < (l.length : Int) := of_decide_eq_true e2
  obtain ⟨E1, E2⟩ : Hid (swpS b l p r = putS b [⟨p, r⟩]) ∧ Hid (swpE b l p r = 0) := swp_yes (by unfold swpB; rw [e1, e2, decide_eq_true (by omega)]; rfl)
  have HI : Hid (ndB b = true) := hnd
  have HF : Hid (∀ f ∈ [(⟨p, r⟩ : Fl)], 0 ≤ f.s ∧ f.s ≤ 12) := by (intro f hf; rw [List.mem_singleton.1 hf]; exact ⟨hp2.1, by show p ≤ 12; omega⟩)
  have HQ : Hid (RdF (w.alloc (.cells #[.int .i64 p, .int .i64 r] 55)) (.slice (some ⟨w.heap.size, 0, none⟩) 1 1) [⟨p, r⟩]) := by
    refine ⟨rfl, by simp, _, _, rfl, Nat.le_refl _, .inr ⟨_, _, rfl, by simp, fun j u hj => ?_⟩⟩
    match j, hj with
    | 0, h => cases h; simp
    | 1, h => cases h; simp
  clear hnd hp2
  go_enter Try.func14, Try.ntmps14
  go_wp2_with (first
    | (go_at_call 33; refine (mayChange_any b _ l _ HR.out).mono ?_; rintro e w' ⟨rfl, hw⟩; rw [hw, e1]; clear hw w')
    | (go_at_call 39; refine (hasPlace_any _ l p _ HR.out).mono ?_; rintro e w' ⟨rfl, hw⟩; rw [hw, e2]; clear hw w')
    | (go_at_call 34; refine (put_fast b _ [⟨p, r⟩] _ HI.out HF.out (by simp) HQ.out).mono ?_; rintro e w6 ⟨v6, rfl, R6, b6⟩; have HR6 : Hid (RdS w6 v6 (putS b [⟨p, r⟩])) := R6; have HB6 : Hid (Below w.heap.size w w6) := bstep ((Below.refl _ _).alloc (Nat.le_refl _) _) b6; clear R6 b6))
  go_ret2
  exact ⟨_, by rw [E2.out]; rfl, by rw [E1.out]; exact HR6.out, HB6.out⟩

set_option maxRecDepth 100000 in
set_option maxHeartbeats 2000000 in
theorem cut_any (b : Int) (v : Value) (l : List Int) (c : Int) (w : World) (hR : Rd w v l) : Calls Try.prog 16 #[.int .i64 b, v, .int .i64 c] w fun e w' => ∃ v', e = .returned (.tuple #[v', .int .i64 (cutE b l c)]) ∧ RdS w' v' (cutS b l c) ∧ Below w.heap.size w w' := by
  have HR : Hid (Rd w v l) := hR
  obtain ⟨hl, a, cap, rfl⟩ := hR.form
  clear hR
  cases e1 : mcB b l
  · obtain ⟨E1, E2⟩ : Hid (cutS b l c = []) ∧ Hid (cutE b l c = 1) := cut_no (by unfold cutB; rw [e1]; rfl)
    go_enter Try.func16, Try.ntmps16
    go_wp2_with (first
      | (go_at_call 33; refine (mayChange_any b _ l _ HR.out).mono ?_; rintro e w' ⟨rfl, hw⟩; rw [hw, e1]; clear hw w'))
    go_ret2
    exact ⟨_, by rw [E2.out]; rfl, by rw [E1.out]; exact RdS.bare _, Below.refl _ _⟩
  by_cases h1 : c < 0
  · obtain ⟨E1, E2⟩ : Hid (cutS b l c = []) ∧ Hid (cutE b l c = 1) := cut_no (by unfold cutB; rw [decide_eq_false (by omega), Bool.and_false])
    go_enter Try.func16, Try.ntmps16
    go_wp2_with (first
      | (go_at_call 33; refine (mayChange_any b _ l _ HR.out).mono ?_; rintro e w' ⟨rfl, hw⟩; rw [hw, e1]; clear hw w'))
    go_ret2
    exact ⟨_, by rw [E2.out]; rfl, by rw [E1.out]; exact RdS.bare _, Below.refl _ _⟩
  by_cases h2 : (l.length : Int) < c
  · obtain ⟨E1, E2⟩ : Hid (cutS b l c = []) ∧ Hid (cutE b l c = 1) := cut_no (by unfold cutB; rw [decide_eq_false (by omega), Bool.and_false])
    go_enter Try.func16, Try.ntmps16
    go_wp2_with (first
      | (go_at_call 33; refine (mayChange_any b _ l _ HR.out).mono ?_; rintro e w' ⟨rfl, hw⟩; rw [hw, e1]; clear hw w'))
    go_ret2
    exact ⟨_, by rw [E2.out]; rfl, by rw [E1.out]; exact RdS.bare _, Below.refl _ _⟩
  obtain ⟨hnd, h13, _⟩ := mcB_out e1
  obtain ⟨cn, rfl⟩ : ∃ cn : Nat, c = (cn : Int) := ⟨c.toNat, by omega⟩
  have hcn : cn ≤ l.length := by omega
  obtain ⟨E1, E2⟩ : Hid (cutS b l (cn : Int) = putS b (cutF l cn)) ∧ Hid (cutE b l (cn : Int) = 0) := cut_yes (by unfold cutB; rw [e1, decide_eq_true (by omega)]; rfl)
  have HI : Hid (ndB b = true) := hnd
  have HF : Hid (∀ f ∈ cutF l cn, 0 ≤ f.s ∧ f.s ≤ 12) := cutF_slots h13
  clear hnd
  have d2 : decide ((cn : Int) < 0) = false := decide_eq_false (by omega)
  have d3 : decide (l.length < cn) = false := decide_eq_false (by omega)
  have d4 : decide ((l.length : Int) < (cn : Int)) = false := decide_eq_false (by omega)
  go_enter Try.func16, Try.ntmps16
  go_wp2_with (first
    | (go_at_call 33; refine (mayChange_any b _ l _ HR.out).mono ?_; rintro e w' ⟨rfl, hw⟩; rw [hw, e1]; clear hw w'))
  go_loopw [8, 28] (fun o i w1 => ∃ (k : Nat) (L : List Fl), k ≤ l.length - cn ∧ i = .int .i64 k ∧ OwnF w1 w.heap.size o L ∧ L = (cutF l cn).take k ∧ Below w.heap.size w w1) (fun _ i _ => l.length - cn - (intOf i).toNat)
  case atStart => exact ⟨0, [], Nat.zero_le _, rfl, OwnF.bare _ _, rfl, Below.refl _ _⟩
  case round =>
    obtain ⟨k, L, hk, rfl, hO, hE, hB⟩ := hrel
    have hsz : w.heap.size ≤ wr.heap.size := hB.size
    have HB : Hid (Below w.heap.size w wr) := hB
    have HO : Hid (OwnF wr w.heap.size _ L) := hO
    have HE : Hid (L = (cutF l cn).take k) := hE
    have hlen : L.length ≤ 13 := by rw [hE, List.length_take, cutF_length]; omega
    clear hO hB hE
    by_cases hlt : k < l.length - cn
    · have hltI : (k : Int) < (l.length : Int) - (cn : Int) := by omega
      obtain ⟨j, hj⟩ : ∃ j : Nat, j = l.length - 1 - k := ⟨_, rfl⟩
      have hjI : (l.length : Int) - 1 - (k : Int) = (j : Int) := by omega
      have Hn : Hid (L ++ [⟨(j : Int), 0⟩] = (cutF l cn).take (k + 1)) := by
        show _ = _
        rw [HE.out, take_next (cutF_get hlt), ← hj]
      have t0 : Hid (0 = 0) := rfl
      clear hj
      go_wp2_with (first
        | (at_builtin; clear t0; refine append_f1 rfl _ _ rfl w.heap.size _ L ⟨(j : Int), 0⟩ HO.out (by omega) hsz rfl rfl wr.heap.size rfl rfl ?_; intro g5 c5 w5 o5 b5; have HO5 : Hid (OwnF w5 w.heap.size _ (L ++ [⟨(j : Int), 0⟩])) := o5; have HB5 : Hid (Below w.heap.size w w5) := HB.out.trans b5; clear o5 b5))
      go_roundw
      case rel => exact ⟨k + 1, _, by omega, by go_num, HO5.out, Hn.out, HB5.out⟩
      case measure => simp [intOf]; omega
    · have hge : ¬ (k : Int) < (l.length : Int) - (cn : Int) := by omega
      have Hn : Hid (L = cutF l cn) := by
        show _ = _
        rw [HE.out, List.take_of_length_le (by rw [cutF_length]; omega)]
      have hO5 := HO.out
      rw [Hn.out] at hO5
      have HO5 : Hid (OwnF wr w.heap.size _ (cutF l cn)) := hO5
      clear hO5
      have hlen2 : (cutF l cn).length ≤ 100 := by rw [cutF_length]; omega
      go_wp2_with (first
        | (go_at_call 34; refine (put_fast b _ (cutF l cn) _ HI.out HF.out hlen2 (HO5.out.rd (by omega))).mono ?_; rintro e w6 ⟨v6, rfl, R6, b6⟩; have HR6 : Hid (RdS w6 v6 (putS b (cutF l cn))) := R6; have HB6 : Hid (Below w.heap.size w w6) := bstep HB.out b6; clear R6 b6))
      go_ret2
      exact ⟨_, by rw [E2.out]; rfl, by rw [E1.out]; exact HR6.out, HB6.out⟩
end Go.Proofs.Ytoboiahknapddaa
