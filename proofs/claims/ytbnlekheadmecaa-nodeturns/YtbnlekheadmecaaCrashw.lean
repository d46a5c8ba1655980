/- Walks of layers 4 and 5: what a crash keeps. -/
import Derived.Test.YtbnlekheadmecaaStepg
import Derived.Test.YtbnlekheadmecaaNuml
import Derived.Deep.RegionWith
import Derived.Laws.CopyOwn
namespace Go.Proofs.Ytbnlekheadmecaa
open Go.RowKit Go.Shelf
set_option linter.unusedVariables false

theorem enter45 : ∀ args w, (callFunc 45 args).run Try.prog w = .ok (.enter 45 args) w := enters_of Try.func45 rfl rfl
set_option maxRecDepth 100000 in
set_option maxHeartbeats 2000000 in
theorem crash1_any (q l : Nat) (pv : Int) (pf : Bool) (lb r c B N : Nat) (L : List Int) (x : Int) (w : World) (hql : q / 8 = l) (hq5 : q < 100000) (hc : w.cell? ⟨lb, 0, none⟩ = some (.slice (some ⟨r, 0, none⟩) L.length c)) (hn2 : L.length ≤ 1000)
    (hO : OwnI w B (.slice (some ⟨r, 0, none⟩) L.length c) L) (hx : L[l]? = some x) (hx0 : -9223372036854775808 ≤ x) (hx1 : x < 9223372036854775808) (hBr : B ≤ r) (hrN : r < N) (hlr : lb ≠ r) (hN : N ≤ w.heap.size) :
    Calls Try.prog 45 #[.agg #[.int .i64 (q : Int), .int .i64 pv, .bool pf], .pointer (some ⟨lb, 0, none⟩)] w fun e w' => e = .returned (.bool (crBit x)) ∧ w'.cell? ⟨lb, 0, none⟩ = some (.slice (some ⟨r, 0, none⟩) L.length c) ∧ OwnI w' B (.slice (some ⟨r, 0, none⟩) L.length c) (crSet L l x) ∧ Below B w w' ∧ Same N w w' := by
  obtain ⟨hlL, hxe⟩ := List.getElem?_eq_some_iff.1 hx
  have hln : (l : Int) < (L.length : Int) := by omega
  have b0 : Below w.heap.size w (w.alloc (.cells #[.int .i64 (q : Int), .int .i64 pv, .bool pf] 71)) := (Below.refl _ _).alloc (Nat.le_refl _) _
  have HB : Hid (B ≤ w.heap.size) := by (show B ≤ _; omega)
  have HR : Hid (w.heap.size ≠ r ∧ lb ≠ r ∧ B ≤ r) := ⟨by omega, hlr, hBr⟩
  have HS : Hid (SD w w.heap.size lb r l (.int .i64 (q : Int)) (.int .i64 pv) (.bool pf) (.slice (some ⟨r, 0, none⟩) L.length c) (.int .i64 x) (w.alloc (.cells #[.int .i64 (q : Int), .int .i64 pv, .bool pf] 71))) := ⟨by simp, cell_held hc b0, cell_held (hO.at hx).1 b0, b0⟩
  have HO : Hid (OwnI (w.alloc (.cells #[.int .i64 (q : Int), .int .i64 pv, .bool pf] 71)) B (.slice (some ⟨r, 0, none⟩) L.length c) L) := hO.below b0
  have HM : Hid (Same N w (w.alloc (.cells #[.int .i64 (q : Int), .int .i64 pv, .bool pf] 71))) := Below.sames b0
  have HX : Hid (L[l]? = some x) := hx
  clear b0 hO hxe hx hc
  have HW : Hid (∀ w3, Below w.heap.size w w3 → Below B w w3 ∧ Same N w w3) := fun w3 h => ⟨h.mono HB.out, Below.sames h⟩
  by_cases hpos : 0 < x
  · have HD : Hid (crBit x = true) := decide_eq_true hpos
    have HI : Hid (crSet L l x = L.set l (x - 1)) := if_pos hpos
    have HV : Hid (IntKind.i64.wrap (x - 1) = x - 1) := by (show IntKind.i64.wrap (x - 1) = x - 1; rw [IntKind.wrap_i64]; omega)
    go_enter Try.func45, Try.ntmps45
    go_wp2
    generalize w.alloc (.cells #[.int .i64 (q : Int), .int .i64 pv, .bool pf] 71) = W1 at HS HO ⊢
    go_region_held3 (fun w2 => (w2.cell? ⟨w.heap.size, 0, none⟩ = some (.int .i64 (q : Int)) ∧ w2.cell? ⟨w.heap.size, 1, none⟩ = some (.int .i64 pv) ∧ w2.cell? ⟨w.heap.size, 2, none⟩ = some (.bool pf)) ∧ w2.cell? ⟨lb, 0, none⟩ = some (.slice (some ⟨r, 0, none⟩) L.length c) ∧ w2.cell? ⟨r, l, none⟩ = some (.int .i64 x) ∧ Below w.heap.size w w2)
      (first | exact SD.next (Below.refl _ _).drew HS.out | exact SD.next (by assumption) (by assumption))
      (first | (go_at_call 46; refine (lineOf_nat q l _ _ _ hql hq5).mono ?_; rintro e w3 ⟨rfl, hb3⟩; have hb3' := bstep (Below.refl _ W1).drew hb3; have HO3 : Hid (OwnI w3 B (.slice (some ⟨r, 0, none⟩) L.length c) L) := HO.out.below hb3'; have HS3 : Hid (SD w w.heap.size lb r l (.int .i64 (q : Int)) (.int .i64 pv) (.bool pf) (.slice (some ⟨r, 0, none⟩) L.length c) (.int .i64 x) w3) := SD.next hb3' HS.out))
    go_wp2
    clear hb3 hb3'
    have HS' : Hid (SD w w.heap.size lb r l (.int .i64 (q : Int)) (.int .i64 pv) (.bool pf) (.slice (some ⟨r, 0, none⟩) L.length c) (.int .i64 x) w3.drew) := HS3.out.next (Below.refl _ _).drew
    obtain ⟨⟨p0, p1, p2⟩, pl, px, _⟩ := HS3.out
    go_region_with (first | (go_at_call 46; refine (lineOf_nat q l _ _ _ hql hq5).mono ?_; rintro e w4 ⟨rfl, hb4⟩; have HS4 : Hid (SD w w.heap.size lb r l (.int .i64 (q : Int)) (.int .i64 pv) (.bool pf) (.slice (some ⟨r, 0, none⟩) L.length c) (.int .i64 x) w4) := HS'.out.next hb4; have HO4 : Hid (OwnI w4 B (.slice (some ⟨r, 0, none⟩) L.length c) L) := HO3.out.below (bstep (Below.refl _ w3).drew hb4); obtain ⟨⟨s0, s1, s2⟩, sl, sx, _⟩ := HS4.out; have sf := (HO4.out.at HX.out).2.1))
    all_goals
      go_wp2
      go_ret
      have hb4' := HS4.out.2.2.2
      exact ⟨ret_bool HD.out.symm, (World.cell?_of_block (Below.heap_setCell w4 _ _ _ hlr)).trans HS4.out.2.1, by rw [HI.out, HV.out]; exact (HO4.out.at HX.out).2.2 (x - 1), (HW.out _ hb4').1.setCell (p := ⟨r, l, none⟩) hBr _, (HW.out _ hb4').2.set hrN _⟩
  · have HD : Hid (crBit x = false) := decide_eq_false hpos
    have HI : Hid (crSet L l x = L) := if_neg hpos
    go_enter Try.func45, Try.ntmps45
    go_wp2
    generalize w.alloc (.cells #[.int .i64 (q : Int), .int .i64 pv, .bool pf] 71) = W1 at HS HO ⊢
    go_region_held3 (fun w2 => (w2.cell? ⟨w.heap.size, 0, none⟩ = some (.int .i64 (q : Int)) ∧ w2.cell? ⟨w.heap.size, 1, none⟩ = some (.int .i64 pv) ∧ w2.cell? ⟨w.heap.size, 2, none⟩ = some (.bool pf)) ∧ w2.cell? ⟨lb, 0, none⟩ = some (.slice (some ⟨r, 0, none⟩) L.length c) ∧ w2.cell? ⟨r, l, none⟩ = some (.int .i64 x) ∧ Below w.heap.size w w2)
      (first | exact SD.next (Below.refl _ _).drew HS.out | exact SD.next (by assumption) (by assumption))
      (first | (go_at_call 46; refine (lineOf_nat q l _ _ _ hql hq5).mono ?_; rintro e w3 ⟨rfl, hb3⟩; have hb3' := bstep (Below.refl _ W1).drew hb3; have HO3 : Hid (OwnI w3 B (.slice (some ⟨r, 0, none⟩) L.length c) L) := HO.out.below hb3'; have HS3 : Hid (SD w w.heap.size lb r l (.int .i64 (q : Int)) (.int .i64 pv) (.bool pf) (.slice (some ⟨r, 0, none⟩) L.length c) (.int .i64 x) w3) := SD.next hb3' HS.out))
    go_wp2
    go_ret
    have hb4' := HS3.out.2.2.2
    exact ⟨ret_bool rfl, HS3.out.2.1, by rw [HI.out]; exact HO3.out, (HW.out _ hb4').1, (HW.out _ hb4').2⟩
theorem tells_crash (m : Mm) (L : List Int) (lb r c B N : Nat) (hI : InPl m.per.length m.pend) (hl : m.per.length ≤ 1000) (h8 : m.per.length % 8 = 0) (hL : L.length = m.per.length / 8) (hBd : Bd L) (hBr : B ≤ r) (hrN : r < N) (hlN : lb < N) (hlr : lb ≠ r) :
    Tells m (crB L m.pend) 45 #[.pointer (some ⟨lb, 0, none⟩)] B N (fun k W => W.cell? ⟨lb, 0, none⟩ = some (.slice (some ⟨r, 0, none⟩) L.length c) ∧ OwnI W B (.slice (some ⟨r, 0, none⟩) L.length c) (crL L (m.pend.take k))) := by
  refine ⟨enter45, crB_length _ _, ?_, ?_⟩
  · rintro k W W' ⟨h1, h2⟩ hb
    exact ⟨(hb.cell (p := ⟨lb, 0, none⟩) hlN).trans h1, own_belowN h2 hb (fun g hg => by have : r = g := by simpa [Value.ownBlock] using hg
                                                                                         omega)⟩
  · rintro k p b W hp hb ⟨hc, hO⟩ hn
    rw [crB_get L _ k p hp] at hb
    cases hb
    have hin := hI p (List.mem_of_getElem? hp)
    have hT := take_next hp
    have hlen := crL_length L (m.pend.take k)
    have hx := bd_get (bd_all hBd (m.pend.take k)) (lnN p)
    rw [hT, crL_snoc]
    unfold crStep
    generalize crL L (m.pend.take k) = L1 at hO hlen hx ⊢
    obtain ⟨pa, pv, pf⟩ := p
    dsimp only at hin
    obtain ⟨q, rfl⟩ := Int.eq_ofNat_of_zero_le hin.1
    have hln : lnN ⟨(q : Int), pv, pf⟩ = q / 8 := by show ((q : Int) / 8).toNat = _; omega
    rw [hln] at hx ⊢
    have hxe : L1[q / 8]? = some (L1.getD (q / 8) 0) := by
      rw [List.getD_eq_getElem?_getD, List.getElem?_eq_getElem (show q / 8 < L1.length by omega)]
      rfl
    generalize L1.getD (q / 8) 0 = x at hx hxe ⊢
    rw [← hlen] at hc hO ⊢
    refine (crash1_any q (q / 8) pv pf lb r c B N L1 x W rfl (by omega) hc (by omega) hO hxe hx.1 hx.2 hBr hrN hlr hn).mono ?_
    rintro e W' ⟨rfl, h1, h2, h3, h4⟩
    exact ⟨rfl, ⟨h1, h2⟩, h3, h4⟩
theorem tells_crash' (m : Mm) (L : List Int) (n lb r c B N : Nat) (hn : n = L.length) (hI : InPl m.per.length m.pend) (hl : m.per.length ≤ 1000) (h8 : m.per.length % 8 = 0) (hL : n = m.per.length / 8) (hBd : Bd L) (hBr : B ≤ r) (hrN : r < N) (hlN : lb < N) (hlr : lb ≠ r) :
    Tells m (crB L m.pend) 45 #[.pointer (some ⟨lb, 0, none⟩)] B N (fun k W => W.cell? ⟨lb, 0, none⟩ = some (.slice (some ⟨r, 0, none⟩) n c) ∧ OwnI W B (.slice (some ⟨r, 0, none⟩) n c) (crL L (m.pend.take k))) := by
  subst hn
  exact tells_crash m L lb r c B N hI hl h8 hL hBd hBr hrN hlN hlr
set_option maxRecDepth 100000 in
set_option maxHeartbeats 4000000 in
theorem crash_any (va vb vc vk : Value) (m : Mm) (keep : List Int) (w : World) (hR : RdM w va vb vc m) (hK : Rd w vk keep) (hBd : Bd keep) : Calls Try.prog 37 #[.agg #[va, vb, vc], vk] w fun e w' => ∃ v, e = .returned (.tuple #[v, .int .i64 (okE m)]) ∧ Rd w' v (crP m keep) ∧ Below w.heap.size w w' := by
  obtain ⟨i0, hi, hz0, hz1, hz2⟩ := info_parts Try.info3
  obtain ⟨l1, l2, l3⟩ := hR.lens
  obtain ⟨lk, ak, ck, rfl⟩ := hK.form
  obtain ⟨a1, c1, a2, c2, a3, c3, rfl, rfl, rfl⟩ := hR.forms
  have HB : Hid (Below w.heap.size w (w.alloc (.cells #[.slice a1 m.vol.length c1, .slice a2 m.per.length c2, .slice a3 m.pend.length c3] 43))) := (Below.refl _ _).alloc (Nat.le_refl _) _
  have X0 : Hid (Bx (w.alloc (.cells #[.slice a1 m.vol.length c1, .slice a2 m.per.length c2, .slice a3 m.pend.length c3] 43)) w.heap.size (.slice a1 m.vol.length c1) (.slice a2 m.per.length c2) (.slice a3 m.pend.length c3)) := bx_new w _ _ _ 43
  have Hs : Hid (w.heap.size + 1 = (w.alloc (.cells #[.slice a1 m.vol.length c1, .slice a2 m.per.length c2, .slice a3 m.pend.length c3] 43)).heap.size) := by (show _ = _; simp)
  have HR : Hid (RdM w (.slice a1 m.vol.length c1) (.slice a2 m.per.length c2) (.slice a3 m.pend.length c3) m) := hR
  clear hR
  cases e1 : ok m
  · have HE : Hid (okE m = 40) := by (show okE m = _; unfold okE; rw [e1]; rfl)
    have HM : Hid (crP m keep = []) := by (show crP m keep = _; unfold crP; rw [e1]; rfl)
    go_enter Try.func37, Try.ntmps37
    go_wp2_with (first
      | (go_at_call 40; refine (check_any _ _ _ m _ (HR.out.below HB.out)).mono ?_; rintro e w1 ⟨rfl, hb1⟩; have HB1 : Hid (Below w.heap.size w w1) := bstep HB.out hb1; have HX1 : Hid (Bx w1 w.heap.size (.slice a1 m.vol.length c1) (.slice a2 m.per.length c2) (.slice a3 m.pend.length c3)) := X0.out.below hb1; obtain ⟨⟨x0, x1, x2⟩, _⟩ := HX1.out; have Hs1 : Hid (w.heap.size + 1 ≤ w1.heap.size) := (by have := hb1.size; have := Hs.out; show _ ≤ _; omega); have hs1 := Hs1.out))
    go_ret2
    exact ⟨_, by rw [HE.out]; rfl, by rw [HM.out]; exact Rd.bare _, HB1.out⟩
  · have HE : Hid (okE m = 0) := by (show okE m = _; unfold okE; rw [e1]; rfl)
    have HM : Hid (crP m keep = (crM m keep).per) := by (show crP m keep = _; unfold crP; rw [e1]; rfl)
    obtain ⟨n8, hn8'⟩ : ∃ n8, m.vol.length / 8 = n8 := ⟨_, rfl⟩
    have hn8 : (m.vol.length : Int) / 8 = (n8 : Int) := by omega
    have H8 : Hid (m.per.length % 8 = 0 ∧ n8 = m.per.length / 8) := ⟨by rw [(ok_out e1).1]; exact (ok_out e1).2.2.1, by rw [(ok_out e1).1]; omega⟩
    have HN : Hid (crM m keep = kM m (m.pend.zip (crB (leftL keep n8) m.pend))) := by (show crM m keep = _; unfold crM; rw [hn8'])
    have hn81 : n8 ≤ 1000 := by omega
    clear hn8'
    have hF := field1
    go_enter Try.func37, Try.ntmps37
    go_wp2_with (first
      | (go_at_call 40; refine (check_any _ _ _ m _ (HR.out.below HB.out)).mono ?_; rintro e w1 ⟨rfl, hb1⟩; have HB1 : Hid (Below w.heap.size w w1) := bstep HB.out hb1; have HX1 : Hid (Bx w1 w.heap.size (.slice a1 m.vol.length c1) (.slice a2 m.per.length c2) (.slice a3 m.pend.length c3)) := X0.out.below hb1; obtain ⟨⟨x0, x1, x2⟩, _⟩ := HX1.out; have Hs1 : Hid (w.heap.size + 1 ≤ w1.heap.size) := (by have := hb1.size; have := Hs.out; show _ ≤ _; omega); have hs1 := Hs1.out)
      | (at_make; refine wpList_make_full _ rfl _ _ 22 rfl w.heap.size 3 i0 (.int .i64 0) 1 Try.underlying22 hi hz0 hz1 .i64 .i64 _ _ n8 rfl rfl rfl rfl (by rw [hz2]; omega) (by unfold maxLen; omega) (Nat.le_of_succ_le hs1) ?_; intro w2 o2 g2; have hb2 : Below w1.heap.size w1 w2 := below_grownN g2; have HO2 : Hid (OwnI w2 w.heap.size (.slice (some ⟨w1.heap.size, 0, none⟩) n8 n8) (List.replicate n8 0)) := own_zero o2; have HL2 : Hid (w1.heap.size < w2.heap.size) := own_zero_lt HO2.out; have hb3 : Below w2.heap.size w2 (w2.alloc (.cells #[.slice (some ⟨w1.heap.size, 0, none⟩) n8 n8] 22)) := (Below.refl _ _).alloc (Nat.le_refl _) _; have HB3 : Hid (Below w.heap.size w (w2.alloc (.cells #[.slice (some ⟨w1.heap.size, 0, none⟩) n8 n8] 22))) := bstep (bstep HB1.out hb2) hb3; have HX3 : Hid (Bx (w2.alloc (.cells #[.slice (some ⟨w1.heap.size, 0, none⟩) n8 n8] 22)) w.heap.size (.slice a1 m.vol.length c1) (.slice a2 m.per.length c2) (.slice a3 m.pend.length c3)) := (HX1.out.below hb2).below hb3; have HO3 : Hid (OwnI (w2.alloc (.cells #[.slice (some ⟨w1.heap.size, 0, none⟩) n8 n8] 22)) w.heap.size (.slice (some ⟨w1.heap.size, 0, none⟩) n8 n8) (List.replicate n8 0)) := HO2.out.below hb3; have HC3 : Hid ((w2.alloc (.cells #[.slice (some ⟨w1.heap.size, 0, none⟩) n8 n8] 22)).cell? ⟨w2.heap.size, 0, none⟩ = some (.slice (some ⟨w1.heap.size, 0, none⟩) n8 n8)) := cell_new1 w2 _ 22; have HS3 : Hid ((w2.alloc (.cells #[.slice (some ⟨w1.heap.size, 0, none⟩) n8 n8] 22)).heap.size = w2.heap.size + 1) := (by show _ = _; simp); clear o2 g2 hb2 hb3)
      | (refine copy_left rfl (.tmp 15) (.tmp 16) rfl w.heap.size w1.heap.size n8 _ keep HO3.out (hK.below HB3.out) rfl rfl ?_; intro kk w4 o4 hb4 hh4; have HO4 : Hid (OwnI w4 w.heap.size (.slice (some ⟨w1.heap.size, 0, none⟩) n8 n8) (leftL keep n8)) := o4; have HB4 : Hid (Below w.heap.size w w4) := HB3.out.trans hb4; have HC4 : Hid (w4.cell? ⟨w2.heap.size, 0, none⟩ = some (.slice (some ⟨w1.heap.size, 0, none⟩) n8 n8)) := (World.cell?_of_block (hh4 _ (by have := HL2.out; show w2.heap.size ≠ _; omega))).trans HC3.out; obtain ⟨⟨q0, q1, q2⟩, _⟩ := HX3.out.kept (hh4 _ (by omega)); have HS4 : Hid (w2.heap.size < w4.heap.size) := (by have := hb4.size; have := HS3.out; show _ < _; omega); clear o4 hb4 hh4)
      | (go_at_call 44; refine (withKept_any _ _ _ m (crB (leftL keep n8) m.pend) 45 #[.pointer (some ⟨w2.heap.size, 0, none⟩)] w.heap.size (fun k W => W.cell? ⟨w2.heap.size, 0, none⟩ = some (.slice (some ⟨w1.heap.size, 0, none⟩) n8 n8) ∧ OwnI W w.heap.size (.slice (some ⟨w1.heap.size, 0, none⟩) n8 n8) (crL (leftL keep n8) (m.pend.take k))) w4 (HR.out.below HB4.out) (fun W' h => HR.out.below (HB4.out.trans h)) HB4.out.size (ok_in e1) (tells_crash' m (leftL keep n8) n8 w2.heap.size w1.heap.size n8 w.heap.size w4.heap.size (leftL_length _ _).symm (ok_in e1) l2 H8.out.1 H8.out.2 (bd_left hBd _) (Nat.le_of_succ_le hs1) (Nat.lt_trans HL2.out HS4.out) HS4.out (Nat.ne_of_gt HL2.out)) ⟨HC4.out, HO4.out⟩).mono ?_; rintro e w5 ⟨v1, v2, v3, rfl, O5, hb5⟩; have R5 := O5.rd l1 (kM_l2 l2) (kM_l3 l3); obtain ⟨b1, d1, b2, d2, b3, d3, rfl, rfl, rfl⟩ := R5.forms; have HR5 : Hid (RdM w5 _ _ _ _) := R5; clear R5))
    go_ret2
    exact ⟨_, by rw [HE.out]; rfl, by rw [HM.out, HN.out]; exact HR5.out.per, HB4.out.trans hb5⟩
set_option maxRecDepth 100000 in
set_option maxHeartbeats 4000000 in
theorem crashS_any (va vb vc v vk : Value) (m : Mm) (l : List Mi) (n : Int) (keep : List Int) (w : World) (hR : RdM w va vb vc m) (hS : RdS w v l) (hK : Rd w vk keep) (hBd : Bd keep) (hp : m.pend.length + l.length ≤ 900) : Calls Try.prog 23 #[.agg #[va, vb, vc], v, .int .i64 n, vk] w fun e w' => ∃ v', e = .returned (.tuple #[v', .int .i64 (ruE m l)]) ∧ Rd w' v' (csP m l n keep) ∧ Below w.heap.size w w' := by
  obtain ⟨l1, l2, l3⟩ := hR.lens
  obtain ⟨a1, c1, a2, c2, a3, c3, rfl, rfl, rfl⟩ := hR.forms
  obtain ⟨ll, a, cap, rfl⟩ := hS.form
  have HS : Hid (RdS w (.slice a l.length cap) l) := hS
  have HR : Hid (RdM w (.slice a1 m.vol.length c1) (.slice a2 m.per.length c2) (.slice a3 m.pend.length c3) m) := hR
  have HB : Hid (Below w.heap.size w (w.alloc (.cells #[.slice a1 m.vol.length c1, .slice a2 m.per.length c2, .slice a3 m.pend.length c3] 43))) := (Below.refl _ _).alloc (Nat.le_refl _) _
  have HX : Hid (Bo (w.alloc (.cells #[.slice a1 m.vol.length c1, .slice a2 m.per.length c2, .slice a3 m.pend.length c3] 43)) w.heap.size (.slice a1 m.vol.length c1) (.slice a2 m.per.length c2) (.slice a3 m.pend.length c3)) := Bo.new w _ _ _
  obtain ⟨lk, ka, kc, rfl⟩ := hK.form
  have HKe : Hid (Rd w (.slice ka keep.length kc) keep) := hK
  clear hR hS hK
  cases e1 : mrB m l
  · have HE : Hid (ruE m l = 40) := ruE_no e1
    have HM : Hid (csP m l n keep = []) := csP_no e1 n keep
    go_enter Try.func23, Try.ntmps23
    go_wp2_with (first
      | (go_at_call 34; refine (mayRun_any _ _ _ _ m l _ (HR.out.below HB.out) (HS.out.below HB.out)).mono ?_; rintro e w1 ⟨rfl, hb1⟩; rw [e1]; have HB1 : Hid (Below w.heap.size w w1) := bstep HB.out hb1; clear hb1))
    go_ret2
    exact ⟨_, by rw [HE.out]; rfl, by rw [HM.out]; exact Rd.bare _, HB1.out⟩
  · have HM : Hid (csP m l n keep = crP (runM m (l.take (tkN n l.length))) keep) := csP_yes e1 n keep
    have HE : Hid (ruE m l = okE (runM m (l.take (tkN n l.length)))) := by (show _ = _; rw [ruE_yes e1, okE_yes (ok_run (mrB_out e1).1 _)])
    have HK : Hid (∀ x ∈ l, x.k = 1 ∨ x.k = 2) := mrB_kinds e1
    go_enter Try.func23, Try.ntmps23
    go_wp2_with (first
      | (go_at_call 34; refine (mayRun_any _ _ _ _ m l _ (HR.out.below HB.out) (HS.out.below HB.out)).mono ?_; rintro e w1 ⟨rfl, hb1⟩; rw [e1]; have HB1 : Hid (Below w.heap.size w w1) := bstep HB.out hb1; obtain ⟨⟨x0, x1, x2⟩, -⟩ := (HX.out.below hb1).bx; clear hb1)
      | (go_at_call 36; refine (behind_any _ _ _ _ m l n _ (HR.out.below HB1.out) (HS.out.below HB1.out) HK.out hp).mono ?_; rintro e w2 ⟨v1, v2, v3, rfl, R2, hb2⟩; have HR2 : Hid (RdM w2 _ _ _ (runM m (l.take (tkN n l.length)))) := R2; have HB2 : Hid (Below w.heap.size w w2) := bstep HB1.out hb2; clear R2 hb2)
      | (go_at_call 37; refine (crash_any _ _ _ _ (runM m (l.take (tkN n l.length))) keep _ HR2.out (HKe.out.below HB2.out) hBd).mono ?_; rintro e w3 ⟨v4, rfl, R3, hb3⟩; have HR3 : Hid (Rd w3 v4 _) := R3; have HB3 : Hid (Below w.heap.size w w3) := bstep HB2.out hb3; clear R3 hb3))
    go_ret2
    exact ⟨_, by rw [HE.out]; rfl, by rw [HM.out]; exact HR3.out, HB3.out⟩
end Go.Proofs.Ytbnlekheadmecaa
