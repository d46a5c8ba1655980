/- Walks of layer 4: the document's own answers: Flush. -/
import Derived.Test.YthibgmndgkhfiaaWalku
namespace Go.Proofs.Ythibgmndgkhfiaa
open Go.RowKit Go.Shelf
set_option linter.unusedVariables false

theorem fluP_g (n a v : Int) (f : Bool) : fluP n ⟨a, v, f⟩ = ⟨a, v, f || decide (a / 8 = n)⟩ := by
  unfold fluP
  by_cases h : a / 8 = n
  · simp [h]
  · simp [h]
theorem fluP_t (n a v : Int) : fluP n ⟨a, v, true⟩ = ⟨a, v, true⟩ := by rw [fluP_g]; rfl
theorem fluP_u (n a v : Int) (b : Bool) (h : decide (a / 8 = n) = b) : fluP n ⟨a, v, false⟩ = ⟨a, v, b⟩ := by rw [fluP_g, h]; rfl

set_option maxRecDepth 100000 in
set_option maxHeartbeats 4000000 in
theorem flushR_any (va vb vc : Value) (m : Mm) (n : Int) (w : World) (hR : RdM w va vb vc m) : Calls Try.prog 29 #[.agg #[va, vb, vc], .int .i64 n] w fun e w' => ∃ va' vb' vc', e = .returned (.tuple #[.agg #[va', vb', vc'], .int .i64 (lnE m n)]) ∧ RdM w' va' vb' vc' (fluM m n) ∧ Below w.heap.size w w' := by
  obtain ⟨l1, l2, l3⟩ := hR.lens
  obtain ⟨a1, c1, a2, c2, a3, c3, rfl, rfl, rfl⟩ := hR.forms
  have HB : Hid (Below w.heap.size w ((w.alloc (.cells #[.slice a1 m.vol.length c1, .slice a2 m.per.length c2, .slice a3 m.pend.length c3] 25)).alloc (.cells #[.slice none 0 0, .slice none 0 0, .slice none 0 0] 25))) := ((Below.refl _ _).alloc (Nat.le_refl _) _).alloc (by simp) _
  have X0 : Hid (Bo ((w.alloc (.cells #[.slice a1 m.vol.length c1, .slice a2 m.per.length c2, .slice a3 m.pend.length c3] 25)).alloc (.cells #[.slice none 0 0, .slice none 0 0, .slice none 0 0] 25)) w.heap.size (.slice a1 m.vol.length c1) (.slice a2 m.per.length c2) (.slice a3 m.pend.length c3)) := (Bo.new w _ _ _).below ((Below.refl _ _).alloc (Nat.le_refl _) _)
  have Y0 : Hid (Bo ((w.alloc (.cells #[.slice a1 m.vol.length c1, .slice a2 m.per.length c2, .slice a3 m.pend.length c3] 25)).alloc (.cells #[.slice none 0 0, .slice none 0 0, .slice none 0 0] 25)) (w.heap.size + 1) (.slice none 0 0) (.slice none 0 0) (.slice none 0 0)) := by (have := Bo.new (w.alloc (.cells #[.slice a1 m.vol.length c1, .slice a2 m.per.length c2, .slice a3 m.pend.length c3] 25)) (.slice none 0 0) (.slice none 0 0) (.slice none 0 0); rwa [World.size_alloc] at this)
  have HR : Hid (RdM w (.slice a1 m.vol.length c1) (.slice a2 m.per.length c2) (.slice a3 m.pend.length c3) m) := hR
  clear hR
  cases e1 : ok m
  · have HN : Hid (lnB m n = false) := lnB_no1 e1
    have HE : Hid (lnE m n = 40) := by (show lnE m n = _; unfold lnE; rw [HN.out]; rfl)
    have HM : Hid (fluM m n = m) := by (show fluM m n = _; unfold fluM; rw [HN.out]; rfl)
    go_enter Try.func29, Try.ntmps29
    go_wp2_with (first | (go_at_call 26; refine (checkR_any _ _ _ m _ (HR.out.below HB.out)).mono ?_; rintro e w1 ⟨rfl, hb1⟩; have HB1 : Hid (Below w.heap.size w w1) := bstep HB.out hb1; have HX1 : Hid (Bo w1 w.heap.size (.slice a1 m.vol.length c1) (.slice a2 m.per.length c2) (.slice a3 m.pend.length c3)) := X0.out.below hb1; have HY1 : Hid (Bo w1 (w.heap.size + 1) (.slice none 0 0) (.slice none 0 0) (.slice none 0 0)) := Y0.out.below hb1; obtain ⟨⟨x0, x1, x2⟩, -⟩ := HX1.out.bx; obtain ⟨⟨y0, y1, y2⟩, yf0, yf1, yf2⟩ := HY1.out.bx; clear hb1))
    obtain ⟨f1, f2, f3⟩ := finishR (m := m) (HR.out.below HB1.out) HY1.out HB1.out (Nat.le_succ _)
    exact bodyPost_ret (ret_cell2 (p := 4) (u := 5) Try.results29 rfl f1) rfl ⟨_, _, _, by rw [HE.out]; rfl, by rw [HM.out]; exact f2, f3⟩
  cases e2 : lineB m.vol.length n
  · have HN : Hid (lnB m n = false) := lnB_no2 e2
    have HE : Hid (lnE m n = 40) := by (show lnE m n = _; unfold lnE; rw [HN.out]; rfl)
    have HM : Hid (fluM m n = m) := by (show fluM m n = _; unfold fluM; rw [HN.out]; rfl)
    go_enter Try.func29, Try.ntmps29
    go_wp2_with (first | (go_at_call 26; refine (checkR_any _ _ _ m _ (HR.out.below HB.out)).mono ?_; rintro e w1 ⟨rfl, hb1⟩; have HB1 : Hid (Below w.heap.size w w1) := bstep HB.out hb1; have HX1 : Hid (Bo w1 w.heap.size (.slice a1 m.vol.length c1) (.slice a2 m.per.length c2) (.slice a3 m.pend.length c3)) := X0.out.below hb1; have HY1 : Hid (Bo w1 (w.heap.size + 1) (.slice none 0 0) (.slice none 0 0) (.slice none 0 0)) := Y0.out.below hb1; obtain ⟨⟨x0, x1, x2⟩, -⟩ := HX1.out.bx; obtain ⟨⟨y0, y1, y2⟩, yf0, yf1, yf2⟩ := HY1.out.bx; clear hb1) | (go_at_call 40; refine (lineR_any _ _ _ m n _ (HR.out.below HB1.out)).mono ?_; rintro e w2 ⟨rfl, hb2⟩; have HB2 : Hid (Below w.heap.size w w2) := bstep HB1.out hb2; have HX2 : Hid (Bo w2 w.heap.size (.slice a1 m.vol.length c1) (.slice a2 m.per.length c2) (.slice a3 m.pend.length c3)) := HX1.out.below hb2; have HY2 : Hid (Bo w2 (w.heap.size + 1) (.slice none 0 0) (.slice none 0 0) (.slice none 0 0)) := HY1.out.below hb2; clear x0 x1 x2 y0 y1 y2 yf0 yf1 yf2; obtain ⟨⟨x0, x1, x2⟩, -⟩ := HX2.out.bx; obtain ⟨⟨y0, y1, y2⟩, yf0, yf1, yf2⟩ := HY2.out.bx; clear hb2))
    obtain ⟨f1, f2, f3⟩ := finishR (m := m) (HR.out.below HB2.out) HY2.out HB2.out (Nat.le_succ _)
    exact bodyPost_ret (ret_cell2 (p := 4) (u := 5) Try.results29 rfl f1) rfl ⟨_, _, _, by rw [HE.out]; rfl, by rw [HM.out]; exact f2, f3⟩
  · have HN : Hid (lnB m n = true) := lnB_yes e1 e2
    have HE : Hid (lnE m n = 0) := by (show lnE m n = _; unfold lnE; rw [HN.out]; rfl)
    have HM : Hid (fluM m n = ⟨m.vol, m.per, (m.pend.map (fluP n))⟩) := by (show fluM m n = _; unfold fluM; rw [HN.out]; rfl)
    have HI : Hid (InPl m.per.length m.pend) := ok_in e1
    go_enter Try.func29, Try.ntmps29
    go_wp2_with (first | (go_at_call 26; refine (checkR_any _ _ _ m _ (HR.out.below HB.out)).mono ?_; rintro e w1 ⟨rfl, hb1⟩; have HB1 : Hid (Below w.heap.size w w1) := bstep HB.out hb1; have HX1 : Hid (Bo w1 w.heap.size (.slice a1 m.vol.length c1) (.slice a2 m.per.length c2) (.slice a3 m.pend.length c3)) := X0.out.below hb1; have HY1 : Hid (Bo w1 (w.heap.size + 1) (.slice none 0 0) (.slice none 0 0) (.slice none 0 0)) := Y0.out.below hb1; obtain ⟨⟨x0, x1, x2⟩, -⟩ := HX1.out.bx; obtain ⟨⟨y0, y1, y2⟩, yf0, yf1, yf2⟩ := HY1.out.bx; clear hb1) | (go_at_call 40; refine (lineR_any _ _ _ m n _ (HR.out.below HB1.out)).mono ?_; rintro e w2 ⟨rfl, hb2⟩; have HB2 : Hid (Below w.heap.size w w2) := bstep HB1.out hb2; have HX2 : Hid (Bo w2 w.heap.size (.slice a1 m.vol.length c1) (.slice a2 m.per.length c2) (.slice a3 m.pend.length c3)) := HX1.out.below hb2; have HY2 : Hid (Bo w2 (w.heap.size + 1) (.slice none 0 0) (.slice none 0 0) (.slice none 0 0)) := HY1.out.below hb2; clear x0 x1 x2 y0 y1 y2 yf0 yf1 yf2; obtain ⟨⟨x0, x1, x2⟩, -⟩ := HX2.out.bx; obtain ⟨⟨y0, y1, y2⟩, yf0, yf1, yf2⟩ := HY2.out.bx; clear hb2))
    clear x0 x1 x2 y0 y1 y2 yf0 yf1 yf2
    have HB3 : Hid (Below w2.heap.size w2 (w2.alloc (.cells #[(.slice a1 m.vol.length c1), (.slice a2 m.per.length c2), .slice none 0 0] 25))) := (Below.refl _ _).alloc (Nat.le_refl _) _
    have HK3 : Hid (KO (w2.alloc (.cells #[(.slice a1 m.vol.length c1), (.slice a2 m.per.length c2), .slice none 0 0] 25)) w2.heap.size (.slice a1 m.vol.length c1) (.slice a2 m.per.length c2) (.slice none 0 0) m.per []) := ⟨Bo.new w2 _ _ _, (HR.out.below (bstep HB2.out HB3.out)).per, World.ownsRow_nil _ _ _ _, .inr fun g h => by cases h⟩
    go_loopw [8] (fun s W => ∃ (k : Nat) (v3 : Value), k ≤ m.pend.length ∧ s = .int .i64 k ∧ KO W w2.heap.size (.slice a1 m.vol.length c1) (.slice a2 m.per.length c2) v3 m.per ((m.pend.map (fluP n)).take k) ∧ Below w2.heap.size w2 W) (fun s _ => m.pend.length - (intOf s).toNat)
    case atStart => exact ⟨0, _, Nat.zero_le _, rfl, HK3.out, HB3.out⟩
    case round =>
      obtain ⟨k, v3, hk, rfl, hK, hbr⟩ := hrel
      have HXr : Hid (Bo wr w.heap.size (.slice a1 m.vol.length c1) (.slice a2 m.per.length c2) (.slice a3 m.pend.length c3)) := HX2.out.below hbr
      have HYr : Hid (Bo wr (w.heap.size + 1) (.slice none 0 0) (.slice none 0 0) (.slice none 0 0)) := HY2.out.below hbr
      have HBr : Hid (Below w.heap.size w wr) := bstep HB2.out hbr
      have HBo : Hid (Below w2.heap.size w2 wr) := hbr
      have hsr := hbr.size
      obtain ⟨⟨x0, x1, x2⟩, -⟩ := HXr.out.bx
      have hfl : ((m.pend.map (fluP n)).take k).length ≤ 1000 := by rw [List.length_take, List.length_map]; omega
      by_cases hlt : k < m.pend.length
      · have hltI : (k : Int) < (m.pend.length : Int) := by omega
        obtain ⟨p, hp⟩ : ∃ p, m.pend[k]? = some p := ⟨_, List.getElem?_eq_getElem hlt⟩
        have hin := HI.out p (List.mem_of_getElem? hp)
        obtain ⟨blk, off, rfl, z0, z1, z2⟩ := (HR.out.below HBr.out).pend.get hp
        obtain ⟨b3, d3, rfl⟩ := hK.own.form
        obtain ⟨d0, hd0⟩ : ∃ d, ((m.pend.map (fluP n)).take k).length = d := ⟨_, rfl⟩
        rw [hd0] at hK
        have HKr : Hid (KO wr w2.heap.size (.slice a1 m.vol.length c1) (.slice a2 m.per.length c2) (.slice b3 d0 d3) m.per ((m.pend.map (fluP n)).take k)) := hK
        clear hK hbr
        obtain ⟨pa, pv, pf⟩ := p
        dsimp only at z0 z1 z2 hin
        obtain ⟨q, rfl⟩ := Int.eq_ofNat_of_zero_le hin.1
        have hq5 : (q : Int) < 100000 := by have := hin.2; omega
        clear hin
        obtain ⟨ql, hql⟩ : ∃ l, q / 8 = l := ⟨_, rfl⟩
        have hql8 : (q : Int) / 8 = (ql : Int) := by omega
        have hql5 : (ql : Int) < 100000 := by omega
        obtain ⟨tb, htb⟩ : ∃ b, decide ((ql : Int) = n) = b := ⟨_, rfl⟩
        have htb2 : ((ql : Int) == n) = tb := by rw [← htb]; rfl
        have HTB : Hid (decide ((q : Int) / 8 = n) = tb) := by (show decide ((q : Int) / 8 = n) = tb; rw [hql8]; exact htb)
        cases pf
        · have HK5 : Hid (KO (wr.alloc (.cells #[.int .i64 (q : Int), .int .i64 pv, .bool false] 55)) w2.heap.size (.slice a1 m.vol.length c1) (.slice a2 m.per.length c2) (.slice b3 d0 d3) m.per ((m.pend.map (fluP n)).take k)) := HKr.out.below ((Below.refl _ _).alloc (Nat.le_refl _) _)
          have HT : Hid ((m.pend.map (fluP n)).take (k + 1) = (m.pend.map (fluP n)).take k ++ [⟨(q : Int), pv, tb⟩]) := take_next (by rw [List.getElem?_map, hp]; exact congrArg some (fluP_u n _ _ _ HTB.out))
          have zc : (wr.alloc (.cells #[.int .i64 (q : Int), .int .i64 pv, .bool false] 55)).cell? ⟨w2.heap.size, 2, none⟩ = some (.slice b3 d0 d3) := HK5.out.box.bx.1.2.2
          have hs5 : w2.heap.size + 1 ≤ (wr.alloc (.cells #[.int .i64 (q : Int), .int .i64 pv, .bool false] 55)).heap.size := HK5.out.box.lt
          have hs6 : (wr.alloc (.cells #[.int .i64 (q : Int), .int .i64 pv, .bool false] 55)).heap.size = wr.heap.size + 1 := by simp
          have HS6 : Hid ((wr.alloc (.cells #[.int .i64 (q : Int), .int .i64 pv, .bool false] 55)).heap.size = wr.heap.size + 1) := hs6
          clear hp hs6
          go_wp2_with (first
            | (at_builtin; refine append_p1 rfl _ _ rfl _ _ ((m.pend.map (fluP n)).take k) ⟨(q : Int), pv, tb⟩ HK5.out.own (by omega) hs5 rfl rfl (wr.heap.size + 1) HS6.out rfl ?_; intro g4 cap4 W4 o4 g4' at4 lt4; obtain ⟨X4, K4, T4⟩ := HK5.out.more o4 g4' at4; rw [hd0] at K4 T4; obtain ⟨⟨r0, r1, r2⟩, rf0, rf1, rf2⟩ := X4.bx; have HK4 : Hid (KO _ _ _ _ _ _ _) := K4; have HT4 : Hid (Below _ (wr.alloc (.cells #[.int .i64 (q : Int), .int .i64 pv, .bool false] 55)) _) := T4; clear o4 g4' at4 K4 T4 X4))
          have T : Below w2.heap.size wr _ := ((Below.refl w2.heap.size wr).alloc (by omega) _).trans HT4.out
          exact ⟨⟨k + 1, _, by omega, by go_num, by rw [HT.out]; exact HK4.out, HBo.out.trans T⟩, by simp [intOf]; omega⟩
        · have HK5 : Hid (KO (wr.alloc (.cells #[.int .i64 (q : Int), .int .i64 pv, .bool true] 55)) w2.heap.size (.slice a1 m.vol.length c1) (.slice a2 m.per.length c2) (.slice b3 d0 d3) m.per ((m.pend.map (fluP n)).take k)) := HKr.out.below ((Below.refl _ _).alloc (Nat.le_refl _) _)
          have HT : Hid ((m.pend.map (fluP n)).take (k + 1) = (m.pend.map (fluP n)).take k ++ [⟨(q : Int), pv, true⟩]) := take_next (by rw [List.getElem?_map, hp]; exact congrArg some (fluP_t n _ _))
          have zc : (wr.alloc (.cells #[.int .i64 (q : Int), .int .i64 pv, .bool true] 55)).cell? ⟨w2.heap.size, 2, none⟩ = some (.slice b3 d0 d3) := HK5.out.box.bx.1.2.2
          have hs5 : w2.heap.size + 1 ≤ (wr.alloc (.cells #[.int .i64 (q : Int), .int .i64 pv, .bool true] 55)).heap.size := HK5.out.box.lt
          have hs6 : (wr.alloc (.cells #[.int .i64 (q : Int), .int .i64 pv, .bool true] 55)).heap.size = wr.heap.size + 1 := by simp
          have HS6 : Hid ((wr.alloc (.cells #[.int .i64 (q : Int), .int .i64 pv, .bool true] 55)).heap.size = wr.heap.size + 1) := hs6
          clear hp hs6
          go_wp2_with (first
            | (at_builtin; refine append_p1 rfl _ _ rfl _ _ ((m.pend.map (fluP n)).take k) ⟨(q : Int), pv, true⟩ HK5.out.own (by omega) hs5 rfl rfl (wr.heap.size + 1) HS6.out rfl ?_; intro g4 cap4 W4 o4 g4' at4 lt4; obtain ⟨X4, K4, T4⟩ := HK5.out.more o4 g4' at4; rw [hd0] at K4 T4; obtain ⟨⟨r0, r1, r2⟩, rf0, rf1, rf2⟩ := X4.bx; have HK4 : Hid (KO _ _ _ _ _ _ _) := K4; have HT4 : Hid (Below _ (wr.alloc (.cells #[.int .i64 (q : Int), .int .i64 pv, .bool true] 55)) _) := T4; clear o4 g4' at4 K4 T4 X4))
          have T : Below w2.heap.size wr _ := ((Below.refl w2.heap.size wr).alloc (by omega) _).trans HT4.out
          exact ⟨⟨k + 1, _, by omega, by go_num, by rw [HT.out]; exact HK4.out, HBo.out.trans T⟩, by simp [intOf]; omega⟩

      · obtain rfl : k = m.pend.length := by omega
        rw [List.take_of_length_le (by simp)] at hK hfl
        obtain ⟨b3, d3, rfl⟩ := hK.own.form
        obtain ⟨⟨o0, o1, o2⟩, -⟩ := hK.box.bx
        obtain ⟨⟨y0, y1, y2⟩, yf0, yf1, yf2⟩ := HYr.out.bx
        have HMM : Hid (RdM wr (.slice a1 m.vol.length c1) (.slice a2 m.per.length c2) (.slice b3 (m.pend.map (fluP n)).length d3) ⟨m.vol, m.per, (m.pend.map (fluP n))⟩) := ⟨(HR.out.below HBr.out).vol, hK.rd, hK.own.rd hfl⟩
        obtain ⟨d0, hd0⟩ : ∃ d, (m.pend.map (fluP n)).length = d := ⟨_, rfl⟩
        rw [hd0] at HMM o2
        clear hK hbr hd0 hfl
        go_wp2
        obtain ⟨f1, f2, f3⟩ := finishR HMM.out HYr.out HBr.out (Nat.le_succ _)
        exact bodyPost_ret (ret_cell2 (p := 4) (u := 5) Try.results29 rfl f1) rfl ⟨_, _, _, by rw [HE.out]; rfl, by rw [HM.out]; exact f2, f3⟩
end Go.Proofs.Ythibgmndgkhfiaa
