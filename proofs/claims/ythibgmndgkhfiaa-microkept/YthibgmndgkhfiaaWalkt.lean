/- Walks of layer 4: the document's own answers: what is kept. -/
import Derived.Test.YthibgmndgkhfiaaWalks
namespace Go.Proofs.Ythibgmndgkhfiaa
open Go.RowKit Go.Shelf
set_option linter.unusedVariables false

set_option maxRecDepth 100000 in
set_option maxHeartbeats 8000000 in
theorem keepR_any (va vb vc vt : Value) (m : Mm) (bs : List Bool) (w : World) (hR : RdM w va vb vc m) (hT : RdB w vt bs) (hl : bs.length = m.pend.length) (hI : InPl m.per.length m.pend) :
    Calls Try.prog 41 #[.agg #[va, vb, vc], vt] w fun e w' => ∃ va' vb' vc', e = .returned (.agg #[va', vb', vc']) ∧ RdM w' va' vb' vc' (kM m (m.pend.zip bs)) ∧ Below w.heap.size w w' := by
  obtain ⟨l1, l2, l3⟩ := hR.lens
  obtain ⟨a1, c1, a2, c2, a3, c3, rfl, rfl, rfl⟩ := hR.forms
  obtain ⟨_, _, at', ct, rfl, _⟩ := id hT
  rw [hl]
  have hT : RdB w (.slice at' m.pend.length ct) bs := by rw [← hl]; exact hT
  have hs0 : ((w.alloc (.cells #[.slice a1 m.vol.length c1, .slice a2 m.per.length c2, .slice a3 m.pend.length c3] 25)).alloc (.cells #[.slice none 0 0, .slice none 0 0, .slice none 0 0] 25)).heap.size = w.heap.size + 2 := by simp
  have b1 : Below ((w.alloc (.cells #[.slice a1 m.vol.length c1, .slice a2 m.per.length c2, .slice a3 m.pend.length c3] 25)).alloc (.cells #[.slice none 0 0, .slice none 0 0, .slice none 0 0] 25)).heap.size ((w.alloc (.cells #[.slice a1 m.vol.length c1, .slice a2 m.per.length c2, .slice a3 m.pend.length c3] 25)).alloc (.cells #[.slice none 0 0, .slice none 0 0, .slice none 0 0] 25)) (((w.alloc (.cells #[.slice a1 m.vol.length c1, .slice a2 m.per.length c2, .slice a3 m.pend.length c3] 25)).alloc (.cells #[.slice none 0 0, .slice none 0 0, .slice none 0 0] 25)).alloc (.cells #[.slice a1 m.vol.length c1, .slice a2 m.per.length c2, .slice none 0 0] 25)) := (Below.refl _ _).alloc (Nat.le_refl _) _
  have b0 : Below w.heap.size w ((w.alloc (.cells #[.slice a1 m.vol.length c1, .slice a2 m.per.length c2, .slice a3 m.pend.length c3] 25)).alloc (.cells #[.slice none 0 0, .slice none 0 0, .slice none 0 0] 25)) := ((Below.refl _ _).alloc (Nat.le_refl _) _).alloc (by simp) _
  have HX : Hid (Bo (((w.alloc (.cells #[.slice a1 m.vol.length c1, .slice a2 m.per.length c2, .slice a3 m.pend.length c3] 25)).alloc (.cells #[.slice none 0 0, .slice none 0 0, .slice none 0 0] 25)).alloc (.cells #[.slice a1 m.vol.length c1, .slice a2 m.per.length c2, .slice none 0 0] 25)) w.heap.size (.slice a1 m.vol.length c1) (.slice a2 m.per.length c2) (.slice a3 m.pend.length c3)) := ((Bo.new w _ _ _).below ((Below.refl _ _).alloc (Nat.le_refl _) _)).below b1
  have HY : Hid (Bo (((w.alloc (.cells #[.slice a1 m.vol.length c1, .slice a2 m.per.length c2, .slice a3 m.pend.length c3] 25)).alloc (.cells #[.slice none 0 0, .slice none 0 0, .slice none 0 0] 25)).alloc (.cells #[.slice a1 m.vol.length c1, .slice a2 m.per.length c2, .slice none 0 0] 25)) (w.heap.size + 1) (.slice none 0 0) (.slice none 0 0) (.slice none 0 0)) := by (have := (Bo.new (w.alloc (.cells #[.slice a1 m.vol.length c1, .slice a2 m.per.length c2, .slice a3 m.pend.length c3] 25)) (.slice none 0 0) (.slice none 0 0) (.slice none 0 0)).below b1; rwa [World.size_alloc] at this)
  have HZ : Hid (Bo (((w.alloc (.cells #[.slice a1 m.vol.length c1, .slice a2 m.per.length c2, .slice a3 m.pend.length c3] 25)).alloc (.cells #[.slice none 0 0, .slice none 0 0, .slice none 0 0] 25)).alloc (.cells #[.slice a1 m.vol.length c1, .slice a2 m.per.length c2, .slice none 0 0] 25)) (w.heap.size + 2) (.slice a1 m.vol.length c1) (.slice a2 m.per.length c2) (.slice none 0 0)) := by (have := Bo.new ((w.alloc (.cells #[.slice a1 m.vol.length c1, .slice a2 m.per.length c2, .slice a3 m.pend.length c3] 25)).alloc (.cells #[.slice none 0 0, .slice none 0 0, .slice none 0 0] 25)) (.slice a1 m.vol.length c1) (.slice a2 m.per.length c2) (.slice none 0 0); rwa [hs0] at this)
  have HB : Hid (Below w.heap.size w (((w.alloc (.cells #[.slice a1 m.vol.length c1, .slice a2 m.per.length c2, .slice a3 m.pend.length c3] 25)).alloc (.cells #[.slice none 0 0, .slice none 0 0, .slice none 0 0] 25)).alloc (.cells #[.slice a1 m.vol.length c1, .slice a2 m.per.length c2, .slice none 0 0] 25))) := bstep b0 b1
  have HR : Hid (RdM w (.slice a1 m.vol.length c1) (.slice a2 m.per.length c2) (.slice a3 m.pend.length c3) m) := hR
  have HT : Hid (RdB w (.slice at' m.pend.length ct) bs) := hT
  have HI : Hid (InPl m.per.length m.pend) := hI
  have HL : Hid (bs.length = m.pend.length) := hl
  clear b0 b1 hs0 hR hT hI hl
  go_enter Try.func41, Try.ntmps41
  go_wp2
  generalize (((w.alloc (.cells #[.slice a1 m.vol.length c1, .slice a2 m.per.length c2, .slice a3 m.pend.length c3] 25)).alloc (.cells #[.slice none 0 0, .slice none 0 0, .slice none 0 0] 25)).alloc (.cells #[.slice a1 m.vol.length c1, .slice a2 m.per.length c2, .slice none 0 0] 25)) = W1 at HX HY HZ HB ⊢
  obtain ⟨ob, HO⟩ : ∃ ob, Hid (w.heap.size + 2 = ob) := ⟨_, rfl⟩
  rw [HO.out] at HZ
  rw [show w.heap.size + 1 + 1 = ob from HO.out]
  have HK : Hid (KO W1 ob (.slice a1 m.vol.length c1) (.slice a2 m.per.length c2) (.slice none 0 0) m.per []) := ⟨HZ.out, (HR.out.below HB.out).per, World.ownsRow_nil _ _ _ _, .inr fun g h => by cases h⟩
  clear HZ
  go_loopw [6] (fun s w1 => ∃ (k : Nat) (v2 v3 : Value), k ≤ m.pend.length ∧ s = .int .i64 k ∧ KO w1 ob (.slice a1 m.vol.length c1) v2 v3 (kPer m.per ((m.pend.zip bs).take k)) (kPend ((m.pend.zip bs).take k)) ∧ Below ob W1 w1) (fun s _ => m.pend.length - (intOf s).toNat)
  case atStart => exact ⟨0, _, _, Nat.zero_le _, rfl, HK.out, Below.refl _ _⟩
  case round =>
    obtain ⟨k, v2, v3, hk, rfl, hK, hbr⟩ := hrel
    have HBr : Hid (Below w.heap.size w wr) := HB.out.trans (hbr.mono (by have := HO.out; omega))
    have HBo : Hid (Below ob W1 wr) := hbr
    have HXr : Hid (Bx wr w.heap.size (.slice a1 m.vol.length c1) (.slice a2 m.per.length c2) (.slice a3 m.pend.length c3)) := HX.out.bx.far hbr (by have := HO.out; omega)
    obtain ⟨-, b2, d2, rfl⟩ := hK.rd.form
    obtain ⟨b3, d3, rfl⟩ := hK.own.form
    obtain ⟨⟨x0, x1, x2⟩, -⟩ := HXr.out
    have hkl : (kPend ((m.pend.zip bs).take k)).length ≤ 1000 := Nat.le_trans (kPend_length _) (by rw [List.length_take]; omega)
    have hpl : (kPer m.per ((m.pend.zip bs).take k)).length ≤ 1000 := by rw [kPer_length]; exact l2
    by_cases hlt : k < m.pend.length
    · have hltI : (k : Int) < (m.pend.length : Int) := by omega
      obtain ⟨p, hp⟩ : ∃ p, m.pend[k]? = some p := ⟨_, List.getElem?_eq_getElem hlt⟩
      obtain ⟨bb, hb⟩ : ∃ b, bs[k]? = some b := ⟨_, List.getElem?_eq_getElem (by rw [HL.out]; exact hlt)⟩
      have hin := HI.out p (List.mem_of_getElem? hp)
      have HZ : Hid ((m.pend.zip bs).take (k + 1) = (m.pend.zip bs).take k ++ [(p, bb)]) := take_next (zip_get hp hb)
      obtain ⟨blk, off, rfl, y0, y1, y2⟩ := (HR.out.below HBr.out).pend.get hp
      obtain ⟨gt, ot, rfl, t0⟩ := RdB.at (RdC.below HT.out HBr.out) hb
      obtain ⟨pa, pv, pf⟩ := p
      dsimp only at y0 y1 y2 hin
      obtain ⟨q, rfl⟩ := Int.eq_ofNat_of_zero_le hin.1
      have hq : q < (kPer m.per ((m.pend.zip bs).take k)).length := by (rw [kPer_length]; have := hin.2; omega)
      have HK' : Hid (KO wr.drew ob (.slice a1 m.vol.length c1) (.slice b2 (kPer m.per ((m.pend.zip bs).take k)).length d2) (.slice b3 (kPend ((m.pend.zip bs).take k)).length d3) (kPer m.per ((m.pend.zip bs).take k)) (kPend ((m.pend.zip bs).take k))) := hK.below (Below.refl _ _).drew
      have HKr : Hid (KO wr ob (.slice a1 m.vol.length c1) (.slice b2 (kPer m.per ((m.pend.zip bs).take k)).length d2) (.slice b3 (kPend ((m.pend.zip bs).take k)).length d3) (kPer m.per ((m.pend.zip bs).take k)) (kPend ((m.pend.zip bs).take k))) := hK
      obtain ⟨⟨z0, z1, z2⟩, zf0, zf1, zf2⟩ := hK.box.bx
      clear hK hbr hin hp hb
      cases bb
      · have hs2 : ob + 1 ≤ wr.heap.size := HKr.out.box.lt
        have za2 : (wr.alloc (.cells #[.int .i64 (q : Int), .int .i64 pv, .bool pf] 55)).cell? ⟨ob, 2, none⟩ = some (.slice b3 (kPend ((m.pend.zip bs).take k)).length d3) := ((HKr.out.below ((Below.refl _ _).alloc (Nat.le_refl _) _)).box.bx).1.2.2
        go_wp2
        go_region_law (refine step_p1 rfl (.tmp 40) (.tmp 46) rfl (ob + 1) _ (kPend ((m.pend.zip bs).take k)) ⟨(q : Int), pv, pf⟩ HKr.out.own (by omega) hs2 rfl rfl rfl ?_; intro g4 cap4 w4 o4 g4' at4 lt4; obtain ⟨X4, K4, T4⟩ := HKr.out.more o4 g4' at4; obtain ⟨⟨r0, r1, r2⟩, rf0, rf1, rf2⟩ := X4.bx; have HK4 : Hid (KO _ _ _ _ _ _ _) := K4; have HT4 : Hid (Below _ wr _) := T4; clear o4 g4' at4 K4 T4 X4)
        all_goals
          go_wp2
          have T := HT4.out
          exact ⟨⟨k + 1, _, _, by omega, by go_num, by rw [HZ.out]; have e := kM_no m ((m.pend.zip bs).take k) ⟨(q : Int), pv, pf⟩; rw [show kPer m.per ((m.pend.zip bs).take k ++ [(⟨(q : Int), pv, pf⟩, false)]) = _ from congrArg Mm.per e, show kPend ((m.pend.zip bs).take k ++ [(⟨(q : Int), pv, pf⟩, false)]) = _ from congrArg Mm.pend e]; exact HK4.out, HBo.out.trans T⟩, by simp [intOf]; omega⟩
      · go_wp2
        go_region_with (first | (go_at_call 39; refine (setR_any _ (kPer m.per ((m.pend.zip bs).take k)) q pv _ HK'.out.rd hq).mono ?_; rintro e w4 ⟨v4, rfl, O4, hb4⟩; obtain ⟨b4, d4, rfl⟩ := O4.form; rw [List.length_set] at O4; obtain ⟨X4, K4, T4⟩ := HK'.out.set O4 hb4 (by rw [List.length_set]; exact hpl); obtain ⟨⟨r0, r1, r2⟩, rf0, rf1, rf2⟩ := X4.bx; have HK4 : Hid (KO _ _ _ _ _ _ _) := K4; have HT4 : Hid (Below _ wr.drew _) := T4; clear K4 T4 X4 O4 hb4))
        all_goals
          go_wp2
          have T := (Below.refl ob wr).drew.trans HT4.out
          exact ⟨⟨k + 1, _, _, by omega, by go_num, by rw [HZ.out]; have e := kM_yes m ((m.pend.zip bs).take k) ⟨(q : Int), pv, pf⟩; rw [show kPer m.per ((m.pend.zip bs).take k ++ [(⟨(q : Int), pv, pf⟩, true)]) = _ from congrArg Mm.per e, show kPend ((m.pend.zip bs).take k ++ [(⟨(q : Int), pv, pf⟩, true)]) = _ from congrArg Mm.pend e]; exact HK4.out, HBo.out.trans T⟩, by simp [intOf]; omega⟩
    · rw [List.take_of_length_le (by rw [List.length_zip]; omega)] at hK hkl hpl
      obtain ⟨⟨o0, o1, o2⟩, -⟩ := hK.box.bx
      have HYr : Hid (Bo wr (w.heap.size + 1) (.slice none 0 0) (.slice none 0 0) (.slice none 0 0)) := (HBo.out.block _ (by have := HO.out; omega)).trans HY.out
      obtain ⟨⟨y0, y1, y2⟩, yf0, yf1, yf2⟩ := HYr.out.bx
      have HM : Hid (RdM wr (.slice a1 m.vol.length c1) (.slice b2 (kPer m.per (m.pend.zip bs)).length d2) (.slice b3 (kPend (m.pend.zip bs)).length d3) (kM m (m.pend.zip bs))) := ⟨(HR.out.below HBr.out).vol, hK.rd, hK.own.rd hkl⟩
      clear hK hbr
      go_wp2
      obtain ⟨f1, f2, f3⟩ := finishR HM.out HYr.out HBr.out (Nat.le_succ _)
      exact bodyPost_ret (ret_cell (p := 4) (b := w.heap.size + 1) Try.results41 rfl f1) rfl ⟨_, _, _, rfl, f2, f3⟩
end Go.Proofs.Ythibgmndgkhfiaa

