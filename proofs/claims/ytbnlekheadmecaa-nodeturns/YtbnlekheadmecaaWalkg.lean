/- Walks of layer 4: Put. -/
import Derived.Test.YtbnlekheadmecaaWalkf
namespace Go.Proofs.Ytbnlekheadmecaa
open Go.RowKit
set_option linter.unusedVariables false

set_option maxRecDepth 100000 in
set_option maxHeartbeats 4000000 in
theorem put_any (va vb vc : Value) (m : Mm) (i v : Int) (w : World) (hR : RdM w va vb vc m) (hp : m.pend.length ≤ 900) : Calls Try.prog 55 #[.agg #[va, vb, vc], .int .i64 i, .int .i64 v] w fun e w' => ∃ va' vb' vc', e = .returned (.tuple #[.agg #[va', vb', vc'], .int .i64 (putE m i)]) ∧ RdM w' va' vb' vc' (putM m i v) ∧ Below w.heap.size w w' := by
  obtain ⟨l1, l2, l3⟩ := hR.lens
  obtain ⟨a1, c1, a2, c2, a3, c3, rfl, rfl, rfl⟩ := hR.forms
  have HB : Hid (Below w.heap.size w ((w.alloc (.cells #[.slice a1 m.vol.length c1, .slice a2 m.per.length c2, .slice a3 m.pend.length c3] 43)).alloc (.cells #[.slice none 0 0, .slice none 0 0, .slice none 0 0] 43))) := ((Below.refl _ _).alloc (Nat.le_refl _) _).alloc (by simp) _
  have X0 : Hid (Bx ((w.alloc (.cells #[.slice a1 m.vol.length c1, .slice a2 m.per.length c2, .slice a3 m.pend.length c3] 43)).alloc (.cells #[.slice none 0 0, .slice none 0 0, .slice none 0 0] 43)) w.heap.size (.slice a1 m.vol.length c1) (.slice a2 m.per.length c2) (.slice a3 m.pend.length c3)) := by (show Bx _ _ _ _ _; simp [Bx])
  have Y0 : Hid (Bx ((w.alloc (.cells #[.slice a1 m.vol.length c1, .slice a2 m.per.length c2, .slice a3 m.pend.length c3] 43)).alloc (.cells #[.slice none 0 0, .slice none 0 0, .slice none 0 0] 43)) (w.heap.size + 1) (.slice none 0 0) (.slice none 0 0) (.slice none 0 0)) := by (show Bx _ _ _ _ _; simp [Bx])
  have Hs : Hid (w.heap.size + 2 = ((w.alloc (.cells #[.slice a1 m.vol.length c1, .slice a2 m.per.length c2, .slice a3 m.pend.length c3] 43)).alloc (.cells #[.slice none 0 0, .slice none 0 0, .slice none 0 0] 43)).heap.size) := by (show _ = _; simp)
  have HR : Hid (RdM w (.slice a1 m.vol.length c1) (.slice a2 m.per.length c2) (.slice a3 m.pend.length c3) m) := hR
  clear hR
  cases e1 : ok m
  · have HN : Hid (putB m i = false) := putB_no (by rw [e1]; rintro ⟨h, _⟩; cases h)
    go_enter Try.func55, Try.ntmps55
    go_wp2_with (first
      | (go_at_call 54; refine (clone_any _ _ _ m _ (HR.out.below HB.out)).mono ?_; rintro e w1 ⟨v1, v2, v3, rfl, O1, hb1⟩; obtain ⟨b1, d1, b2, d2, b3, d3, rfl, rfl, rfl⟩ := (O1.rd l1 l2 l3).forms; have U1 := Out.made (w := w) O1 hb1.size; have T1 := hb1.alloc hb1.size (.cells #[.slice b1 m.vol.length d1, .slice b2 m.per.length d2, .slice b3 m.pend.length d3] 43); obtain ⟨⟨x0, x1, x2⟩, _⟩ := X0.out.far T1 (by have := Hs.out; omega); have HU1 : Hid (Out _ _ _ (.slice b1 m.vol.length d1) (.slice b2 m.per.length d2) (.slice b3 m.pend.length d3) m) := U1; have HT1 : Hid (Below _ _ _) := T1; clear U1 T1 O1 hb1)
      | (go_at_call 40; refine (check_any _ _ _ m _ (HR.out.below (HB.out.trans (HT1.out.mono HB.out.size)))).mono ?_; rintro e w3 ⟨rfl, hb3⟩; have HU3 : Hid (Out w3 _ _ (.slice b1 m.vol.length d1) (.slice b2 m.per.length d2) (.slice b3 m.pend.length d3) m) := HU1.out.below hb3; have HT3 : Hid (Below _ ((w.alloc (.cells #[.slice a1 m.vol.length c1, .slice a2 m.per.length c2, .slice a3 m.pend.length c3] 43)).alloc (.cells #[.slice none 0 0, .slice none 0 0, .slice none 0 0] 43)) w3) := bstep HT1.out hb3; obtain ⟨⟨z0, z1, z2⟩, zf⟩ := HU3.out.box; obtain ⟨⟨y0, y1, y2⟩, yf0, yf1, yf2⟩ := Y0.out.far HT3.out (by have := Hs.out; omega); obtain ⟨⟨q0, q1, q2⟩, _⟩ := X0.out.far HT3.out (by have := Hs.out; omega); clear zf HU1 HT1 hb3))
    obtain ⟨f1, f2, f3⟩ := finish3 HU3.out.own l1 l2 l3 (Y0.out.far HT3.out (by have := Hs.out; omega)) (by have := Hs.out; omega) (HB.out.trans (HT3.out.mono HB.out.size)) (Nat.le_succ _)
    exact bodyPost_ret (ret_cell2 (p := 6) (u := 7) Try.results55 rfl f1) rfl ⟨_, _, _, by rw [putE_no HN.out]; rfl, by rw [putM_no HN.out]; exact f2, f3⟩
  · by_cases h0 : i < 0
    · have HN : Hid (putB m i = false) := putB_no (by omega)
      go_enter Try.func55, Try.ntmps55
      go_wp2_with (first
        | (go_at_call 54; refine (clone_any _ _ _ m _ (HR.out.below HB.out)).mono ?_; rintro e w1 ⟨v1, v2, v3, rfl, O1, hb1⟩; obtain ⟨b1, d1, b2, d2, b3, d3, rfl, rfl, rfl⟩ := (O1.rd l1 l2 l3).forms; have U1 := Out.made (w := w) O1 hb1.size; have T1 := hb1.alloc hb1.size (.cells #[.slice b1 m.vol.length d1, .slice b2 m.per.length d2, .slice b3 m.pend.length d3] 43); obtain ⟨⟨x0, x1, x2⟩, _⟩ := X0.out.far T1 (by have := Hs.out; omega); have HU1 : Hid (Out _ _ _ (.slice b1 m.vol.length d1) (.slice b2 m.per.length d2) (.slice b3 m.pend.length d3) m) := U1; have HT1 : Hid (Below _ _ _) := T1; clear U1 T1 O1 hb1)
        | (go_at_call 40; refine (check_any _ _ _ m _ (HR.out.below (HB.out.trans (HT1.out.mono HB.out.size)))).mono ?_; rintro e w3 ⟨rfl, hb3⟩; have HU3 : Hid (Out w3 _ _ (.slice b1 m.vol.length d1) (.slice b2 m.per.length d2) (.slice b3 m.pend.length d3) m) := HU1.out.below hb3; have HT3 : Hid (Below _ ((w.alloc (.cells #[.slice a1 m.vol.length c1, .slice a2 m.per.length c2, .slice a3 m.pend.length c3] 43)).alloc (.cells #[.slice none 0 0, .slice none 0 0, .slice none 0 0] 43)) w3) := bstep HT1.out hb3; obtain ⟨⟨z0, z1, z2⟩, zf⟩ := HU3.out.box; obtain ⟨⟨y0, y1, y2⟩, yf0, yf1, yf2⟩ := Y0.out.far HT3.out (by have := Hs.out; omega); obtain ⟨⟨q0, q1, q2⟩, _⟩ := X0.out.far HT3.out (by have := Hs.out; omega); clear zf HU1 HT1 hb3))
      obtain ⟨f1, f2, f3⟩ := finish3 HU3.out.own l1 l2 l3 (Y0.out.far HT3.out (by have := Hs.out; omega)) (by have := Hs.out; omega) (HB.out.trans (HT3.out.mono HB.out.size)) (Nat.le_succ _)
      exact bodyPost_ret (ret_cell2 (p := 6) (u := 7) Try.results55 rfl f1) rfl ⟨_, _, _, by rw [putE_no HN.out]; rfl, by rw [putM_no HN.out]; exact f2, f3⟩
    · by_cases h1 : (m.vol.length : Int) ≤ i
      · have HN : Hid (putB m i = false) := putB_no (by omega)
        go_enter Try.func55, Try.ntmps55
        go_wp2_with (first
          | (go_at_call 54; refine (clone_any _ _ _ m _ (HR.out.below HB.out)).mono ?_; rintro e w1 ⟨v1, v2, v3, rfl, O1, hb1⟩; obtain ⟨b1, d1, b2, d2, b3, d3, rfl, rfl, rfl⟩ := (O1.rd l1 l2 l3).forms; have U1 := Out.made (w := w) O1 hb1.size; have T1 := hb1.alloc hb1.size (.cells #[.slice b1 m.vol.length d1, .slice b2 m.per.length d2, .slice b3 m.pend.length d3] 43); obtain ⟨⟨x0, x1, x2⟩, _⟩ := X0.out.far T1 (by have := Hs.out; omega); have HU1 : Hid (Out _ _ _ (.slice b1 m.vol.length d1) (.slice b2 m.per.length d2) (.slice b3 m.pend.length d3) m) := U1; have HT1 : Hid (Below _ _ _) := T1; clear U1 T1 O1 hb1)
          | (go_at_call 40; refine (check_any _ _ _ m _ (HR.out.below (HB.out.trans (HT1.out.mono HB.out.size)))).mono ?_; rintro e w3 ⟨rfl, hb3⟩; have HU3 : Hid (Out w3 _ _ (.slice b1 m.vol.length d1) (.slice b2 m.per.length d2) (.slice b3 m.pend.length d3) m) := HU1.out.below hb3; have HT3 : Hid (Below _ ((w.alloc (.cells #[.slice a1 m.vol.length c1, .slice a2 m.per.length c2, .slice a3 m.pend.length c3] 43)).alloc (.cells #[.slice none 0 0, .slice none 0 0, .slice none 0 0] 43)) w3) := bstep HT1.out hb3; obtain ⟨⟨z0, z1, z2⟩, zf⟩ := HU3.out.box; obtain ⟨⟨y0, y1, y2⟩, yf0, yf1, yf2⟩ := Y0.out.far HT3.out (by have := Hs.out; omega); obtain ⟨⟨q0, q1, q2⟩, _⟩ := X0.out.far HT3.out (by have := Hs.out; omega); clear zf HU1 HT1 hb3))
        obtain ⟨f1, f2, f3⟩ := finish3 HU3.out.own l1 l2 l3 (Y0.out.far HT3.out (by have := Hs.out; omega)) (by have := Hs.out; omega) (HB.out.trans (HT3.out.mono HB.out.size)) (Nat.le_succ _)
        exact bodyPost_ret (ret_cell2 (p := 6) (u := 7) Try.results55 rfl f1) rfl ⟨_, _, _, by rw [putE_no HN.out]; rfl, by rw [putM_no HN.out]; exact f2, f3⟩
      · have HN : Hid (putB m i = true) := putB_yes e1 (by omega) (by omega)
        obtain ⟨q, rfl⟩ := Int.eq_ofNat_of_zero_le (show 0 ≤ i by omega)
        go_enter Try.func55, Try.ntmps55
        go_wp2_with (first
          | (go_at_call 54; refine (clone_any _ _ _ m _ (HR.out.below HB.out)).mono ?_; rintro e w1 ⟨v1, v2, v3, rfl, O1, hb1⟩; obtain ⟨b1, d1, b2, d2, b3, d3, rfl, rfl, rfl⟩ := (O1.rd l1 l2 l3).forms; have U1 := Out.made (w := w) O1 hb1.size; have T1 := hb1.alloc hb1.size (.cells #[.slice b1 m.vol.length d1, .slice b2 m.per.length d2, .slice b3 m.pend.length d3] 43); obtain ⟨⟨x0, x1, x2⟩, _⟩ := X0.out.far T1 (by have := Hs.out; omega); have HU1 : Hid (Out _ _ _ (.slice b1 m.vol.length d1) (.slice b2 m.per.length d2) (.slice b3 m.pend.length d3) m) := U1; have HT1 : Hid (Below _ _ _) := T1; clear U1 T1 O1 hb1)
          | (go_at_call 40; refine (check_any _ _ _ m _ (HR.out.below (HB.out.trans (HT1.out.mono HB.out.size)))).mono ?_; rintro e w3 ⟨rfl, hb3⟩; have HU3 : Hid (Out w3 _ _ (.slice b1 m.vol.length d1) (.slice b2 m.per.length d2) (.slice b3 m.pend.length d3) m) := HU1.out.below hb3; have HT3 : Hid (Below _ ((w.alloc (.cells #[.slice a1 m.vol.length c1, .slice a2 m.per.length c2, .slice a3 m.pend.length c3] 43)).alloc (.cells #[.slice none 0 0, .slice none 0 0, .slice none 0 0] 43)) w3) := bstep HT1.out hb3; obtain ⟨⟨z0, z1, z2⟩, zf⟩ := HU3.out.box; obtain ⟨⟨y0, y1, y2⟩, yf0, yf1, yf2⟩ := Y0.out.far HT3.out (by have := Hs.out; omega); obtain ⟨⟨q0, q1, q2⟩, _⟩ := X0.out.far HT3.out (by have := Hs.out; omega); clear zf HU1 HT1 hb3; obtain ⟨g, rfl, ⟨hc, hf⟩, hset⟩ := HU3.out.setVol (k := q) (by omega); obtain ⟨U4, T4⟩ := hset v; have HU4 : Hid (Out _ _ _ _ _ _ _) := U4; have HT4 : Hid (Below _ ((w.alloc (.cells #[.slice a1 m.vol.length c1, .slice a2 m.per.length c2, .slice a3 m.pend.length c3] 43)).alloc (.cells #[.slice none 0 0, .slice none 0 0, .slice none 0 0] 43)) _) := HT3.out.trans T4; obtain ⟨⟨z0', z1', z2'⟩, _⟩ := U4.box; clear U4 T4 hset)
          | (at_builtin; refine append_p1 rfl _ _ rfl _ _ m.pend ⟨(q : Int), v, false⟩ HU4.out.own.pend (by omega) (Nat.le_of_lt (Nat.lt_of_le_of_lt HU4.out.hb HU4.out.box.lt)) rfl rfl w3.heap.size (by simp) rfl ?_; intro g5 cap5 w5 o5 g5' at5 lt5; obtain ⟨X5, U5, T5⟩ := HU4.out.more o5 g5' at5; obtain ⟨⟨r0, r1, r2⟩, rf0, rf1, rf2⟩ := X5; obtain ⟨⟨s0, s1, s2⟩, _⟩ := U5.box; have HU5 : Hid (Out _ _ _ _ _ _ _) := U5; have HT5 : Hid (Below _ ((w.alloc (.cells #[.slice a1 m.vol.length c1, .slice a2 m.per.length c2, .slice a3 m.pend.length c3] 43)).alloc (.cells #[.slice none 0 0, .slice none 0 0, .slice none 0 0] 43)) _) := HT4.out.trans T5; obtain ⟨⟨y0', y1', y2'⟩, yf0', yf1', yf2'⟩ := Y0.out.far HT5.out (by have := Hs.out; omega); clear o5 g5' at5 U5 T5))
        obtain ⟨f1, f2, f3⟩ := finish3 HU5.out.own (by show (m.vol.set q v).length ≤ 1000; rw [List.length_set]; exact l1) l2 (by show (m.pend ++ [_]).length ≤ 1000; rw [List.length_append]; show _ + 1 ≤ _; omega) (Y0.out.far HT5.out (by have := Hs.out; omega)) (by have := Hs.out; omega) (HB.out.trans (HT5.out.mono HB.out.size)) (Nat.le_succ _)
        exact bodyPost_ret (ret_cell2 (p := 6) (u := 7) Try.results55 rfl f1) rfl ⟨_, _, _, by rw [putE_yes HN.out]; rfl, by rw [putM_yes HN.out]; exact f2, f3⟩

/-- A new memory. -/
def newM (l : List Int) : Mm := if mayB l.length then ⟨l, l, []⟩ else ⟨[], [], []⟩
def newE (l : List Int) : Int := if mayB l.length then 0 else 40
theorem Rd.bare (W : World) : Rd W (.slice none 0 0) [] := ⟨rfl, by simp, none, 0, rfl, Nat.le_refl _, .inl ⟨rfl, fun _ => rfl⟩⟩
theorem RdP.bare (W : World) : RdP W (.slice none 0 0) [] := ⟨rfl, by simp, none, 0, rfl, Nat.le_refl _, .inl ⟨rfl, fun _ => rfl⟩⟩

set_option maxRecDepth 100000 in
set_option maxHeartbeats 2000000 in
theorem new_any (va : Value) (l : List Int) (w : World) (hR : Rd w va l) : Calls Try.prog 21 #[va] w fun e w' => ∃ va' vb' vc', e = .returned (.tuple #[.agg #[va', vb', vc'], .int .i64 (newE l)]) ∧ RdM w' va' vb' vc' (newM l) ∧ Below w.heap.size w w' := by
  obtain ⟨l1, a1, c1, rfl⟩ := hR.form
  have HB : Hid (Below w.heap.size w (w.alloc (.cells #[.slice none 0 0, .slice none 0 0, .slice none 0 0] 43))) := (Below.refl _ _).alloc (Nat.le_refl _) _
  have Y0 : Hid (Bx (w.alloc (.cells #[.slice none 0 0, .slice none 0 0, .slice none 0 0] 43)) w.heap.size (.slice none 0 0) (.slice none 0 0) (.slice none 0 0)) := by (show Bx _ _ _ _ _; simp [Bx])
  cases e1 : mayB l.length
  · have HM : Hid (newM l = ⟨[], [], []⟩) := by (show newM l = _; unfold newM; rw [e1]; rfl)
    have HE : Hid (newE l = 40) := by (show newE l = _; unfold newE; rw [e1]; rfl)
    go_enter Try.func21, Try.ntmps21
    go_wp2_with (first
      | (go_at_call 32; refine (mayHave_any _ _ (by omega)).mono ?_; rintro e w' ⟨rfl, hw⟩; rw [hw]; clear hw w'))
    exact bodyPost_ret (ret_cell2 (p := 2) (u := 3) Try.results21 rfl Y0.out) rfl ⟨_, _, _, by rw [HE.out]; rfl, by rw [HM.out]; exact ⟨Rd.bare _, Rd.bare _, RdP.bare _⟩, HB.out⟩
  · have HM : Hid (newM l = ⟨l, l, []⟩) := by (show newM l = _; unfold newM; rw [e1]; rfl)
    have HE : Hid (newE l = 0) := by (show newE l = _; unfold newE; rw [e1]; rfl)
    have t1 : Hid (0 = 0) := rfl
    go_enter Try.func21, Try.ntmps21
    go_wp2_with (first
      | (go_at_call 32; refine (mayHave_any _ _ (by omega)).mono ?_; rintro e w' ⟨rfl, hw⟩; rw [hw]; clear hw w')
      | (go_at_call 33; clear t1; refine (cloneI_any _ l _ (hR.below HB.out)).mono ?_; rintro e w1 ⟨v1, rfl, o1, hb1⟩; obtain ⟨b1, d1, rfl⟩ := o1.form)
      | (go_at_call 33; refine (cloneI_any _ l _ (hR.below (bstep HB.out hb1))).mono ?_; rintro e w2 ⟨v2, rfl, o2, hb2⟩; obtain ⟨b2, d2, rfl⟩ := o2.form; obtain ⟨⟨y0, y1, y2⟩, f0, f1, f2⟩ := (Y0.out.below hb1).below hb2))
    have hs : w.heap.size < (w.alloc (.cells #[.slice none 0 0, .slice none 0 0, .slice none 0 0] 43)).heap.size := by simp
    have o1' : OwnI w2 (w.alloc (.cells #[.slice none 0 0, .slice none 0 0, .slice none 0 0] 43)).heap.size (.slice b1 l.length d1) l := own_below o1 hb2
    have o2' : OwnI w2 (w.alloc (.cells #[.slice none 0 0, .slice none 0 0, .slice none 0 0] 43)).heap.size (.slice b2 l.length d2) l := own_mono o2 hb1.size
    have o3' : OwnP w2 (w.alloc (.cells #[.slice none 0 0, .slice none 0 0, .slice none 0 0] 43)).heap.size (.slice none 0 0) [] := World.ownsRow_nil _ _ _ _
    have oM : OwnM w2 (w.alloc (.cells #[.slice none 0 0, .slice none 0 0, .slice none 0 0] 43)).heap.size (.slice b1 l.length d1) (.slice b2 l.length d2) (.slice none 0 0) ⟨l, l, []⟩ := ⟨o1', o2', o3', apart_made o1 o2 (Nat.le_refl _), (fun g _ h => by cases h), (fun g _ h => by cases h)⟩
    obtain ⟨f1, f2, f3⟩ := finish3 oM l1 l1 (by simp) ((Y0.out.below hb1).below hb2) hs (bstep (bstep HB.out hb1) hb2) (Nat.le_refl _)
    exact bodyPost_ret (ret_cell2 (p := 2) (u := 3) Try.results21 rfl f1) rfl ⟨_, _, _, by rw [HE.out]; rfl, by rw [HM.out]; exact f2, f3⟩
end Go.Proofs.Ytbnlekheadmecaa

