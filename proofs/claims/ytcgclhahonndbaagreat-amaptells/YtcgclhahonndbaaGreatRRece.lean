/- Set over from a lower layer: RRece. -/
import Derived.Test.YtcgclhahonndbaaGreatRKeywalka
import Derived.Test.YtcgclhahonndbaaGreatRKeywalkc
import Derived.Test.YtcgclhahonndbaaGreatRReca
import Derived.Test.YtcgclhahonndbaaGreatBase
import Derived.Test.YtcgclhahonndbaaGreatSSupa
import Derived.Test.YtcgclhahonndbaaGreatNNodz
import Derived.Test.YtcgclhahonndbaaGreatSSumz
import Derived.Test.YtcgclhahonndbaaGreatRRecz
namespace Go.Proofs.YtcgclhahonndbaaGreat
open Go.RowKit Go.Shelf
set_option linter.unusedVariables false
/-- The words of a text, as they are read. -/
theorem words_rd (s : ByteArray) (w : World) (hs : s.size ≤ 21) : Calls Tryz.prog 56 #[.string s] w fun e w' => ∃ v, e = .returned v ∧ Rd w' v (Ky.wsl s.data.toList) ∧ Below w.heap.size w w' := by
  refine (Ky.words_any s w (by omega)).mono ?_
  rintro e w' ⟨v, rfl, o, _, hb⟩
  exact ⟨v, rfl, Rd.own o (by have := wsl_small s hs; omega), hb⟩
def im0 (x : Rc) : List Int := hdL x ++ List.replicate 14 0
def im1 (x : Rc) : List Int := splice (im0 x) 3 ((Ky.wsl x.key.data.toList).take 3)
def im2 (x : Rc) : List Int := splice (im1 x) 6 ((Ky.wsl x.val.data.toList).take 3)
theorem Rimage_start (x : Rc) (w : World) (W : World) (hW : W = ((w.alloc (.cells #[.int .i64 x.k, .string x.key, .string x.val, .int .i64 x.ch] 40)).alloc (.cells #[.int .i64 0, .int .i64 0, .int .i64 0, .int .i64 0, .int .i64 0, .int .i64 0, .int .i64 0, .int .i64 0, .int .i64 0, .int .i64 0, .int .i64 0, .int .i64 0, .int .i64 0, .int .i64 0, .int .i64 0, .int .i64 0] 61)).alloc (.cells #[.int .i64 x.k, .int .i64 (32 * (x.key.size : Int) + (x.val.size : Int)), .int .i64 0, .int .i64 0, .int .i64 0, .int .i64 0, .int .i64 0, .int .i64 0, .int .i64 0, .int .i64 0, .int .i64 0, .int .i64 0, .int .i64 0, .int .i64 0, .int .i64 0, .int .i64 0] 61)) :
    RcAt W.drew w.heap.size x ∧ Im W.drew (w.heap.size + 1) zeros16 ∧ Im W.drew (w.heap.size + 1 + 1) (im0 x) ∧ Below w.heap.size w W.drew := by
  subst hW
  refine ⟨?_, ?_, ?_, ?_⟩
  · show ((w.alloc _).alloc _ |>.alloc _).heap[w.heap.size]? = _
    rw [Go.heap_alloc_old _ _ (by simp; omega), Go.heap_alloc_old _ _ (by simp), Go.heap_alloc_new]
  · show ((w.alloc _).alloc _ |>.alloc _).heap[w.heap.size + 1]? = _
    rw [Go.heap_alloc_old _ _ (by simp), show w.heap.size + 1 = (w.alloc (.cells #[.int .i64 x.k, .string x.key, .string x.val, .int .i64 x.ch] 40)).heap.size by simp, Go.heap_alloc_new]
    rfl
  · show ((w.alloc _).alloc _ |>.alloc _).heap[w.heap.size + 1 + 1]? = _
    rw [show w.heap.size + 1 + 1 = ((w.alloc (.cells #[.int .i64 x.k, .string x.key, .string x.val, .int .i64 x.ch] 40)).alloc (.cells #[.int .i64 0, .int .i64 0, .int .i64 0, .int .i64 0, .int .i64 0, .int .i64 0, .int .i64 0, .int .i64 0, .int .i64 0, .int .i64 0, .int .i64 0, .int .i64 0, .int .i64 0, .int .i64 0, .int .i64 0, .int .i64 0] 61)).heap.size by simp, Go.heap_alloc_new]
    rfl
  · exact ((((Below.refl _ w).alloc (Nat.le_refl _) _).alloc (by simp) _).alloc (by simp; omega) _).drew
theorem im0_length (x : Rc) : (im0 x).length = 16 := rfl
def im3 (x : Rc) : List Int := if x.k = 2 then (im2 x).set 6 x.ch else im2 x
theorem p3_rep (l : List Int) (m : Nat) (h : l.length ≤ 3) : p3 l ++ List.replicate m 0 = l ++ List.replicate (m + 3 - l.length) 0 := by
  unfold p3
  rw [List.append_assoc, List.replicate_append_replicate]
  congr 2
  omega
theorem im1_eq {x : Rc} (hx : OkR x) : im1 x = hdL x ++ 0 :: (kwL x ++ List.replicate 10 0) := by
  have hl := wsl_small x.key hx.key
  unfold im1 kwL
  rw [List.take_of_length_le hl, p3_rep _ _ hl]
  generalize Ky.wsl x.key.data.toList = l at hl
  match l, hl with
  | [], _ => rfl
  | [_], _ => rfl
  | [_, _], _ => rfl
  | [_, _, _], _ => rfl
theorem im2_eq {x : Rc} (hx : OkR x) : im2 x = hdL x ++ 0 :: (kwL x ++ (p3 (Ky.wsl x.val.data.toList) ++ List.replicate 7 0)) := by
  have hl := wsl_small x.val hx.val
  have hkl := kwL_length hx
  unfold im2
  rw [im1_eq hx, List.take_of_length_le hl, p3_rep _ _ hl]
  generalize Ky.wsl x.val.data.toList = l at hl
  generalize kwL x = m at hkl
  match m, hkl with
  | [m0, m1, m2], _ =>
    match l, hl with
    | [], _ => rfl
    | [_], _ => rfl
    | [_, _], _ => rfl
    | [_, _, _], _ => rfl
theorem im3_eq {x : Rc} (hx : OkR x) : im3 x = hdL x ++ 0 :: bdL x := by
  unfold im3 bdL vwL
  have hkl := kwL_length hx
  rw [im2_eq hx]
  by_cases h : x.k = 2
  · rw [if_pos h, if_pos h]
    have hv : x.val.data.toList = [] := by
      rcases hx with hx | hx
      · omega
      · exact List.eq_nil_of_length_eq_zero (by rw [ba_list]; exact hx.2.2.1)
    rw [hv]
    generalize kwL x = m at hkl
    match m, hkl with
    | [m0, m1, m2], _ => rfl
  · rw [if_neg h, if_neg h]
theorem im3_length {x : Rc} (hx : OkR x) : (im3 x).length = 16 := by
  rw [im3_eq hx, List.length_append, List.length_cons, bdL_length hx]
  rfl
theorem im3_2 {x : Rc} (hx : OkR x) : (im3 x)[2]? = some 0 := by rw [im3_eq hx]; rfl
theorem im3_rest {x : Rc} (hx : OkR x) : ((im3 x).drop 0).take 2 ++ ((im3 x).drop 3).take 13 = hdL x ++ bdL x := by
  rw [im3_eq hx]
  have := bdL_length hx
  show hdL x ++ (bdL x).take 13 = _
  rw [List.take_of_length_le (by omega)]
theorem im3_set {x : Rc} (hx : OkR x) : (im3 x).set 2 ((Sm.ofF (hdL x ++ bdL x) : Nat) : Int) = imL x := by
  rw [im3_eq hx]
  rfl
theorem wsl_fits (s : ByteArray) : Fits (Ky.wsl s.data.toList) := Ky.wsl_bd _
theorem p3_fits (s : ByteArray) : Fits (p3 (Ky.wsl s.data.toList)) := by
  intro z hz
  rcases List.mem_append.1 hz with h | h
  · exact wsl_fits s z h
  · rw [List.eq_of_mem_replicate h]; omega
theorem rest_fits {x : Rc} (hx : OkR x) : Fits (hdL x ++ bdL x) := by
  intro z hz
  have hk := hx.key
  have hv := hx.val
  rcases List.mem_append.1 hz with h | h
  · rcases hx with hx | hx <;> simp [hdL] at h <;> omega
  · rcases List.mem_append.1 h with h | h
    · exact p3_fits _ z h
    · rcases List.mem_append.1 h with h | h
      · unfold vwL at h
        split at h
        · rcases hx with hx | hx <;> simp at h <;> omega
        · exact p3_fits _ z h
      · rw [List.eq_of_mem_replicate h]; omega
theorem two_new (W : World) (v1 v2 : Value) : Two (W.alloc (.cells #[v1, v2] 22)) W.heap.size v1 v2 := Go.heap_alloc_new _ _
theorem Tryz.size61 : (Tryz.prog.info? 61).map (·.size) = some 16 := by kernel_rfl
theorem im_size {L : List Int} (h : L.length = 16) : (Tryz.prog.info? 61).map (·.size) = some (L.map (Value.int .i64)).toArray.size := by rw [Tryz.size61]; simp [h]
theorem im_sizeL {L : List Int} (h : L.length = 16) : (Tryz.prog.info? 61).map (·.size) = some (L.map (Value.int .i64)).length := by rw [Tryz.size61]; simp [h]
theorem im_one (L : List Int) : (L.map (Value.int .i64)).toArray.all (·.oneCell') = true := all_oneCell_toArray (ints_one L)
theorem Im.laid {W : World} {g : Nat} {L : List Int} (h : Im W g L) (M : List Int) (hM : M.length = L.length) : (W.setCells g 0 (M.map (Value.int .i64))).rangeAt g 0 (M.map (Value.int .i64)) := World.rangeAt_setCells_same W g 0 _ (by rw [List.length_map, hM]; exact h.there)
set_option maxRecDepth 100000 in
set_option maxHeartbeats 4000000 in
theorem image_any (x : Rc) (w : World) (hx : OkR x) : Calls Tryz.prog 37 #[.agg #[.int .i64 x.k, .string x.key, .string x.val, .int .i64 x.ch]] w fun e w' => e = .returned (.agg ((imL x).map (Value.int .i64)).toArray) ∧ Below w.heap.size w w' := by
  have hk := hx.key
  have hv := hx.val
  go_enter Tryz.func37, Tryz.ntmps37
  go_wp2
  generalize hW : World.alloc _ _ = W
  obtain ⟨R0, Z0, I0, B0⟩ := Rimage_start x w W hW.symm
  clear hW
  have S0 : Hid (W.drew.cell? ⟨w.heap.size, 1, none⟩ = some (.string x.key)) := R0.c.2.1
  go_region_held3 (fun W2 => W2.cell? ⟨w.heap.size, 1, none⟩ = some (.string x.key))
    (first | exact S0.out | exact S1.out | exact S2.out)
    (first
      | (go_at_call 56; refine (words_rd x.key _ hk).mono ?_; rintro e w1 ⟨v1, rfl, r1, hb1⟩; obtain ⟨_, a1, c1, rfl⟩ := r1.form; have S1 : Hid (w1.cell? ⟨w.heap.size, 1, none⟩ = some (.string x.key)) := (R0.below hb1).c.2.1)
      | (refine step_img rfl (.tmp 16) (.tmp 19) rfl (w.heap.size + 1 + 1) 3 3 13 (Ky.wsl x.key.data.toList) (im0 x) _ rfl rfl r1.rl (I0.below hb1) (by rw [im0_length]; omega) ?_; intro w2 I2 hb2; have S2 : Hid (w2.cell? ⟨w.heap.size, 1, none⟩ = some (.string x.key)) := ((R0.below hb1).belowN hb2 (by omega)).c.2.1))
  have R2 : RcAt w2.drew w.heap.size x := (R0.below hb1).belowN hb2.drew (by omega)
  have Z2 : Im w2.drew (w.heap.size + 1) zeros16 := (Z0.below hb1).belowN hb2.drew (by omega)
  have I2 : Im w2.drew (w.heap.size + 1 + 1) (im1 x) := I2
  have B2 : Below w.heap.size w w2.drew := ((bstep B0 hb1).trans (hb2.mono (by omega))).drew
  clear R0 Z0 I0 B0 S0 S1 S2 hb1 hb2 r1
  have S0 : Hid (w2.drew.cell? ⟨w.heap.size, 2, none⟩ = some (.string x.val)) := R2.c.2.2.1
  have l1 : (im1 x).length = 16 := by rw [im1_eq hx]; simp [kwL_length hx, hdL]
  go_wp2
  go_region_held3 (fun W2 => W2.cell? ⟨w.heap.size, 2, none⟩ = some (.string x.val))
    (first | exact S0.out | exact S1.out | exact S2.out)
    (first
      | (go_at_call 56; refine (words_rd x.val _ hv).mono ?_; rintro e w3 ⟨v3, rfl, r3, hb3⟩; obtain ⟨_, a3, c3, rfl⟩ := r3.form; have S1 : Hid (w3.cell? ⟨w.heap.size, 2, none⟩ = some (.string x.val)) := (R2.below hb3).c.2.2.1)
      | (refine step_img rfl (.tmp 21) (.tmp 24) rfl (w.heap.size + 1 + 1) 6 3 10 (Ky.wsl x.val.data.toList) (im1 x) _ rfl rfl r3.rl (I2.below hb3) (by rw [l1]; omega) ?_; intro w4 I4 hb4; have S2 : Hid (w4.cell? ⟨w.heap.size, 2, none⟩ = some (.string x.val)) := ((R2.below hb3).belowN hb4 (by omega)).c.2.2.1))
  have R4 : RcAt w4 w.heap.size x := (R2.below hb3).belowN hb4 (by omega)
  have Z4 : Im w4 (w.heap.size + 1) zeros16 := (Z2.below hb3).belowN hb4 (by omega)
  have I4 : Im w4 (w.heap.size + 1 + 1) (im2 x) := I4
  have B4 : Below w.heap.size w w4 := (bstep B2 hb3).trans (hb4.mono (by omega))
  clear R2 Z2 I2 B2 S0 S1 S2 hb3 hb4 r3
  obtain ⟨x0, x1, x2, x3⟩ := R4.c
  have hdec : ∃ W5 : World, (W5 = if x.k = 2 then w4.setCell ⟨w.heap.size + 1 + 1, 6, none⟩ (.int .i64 x.ch) else w4) ∧ Im W5 (w.heap.size + 1 + 1) (im3 x) ∧ Im W5 (w.heap.size + 1) zeros16 ∧ Below w.heap.size w W5 := by
    refine ⟨_, rfl, ?_⟩
    unfold im3
    by_cases h2 : x.k = 2
    · rw [if_pos h2, if_pos h2]
      exact ⟨I4.set 6 _, Z4.other (by omega) _, B4.setCell (by simp; omega) _⟩
    · rw [if_neg h2, if_neg h2]
      exact ⟨I4, Z4, B4⟩
  obtain ⟨W5, hW5, I5, Z5, B5⟩ := hdec
  have c6 : ∃ z, w4.cell? ⟨w.heap.size + 1 + 1, 6, none⟩ = some (.int .i64 z) := by
    have l2 : 6 < (im2 x).length := by rw [im2_eq hx]; simp [kwL_length hx, hdL, p3_length (wsl_small _ hv)]
    exact ⟨_, I4.cell (List.getElem?_eq_getElem l2)⟩
  obtain ⟨z6, c6⟩ := c6
  have f6 := I4.frozen 6
  have I5 : Hid (Im W5.drew (w.heap.size + 1 + 1) (im3 x)) := I5
  have Z5 : Hid (Im W5.drew (w.heap.size + 1) zeros16) := Z5
  have B5 : Hid (Below w.heap.size w W5.drew) := B5.drew
  have l3 := im3_length hx
  have n1 : 0 < (((im3 x).drop 0).take 2).length + (((im3 x).drop 3).take 13).length := by simp [l3]
  have n2 : (((im3 x).drop 0).take 2).length + (((im3 x).drop 3).take 13).length ≤ 1000 := by simp [l3]
  have n3 : (((im3 x).drop 0).take 2 ++ ((im3 x).drop 3).take 13).length ≤ 1000 := by simp [l3]
  by_cases h2 : x.k = 2
  · rw [if_pos h2] at hW5
    have h2' : (x.k == 2) = true := by simpa using h2
    clear h2
    go_wp2
    rw [← hW5]
    clear hW5
    go_region_held3 (fun _ => True) (exact trivial)
      (first
        | (go_at_call 58; refine (concat_any _ _ _ (((im3 x).drop 0).take 2) (((im3 x).drop 3).take 13) _ ((I5.out.below ((Below.refl _ _).alloc (Nat.le_refl _) _)).rd 0 2 16 (by omega) (by omega) (by omega)) ((I5.out.below ((Below.refl _ _).alloc (Nat.le_refl _) _)).rd 3 13 13 (by omega) (by omega) (by omega)) (two_new _ _ _) n1 n2).mono ?_; rintro e w6 ⟨v6, rfl, o6, hb6⟩; have hb6 := bstep ((Below.refl _ W5.drew).alloc (Nat.le_refl _) _) hb6; have r6 : Rd w6 v6 (hdL x ++ bdL x) := im3_rest hx ▸ (o6.rd n3))
        | (go_at_call 57; refine (Sm.of_any _ (hdL x ++ bdL x) _ (r6.sm (rest_fits hx))).mono ?_; rintro e w7 ⟨rfl, hb7⟩; have hb7 := bstep hb6 hb7; have c7 := (I5.out.below hb7).cell (im3_2 hx); have f7 := (I5.out.below hb7).frozen 2))
    have I8 := (I5.out.below hb7).set 2 ((Sm.ofF (hdL x ++ bdL x) : Nat) : Int)
    rw [im3_set hx] at I8
    have Z8 := (Z5.out.below hb7).other (g := w.heap.size + 1 + 1) (k := 2) (by omega) (.int .i64 ((Sm.ofF (hdL x ++ bdL x) : Nat) : Int))
    have B8 := (bstep B5.out hb7).setCell (p := ⟨w.heap.size + 1 + 1, 2, none⟩) (by simp; omega) (.int .i64 ((Sm.ofF (hdL x ++ bdL x) : Nat) : Int))
    have l16 := imL_length hx
    clear I5 Z5 B5 hb7 hb6 r6 o6 n1 n2 n3
    generalize ((Sm.ofF (hdL x ++ bdL x) : Nat) : Int) = q at *
    obtain ⟨M, hM⟩ : ∃ M, M = imL x := ⟨_, rfl⟩
    rw [← hM] at I8 l16
    have hM : Hid (M = imL x) := hM
    have hrange := I8.range
    have hthere : (w7.setCell ⟨w.heap.size + 1 + 1, 2, none⟩ (.int .i64 q)).there (w.heap.size + 1) 0 (M.map (Value.int .i64)).toArray.size := by
      have := Z8.there
      simpa [zeros16, l16] using this
    have hlaid := Z8.laid M (by rw [l16]; rfl)
    have hs1 := im_size l16
    have hs2 := im_sizeL l16
    have ho := im_one M
    go_wp2_with (first
      | refine wpList_load_mid rfl 61 _ rfl (w.heap.size + 1 + 1) 0 rfl (M.map (Value.int .i64)) _ hrange Tryz.underlying61 rfl hs2 ?_
      | refine wpList_store_mid rfl 61 _ _ rfl (w.heap.size + 1) 0 (M.map (Value.int .i64)).toArray rfl rfl hthere hs1 ho ?_)
    refine bodyPost_ret (v := .agg (M.map (Value.int .i64)).toArray) ?_ rfl ⟨by rw [hM.out], Sm.below_setCells _ _ _ (by omega) B8⟩
    have := run_loadVar_mid (P := Tryz.prog) _ (w.heap.size + 1) 0 61 (M.map (Value.int .i64)) _ hlaid Tryz.underlying61 rfl hs2
    simp [results, Tryz.results37, asAddr, Act.put, this]
  · rw [if_neg h2] at hW5
    have h2' : (x.k == 2) = false := by simpa using h2
    clear h2
    go_wp2
    rw [← hW5]
    clear hW5
    go_region_held3 (fun _ => True) (exact trivial)
      (first
        | (go_at_call 58; refine (concat_any _ _ _ (((im3 x).drop 0).take 2) (((im3 x).drop 3).take 13) _ ((I5.out.below ((Below.refl _ _).alloc (Nat.le_refl _) _)).rd 0 2 16 (by omega) (by omega) (by omega)) ((I5.out.below ((Below.refl _ _).alloc (Nat.le_refl _) _)).rd 3 13 13 (by omega) (by omega) (by omega)) (two_new _ _ _) n1 n2).mono ?_; rintro e w6 ⟨v6, rfl, o6, hb6⟩; have hb6 := bstep ((Below.refl _ W5.drew).alloc (Nat.le_refl _) _) hb6; have r6 : Rd w6 v6 (hdL x ++ bdL x) := im3_rest hx ▸ (o6.rd n3))
        | (go_at_call 57; refine (Sm.of_any _ (hdL x ++ bdL x) _ (r6.sm (rest_fits hx))).mono ?_; rintro e w7 ⟨rfl, hb7⟩; have hb7 := bstep hb6 hb7; have c7 := (I5.out.below hb7).cell (im3_2 hx); have f7 := (I5.out.below hb7).frozen 2))
    have I8 := (I5.out.below hb7).set 2 ((Sm.ofF (hdL x ++ bdL x) : Nat) : Int)
    rw [im3_set hx] at I8
    have Z8 := (Z5.out.below hb7).other (g := w.heap.size + 1 + 1) (k := 2) (by omega) (.int .i64 ((Sm.ofF (hdL x ++ bdL x) : Nat) : Int))
    have B8 := (bstep B5.out hb7).setCell (p := ⟨w.heap.size + 1 + 1, 2, none⟩) (by simp; omega) (.int .i64 ((Sm.ofF (hdL x ++ bdL x) : Nat) : Int))
    have l16 := imL_length hx
    clear I5 Z5 B5 hb7 hb6 r6 o6 n1 n2 n3
    generalize ((Sm.ofF (hdL x ++ bdL x) : Nat) : Int) = q at *
    obtain ⟨M, hM⟩ : ∃ M, M = imL x := ⟨_, rfl⟩
    rw [← hM] at I8 l16
    have hM : Hid (M = imL x) := hM
    have hrange := I8.range
    have hthere : (w7.setCell ⟨w.heap.size + 1 + 1, 2, none⟩ (.int .i64 q)).there (w.heap.size + 1) 0 (M.map (Value.int .i64)).toArray.size := by
      have := Z8.there
      simpa [zeros16, l16] using this
    have hlaid := Z8.laid M (by rw [l16]; rfl)
    have hs1 := im_size l16
    have hs2 := im_sizeL l16
    have ho := im_one M
    go_wp2_with (first
      | refine wpList_load_mid rfl 61 _ rfl (w.heap.size + 1 + 1) 0 rfl (M.map (Value.int .i64)) _ hrange Tryz.underlying61 rfl hs2 ?_
      | refine wpList_store_mid rfl 61 _ _ rfl (w.heap.size + 1) 0 (M.map (Value.int .i64)).toArray rfl rfl hthere hs1 ho ?_)
    refine bodyPost_ret (v := .agg (M.map (Value.int .i64)).toArray) ?_ rfl ⟨by rw [hM.out], Sm.below_setCells _ _ _ (by omega) B8⟩
    have := run_loadVar_mid (P := Tryz.prog) _ (w.heap.size + 1) 0 61 (M.map (Value.int .i64)) _ hlaid Tryz.underlying61 rfl hs2
    simp [results, Tryz.results37, asAddr, Act.put, this]
end Go.Proofs.YtcgclhahonndbaaGreat
