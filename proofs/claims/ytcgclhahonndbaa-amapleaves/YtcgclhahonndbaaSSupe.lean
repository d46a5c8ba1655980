/- Set over from a lower layer: SSupe. -/
import Derived.Test.YtcgclhahonndbaaBase
import Derived.Test.YtcgclhahonndbaaNNodz
import Derived.Test.YtcgclhahonndbaaNNodg
import Derived.Test.YtcgclhahonndbaaSSupd
import Derived.WalkMore
import Derived.ScopeJumps
namespace Go.Proofs.Ytcgclhahonndbaa
open Go.RowKit Go.Shelf
set_option linter.unusedVariables false
/-- What holds where the walk jumps to what is wrong. -/
def J10 (w : World) (a : Act) (w' : World) : Prop := (∃ t0 t1 t2 t3 t4 t5 t6 t7 t8 t9 t10 t11 t12 t13 t14 t15 t16 t17 t18 t19 t20 t21 t22 t23 t24 t25 t26 t27 : Value, a = { tmps := #[t0, t1, t2, t3, t4, t5, t6, t7, t8, t9, t10, t11, t12, t13, t14, t15, t16, t17, t18, t19, t20, t21, t22, t23, t24, t25, t26, t27], defers := [] }) ∧ Below w.heap.size w w'
theorem Try.guard48 : Try.prog.eqGuardType Try.prog.depth 100 = false := by kernel_rfl
theorem range_bel {W W' : World} {g : Nat} {cs : List Value} (h : W.rangeAt g 0 cs) (hg : g < W.heap.size) (hb : Below W.heap.size W W') : W'.rangeAt g 0 cs := fun j v hv => (hb.cell (p := ⟨g, 0 + j, none⟩) hg).trans (h j v hv)
theorem nb_eq (zs : List Int) {n : Nat} (h : zs.length = n) : nbI zs = (n : Int) / 16 := by
  unfold nbI
  rw [h]
  omega
set_option maxRecDepth 100000 in
set_option maxHeartbeats 2000000 in
theorem read_short (v : Value) (zs : List Int) (w : World) (hR : Rl w v zs) (h : zs.length < 32) : Calls Try.prog 52 #[v] w fun e w' => e = .returned (.tuple #[.int .i64 0, .int .i64 0, .int .i64 80]) ∧ Below w.heap.size w w' := by
  obtain ⟨hl, a, cap, rfl, hcap⟩ := hR.form
  obtain ⟨n, hn⟩ : ∃ n, zs.length = n := ⟨_, rfl⟩
  rw [hn] at h ⊢
  have h3 : (n : Int) / 16 < 2 := by omega
  clear hn hR hl hcap
  go_enter Try.func52, Try.ntmps52
  go_wp2
  refine wp_scope_jumps 0 (J10 w) (fun _ _ => 0) rfl ?_ ?_
  · go_wp2
    go_step3
    exact ⟨rfl, ⟨_, _, _, _, _, _, _, _, _, _, _, _, _, _, _, _, _, _, _, _, _, _, _, _, _, _, _, _, rfl⟩, (Below.refl _ _).alloc (Nat.le_refl _) _⟩
  · rintro a1 w1 ⟨⟨t0, t1, t2, t3, t4, t5, t6, t7, t8, t9, t10, t11, t12, t13, t14, t15, t16, t17, t18, t19, t20, t21, t22, t23, t24, t25, t26, t27, rfl⟩, hb⟩
    go_wp2
    simp only [Exit.jump]
    refine bodyPost_ret (results_tmp3 Try.results52 _ _ _) rfl ⟨rfl, hb⟩
set_option maxRecDepth 100000 in
set_option maxHeartbeats 2000000 in
theorem read_may (v : Value) (zs : List Int) (w : World) (hR : Rl w v zs) (h32 : 32 ≤ zs.length) (hc : mbB (nbI zs) (rtI zs) = false) : Calls Try.prog 52 #[v] w fun e w' => e = .returned (.tuple #[.int .i64 0, .int .i64 0, .int .i64 80]) ∧ Below w.heap.size w w' := by
  obtain ⟨hl, a, cap, rfl, hcap⟩ := hR.form
  obtain ⟨n, hn⟩ : ∃ n, zs.length = n := ⟨_, rfl⟩
  have hnb := nb_eq zs hn
  rw [hnb] at hc
  have l16 : (zs.take 16).length = 16 := by rw [List.length_take]; omega
  obtain ⟨r, hr⟩ : ∃ r, zs[3]? = some r := ⟨_, List.getElem?_eq_getElem (by omega)⟩
  have hrt : rtI zs = r := by unfold rtI; rw [List.getD_eq_getElem?_getD, hr]; rfl
  rw [hrt] at hc
  have hM3 : (zs.take 16)[3]? = some r := by rw [List.getElem?_take, if_pos (by omega)]; exact hr
  have H32 : 32 ≤ zs.length := h32
  have k22 : Hid (∀ W, Below w.heap.size w W → Calls Try.prog 75 #[.slice a zs.length cap] W fun e w' => e = .returned (.agg ((zs.take 16).map (Value.int .i64)).toArray) ∧ Below W.heap.size W w') := fun W hb => taken_any _ zs W (hR.below hb) H32
  rw [hn] at h32 k22 hl ⊢
  obtain ⟨M, hM⟩ : ∃ M, M = zs.take 16 := ⟨_, rfl⟩
  rw [← hM] at k22 l16 hM3
  have hs1 := Shw_size l16
  have hs2 := Shw_sizeL l16
  have ho := hw_one M
  have h3 : ¬ ((n : Int) / 16 < 2) := by omega
  have H0 : Hid (SHw (w.alloc (.cells #[.int .i64 0, .int .i64 0, .int .i64 0, .int .i64 0, .int .i64 0, .int .i64 0, .int .i64 0, .int .i64 0, .int .i64 0, .int .i64 0, .int .i64 0, .int .i64 0, .int .i64 0, .int .i64 0, .int .i64 0, .int .i64 0] 100)) w.heap.size zeros16) := Shw_new w zeros16
  have B0 : Hid (Below w.heap.size w (w.alloc (.cells #[.int .i64 0, .int .i64 0, .int .i64 0, .int .i64 0, .int .i64 0, .int .i64 0, .int .i64 0, .int .i64 0, .int .i64 0, .int .i64 0, .int .i64 0, .int .i64 0, .int .i64 0, .int .i64 0, .int .i64 0, .int .i64 0] 100))) := (Below.refl _ _).alloc (Nat.le_refl _) _
  have Hl16 : Hid (M.length = 16) := l16
  have HM3 : Hid (M[3]? = some r) := hM3
  clear hn hR hcap hM H32 hnb hr hrt l16 hM3
  go_enter Try.func52, Try.ntmps52
  go_wp2
  refine wp_scope_jumps 0 (J10 w) (fun _ _ => 0) rfl ?_ ?_
  · go_wp2_with (first
      | (go_at_call 75; refine (k22.out _ B0.out).mono ?_; rintro e w1 ⟨rfl, hb1⟩; have Z1 := H0.out.below hb1; have hthere : w1.there w.heap.size 0 (M.map (Value.int .i64)).toArray.size := (by have e : (M.map (Value.int .i64)).toArray.size = 16 := (by rw [List.size_toArray, List.length_map, Hl16.out]); rw [e]; exact Z1.there); have hlaid := Z1.laid M (by rw [Hl16.out]; rfl); have hb2 : Below w.heap.size w (w1.setCells w.heap.size 0 (M.map (Value.int .i64))) := Sm.below_setCells _ _ _ (Nat.le_refl _) (bstep B0.out hb1); clear Z1)
      | (refine wpList_store_mid rfl 100 _ _ rfl w.heap.size 0 (M.map (Value.int .i64)).toArray rfl rfl hthere hs1 ho ?_; clear hthere; generalize World.setCells _ _ _ _ = W2 at *; have HL : Hid (W2.rangeAt w.heap.size 0 (M.map (Value.int .i64))) := hlaid; have HB2 : Hid (Below w.heap.size w W2) := hb2; have c3 := range_at hlaid HM3.out; clear hlaid hb2 hb1)
      | (go_at_call 61; refine (mayBe_any _ r _).mono ?_; rintro e w3 ⟨rfl, hw⟩; rw [hw, hc]; clear hw w3))
    go_step3
    exact ⟨rfl, ⟨_, _, _, _, _, _, _, _, _, _, _, _, _, _, _, _, _, _, _, _, _, _, _, _, _, _, _, _, rfl⟩, HB2.out⟩
  · rintro a1 w1 ⟨⟨t0, t1, t2, t3, t4, t5, t6, t7, t8, t9, t10, t11, t12, t13, t14, t15, t16, t17, t18, t19, t20, t21, t22, t23, t24, t25, t26, t27, rfl⟩, hb⟩
    go_wp2
    simp only [Exit.jump]
    refine bodyPost_ret (results_tmp3 Try.results52 _ _ _) rfl ⟨rfl, hb⟩
set_option maxRecDepth 100000 in
set_option maxHeartbeats 4000000 in
theorem read_other (v : Value) (zs : List Int) (w : World) (hR : Rl w v zs) (h32 : 32 ≤ zs.length) (hc : mbB (nbI zs) (rtI zs) = true) (hE : ¬ zs.take 16 = hdW (nbI zs) (rtI zs)) : Calls Try.prog 52 #[v] w fun e w' => e = .returned (.tuple #[.int .i64 0, .int .i64 0, .int .i64 80]) ∧ Below w.heap.size w w' := by
  obtain ⟨hl, a, cap, rfl, hcap⟩ := hR.form
  obtain ⟨n, hn⟩ : ∃ n, zs.length = n := ⟨_, rfl⟩
  have hnb := nb_eq zs hn
  rw [hnb] at hc hE
  have l16 : (zs.take 16).length = 16 := by rw [List.length_take]; omega
  obtain ⟨r, hr⟩ : ∃ r, zs[3]? = some r := ⟨_, List.getElem?_eq_getElem (by omega)⟩
  have hrt : rtI zs = r := by unfold rtI; rw [List.getD_eq_getElem?_getD, hr]; rfl
  rw [hrt] at hc hE
  have hM3 : (zs.take 16)[3]? = some r := by rw [List.getElem?_take, if_pos (by omega)]; exact hr
  have H32 : 32 ≤ zs.length := h32
  have k22 : Hid (∀ W, Below w.heap.size w W → Calls Try.prog 75 #[.slice a zs.length cap] W fun e w' => e = .returned (.agg ((zs.take 16).map (Value.int .i64)).toArray) ∧ Below W.heap.size W w') := fun W hb => taken_any _ zs W (hR.below hb) H32
  rw [hn] at h32 k22 hl ⊢
  obtain ⟨M, hM⟩ : ∃ M, M = zs.take 16 := ⟨_, rfl⟩
  rw [← hM] at k22 l16 hM3 hE
  have hs1 := Shw_size l16
  have hs2 := Shw_sizeL l16
  have ho := hw_one M
  have h3 : ¬ ((n : Int) / 16 < 2) := by omega
  have H0 : Hid (SHw (w.alloc (.cells #[.int .i64 0, .int .i64 0, .int .i64 0, .int .i64 0, .int .i64 0, .int .i64 0, .int .i64 0, .int .i64 0, .int .i64 0, .int .i64 0, .int .i64 0, .int .i64 0, .int .i64 0, .int .i64 0, .int .i64 0, .int .i64 0] 100)) w.heap.size zeros16) := Shw_new w zeros16
  have B0 : Hid (Below w.heap.size w (w.alloc (.cells #[.int .i64 0, .int .i64 0, .int .i64 0, .int .i64 0, .int .i64 0, .int .i64 0, .int .i64 0, .int .i64 0, .int .i64 0, .int .i64 0, .int .i64 0, .int .i64 0, .int .i64 0, .int .i64 0, .int .i64 0, .int .i64 0] 100))) := (Below.refl _ _).alloc (Nat.le_refl _) _
  have Hl16 : Hid (M.length = 16) := l16
  have HM3 : Hid (M[3]? = some r) := hM3
  clear hn hR hcap hM H32 hnb hr hrt l16 hM3
  have k19 := fun w => SheadOf_any ((n : Int) / 16) r w hc
  obtain ⟨H, hH⟩ : ∃ H, H = hdW ((n : Int) / 16) r := ⟨_, rfl⟩
  rw [← hH] at k19 hE
  have lH : H.length = 16 := by rw [hH]; rfl
  have hne := fun (w : World) => neq48 w M H Hl16.out lH
  clear hH lH
  have hd : decide (M = H) = false := decide_eq_false hE
  clear hE
  go_enter Try.func52, Try.ntmps52
  go_wp2
  refine wp_scope_jumps 0 (J10 w) (fun _ _ => 0) rfl ?_ ?_
  · go_wp2_with (first
      | (go_at_call 75; refine (k22.out _ B0.out).mono ?_; rintro e w1 ⟨rfl, hb1⟩; have Z1 := H0.out.below hb1; have hthere : w1.there w.heap.size 0 (M.map (Value.int .i64)).toArray.size := (by have e : (M.map (Value.int .i64)).toArray.size = 16 := (by rw [List.size_toArray, List.length_map, Hl16.out]); rw [e]; exact Z1.there); have hlaid := Z1.laid M (by rw [Hl16.out]; rfl); have hb2 : Below w.heap.size w (w1.setCells w.heap.size 0 (M.map (Value.int .i64))) := Sm.below_setCells _ _ _ (Nat.le_refl _) (bstep B0.out hb1); clear Z1)
      | (refine wpList_store_mid rfl 100 _ _ rfl w.heap.size 0 (M.map (Value.int .i64)).toArray rfl rfl hthere hs1 ho ?_; clear hthere; generalize World.setCells _ _ _ _ = W2 at *; have HL : Hid (W2.rangeAt w.heap.size 0 (M.map (Value.int .i64))) := hlaid; have HB2 : Hid (Below w.heap.size w W2) := hb2; have c3 := range_at hlaid HM3.out; clear hlaid hb2 hb1)
      | (go_at_call 61; refine (mayBe_any _ r _).mono ?_; rintro e w3 ⟨rfl, hw⟩; rw [hw, hc]; clear hw w3))
    have hlt := range_lt HL.out Hl16.out
    have c3' : ∀ p : BW W2, p.w.cell? ⟨w.heap.size, 3, none⟩ = some (.int .i64 r) := fun p => range_at (range_bel HL.out hlt p.b) HM3.out
    have c4 : Hid (∀ p : BW W2, p.w.rangeAt w.heap.size 0 (M.map (Value.int .i64))) := fun p => range_bel HL.out hlt p.b
    have hg := Try.guard48
    clear c3
    refine wp_region_bw (by kernel_rfl) (by kernel_rfl) (fun hbw0 => ?_)
    repeat (first | (refine QW.load 100 _ rfl (by rfl) w.heap.size 0 rfl (M.map (Value.int .i64)) _ c4.out Try.underlying100 rfl hs2 ?_) | (refine QW.step (fun K hK => ?_); go_simp; first | (refine hK _ ?_; clear hK K) | (apply Exists.intro; refine ⟨fun _ => ?_, hK _ ?_⟩; (first | exact Calls.bw_of (k19 _)); clear hK K)))
    refine QW.nil ?_
    rintro ⟨w4, hb4⟩
    dsimp only
    have HB4 := bstep HB2.out hb4
    have c3 := c3' ⟨w4, hb4⟩
    have HL4 : Hid (w4.rangeAt w.heap.size 0 (M.map (Value.int .i64))) := c4.out ⟨w4, hb4⟩
    dsimp only at c3
    clear c3' c4 k19 hg hne HB2 hlt HL hb4

    go_wp2
    go_step3
    exact ⟨rfl, ⟨_, _, _, _, _, _, _, _, _, _, _, _, _, _, _, _, _, _, _, _, _, _, _, _, _, _, _, _, rfl⟩, HB4⟩
  · rintro a1 w1 ⟨⟨t0, t1, t2, t3, t4, t5, t6, t7, t8, t9, t10, t11, t12, t13, t14, t15, t16, t17, t18, t19, t20, t21, t22, t23, t24, t25, t26, t27, rfl⟩, hb⟩
    go_wp2
    simp only [Exit.jump]
    refine bodyPost_ret (results_tmp3 Try.results52 _ _ _) rfl ⟨rfl, hb⟩
set_option maxRecDepth 100000 in
set_option maxHeartbeats 4000000 in
theorem read_right (v : Value) (zs : List Int) (w : World) (hR : Rl w v zs) (h32 : 32 ≤ zs.length) (hc : mbB (nbI zs) (rtI zs) = true) (hE : zs.take 16 = hdW (nbI zs) (rtI zs)) : Calls Try.prog 52 #[v] w fun e w' => e = .returned (.tuple #[.int .i64 (nbI zs), .int .i64 (rtI zs), .int .i64 0]) ∧ Below w.heap.size w w' := by
  obtain ⟨hl, a, cap, rfl, hcap⟩ := hR.form
  obtain ⟨n, hn⟩ : ∃ n, zs.length = n := ⟨_, rfl⟩
  have hnb := nb_eq zs hn
  rw [hnb] at hc hE ⊢
  have l16 : (zs.take 16).length = 16 := by rw [List.length_take]; omega
  obtain ⟨r, hr⟩ : ∃ r, zs[3]? = some r := ⟨_, List.getElem?_eq_getElem (by omega)⟩
  have hrt : rtI zs = r := by unfold rtI; rw [List.getD_eq_getElem?_getD, hr]; rfl
  rw [hrt] at hc hE ⊢
  have hM3 : (zs.take 16)[3]? = some r := by rw [List.getElem?_take, if_pos (by omega)]; exact hr
  have H32 : 32 ≤ zs.length := h32
  have k22 : Hid (∀ W, Below w.heap.size w W → Calls Try.prog 75 #[.slice a zs.length cap] W fun e w' => e = .returned (.agg ((zs.take 16).map (Value.int .i64)).toArray) ∧ Below W.heap.size W w') := fun W hb => taken_any _ zs W (hR.below hb) H32
  rw [hn] at h32 k22 hl ⊢
  obtain ⟨M, hM⟩ : ∃ M, M = zs.take 16 := ⟨_, rfl⟩
  rw [← hM] at k22 l16 hM3 hE
  have hs1 := Shw_size l16
  have hs2 := Shw_sizeL l16
  have ho := hw_one M
  have h3 : ¬ ((n : Int) / 16 < 2) := by omega
  have H0 : Hid (SHw (w.alloc (.cells #[.int .i64 0, .int .i64 0, .int .i64 0, .int .i64 0, .int .i64 0, .int .i64 0, .int .i64 0, .int .i64 0, .int .i64 0, .int .i64 0, .int .i64 0, .int .i64 0, .int .i64 0, .int .i64 0, .int .i64 0, .int .i64 0] 100)) w.heap.size zeros16) := Shw_new w zeros16
  have B0 : Hid (Below w.heap.size w (w.alloc (.cells #[.int .i64 0, .int .i64 0, .int .i64 0, .int .i64 0, .int .i64 0, .int .i64 0, .int .i64 0, .int .i64 0, .int .i64 0, .int .i64 0, .int .i64 0, .int .i64 0, .int .i64 0, .int .i64 0, .int .i64 0, .int .i64 0] 100))) := (Below.refl _ _).alloc (Nat.le_refl _) _
  have Hl16 : Hid (M.length = 16) := l16
  have HM3 : Hid (M[3]? = some r) := hM3
  clear hn hR hcap hM H32 hnb hr hrt l16 hM3
  have k19 := fun w => SheadOf_any ((n : Int) / 16) r w hc
  obtain ⟨H, hH⟩ : ∃ H, H = hdW ((n : Int) / 16) r := ⟨_, rfl⟩
  rw [← hH] at k19 hE
  have lH : H.length = 16 := by rw [hH]; rfl
  have hne := fun (w : World) => neq48 w M H Hl16.out lH
  clear hH lH
  have hd : decide (M = H) = true := decide_eq_true hE
  clear hE
  go_enter Try.func52, Try.ntmps52
  go_wp2
  go_step3
  · go_wp2_with (first
      | (go_at_call 75; refine (k22.out _ B0.out).mono ?_; rintro e w1 ⟨rfl, hb1⟩; have Z1 := H0.out.below hb1; have hthere : w1.there w.heap.size 0 (M.map (Value.int .i64)).toArray.size := (by have e : (M.map (Value.int .i64)).toArray.size = 16 := (by rw [List.size_toArray, List.length_map, Hl16.out]); rw [e]; exact Z1.there); have hlaid := Z1.laid M (by rw [Hl16.out]; rfl); have hb2 : Below w.heap.size w (w1.setCells w.heap.size 0 (M.map (Value.int .i64))) := Sm.below_setCells _ _ _ (Nat.le_refl _) (bstep B0.out hb1); clear Z1)
      | (refine wpList_store_mid rfl 100 _ _ rfl w.heap.size 0 (M.map (Value.int .i64)).toArray rfl rfl hthere hs1 ho ?_; clear hthere; generalize World.setCells _ _ _ _ = W2 at *; have HL : Hid (W2.rangeAt w.heap.size 0 (M.map (Value.int .i64))) := hlaid; have HB2 : Hid (Below w.heap.size w W2) := hb2; have c3 := range_at hlaid HM3.out; clear hlaid hb2 hb1)
      | (go_at_call 61; refine (mayBe_any _ r _).mono ?_; rintro e w3 ⟨rfl, hw⟩; rw [hw, hc]; clear hw w3))
    have hlt := range_lt HL.out Hl16.out
    have c3' : ∀ p : BW W2, p.w.cell? ⟨w.heap.size, 3, none⟩ = some (.int .i64 r) := fun p => range_at (range_bel HL.out hlt p.b) HM3.out
    have c4 : Hid (∀ p : BW W2, p.w.rangeAt w.heap.size 0 (M.map (Value.int .i64))) := fun p => range_bel HL.out hlt p.b
    have hg := Try.guard48
    clear c3
    refine wp_region_bw (by kernel_rfl) (by kernel_rfl) (fun hbw0 => ?_)
    repeat (first | (refine QW.load 100 _ rfl (by rfl) w.heap.size 0 rfl (M.map (Value.int .i64)) _ c4.out Try.underlying100 rfl hs2 ?_) | (refine QW.step (fun K hK => ?_); go_simp; first | (refine hK _ ?_; clear hK K) | (apply Exists.intro; refine ⟨fun _ => ?_, hK _ ?_⟩; (first | exact Calls.bw_of (k19 _)); clear hK K)))
    refine QW.nil ?_
    rintro ⟨w4, hb4⟩
    dsimp only
    have HB4 := bstep HB2.out hb4
    have c3 := c3' ⟨w4, hb4⟩
    have HL4 : Hid (w4.rangeAt w.heap.size 0 (M.map (Value.int .i64))) := c4.out ⟨w4, hb4⟩
    dsimp only at c3
    clear c3' c4 k19 hg hne HB2 hlt HL hb4

    have hlt := range_lt HL4.out Hl16.out
    clear c3
    go_wp2
    have c3' : ∀ p : BW w4, p.w.cell? ⟨w.heap.size, 3, none⟩ = some (.int .i64 r) := fun p => range_at (range_bel HL4.out hlt p.b) HM3.out
    refine wp_region_bw (by kernel_rfl) (by kernel_rfl) (fun hbw0 => ?_)
    repeat (refine QW.step (fun K hK => ?_); go_simp; first | (refine hK _ ?_; clear hK K))
    refine QW.nil ?_
    rintro ⟨w5, hb5⟩
    dsimp only
    go_wp2
    try rw [Exit.noGoto_ret]
    refine bodyPost_ret (results_tmp3 Try.results52 _ _ _) rfl ⟨rfl, bstep HB4 hb5⟩
/-- What Read tells of any words. -/
theorem Sread_any (v : Value) (zs : List Int) (w : World) (hR : Rl w v zs) : Calls Try.prog 52 #[v] w fun e w' => e = .returned (.tuple #[.int .i64 (rdN zs), .int .i64 (rdR zs), .int .i64 (rdE zs)]) ∧ Below w.heap.size w w' := by
  by_cases h : zs.length < 32
  · obtain ⟨e1, e2, e3⟩ := rd_no (rdB_short h)
    rw [e1, e2, e3]
    exact read_short v zs w hR h
  · cases hc : mbB (nbI zs) (rtI zs) with
    | false =>
      obtain ⟨e1, e2, e3⟩ := rd_no (show rdB zs = false by unfold rdB; rw [hc]; rfl)
      rw [e1, e2, e3]
      exact read_may v zs w hR (by omega) hc
    | true =>
      by_cases hE : zs.take 16 = hdW (nbI zs) (rtI zs)
      · obtain ⟨e1, e2, e3⟩ := rd_yes (show rdB zs = true by unfold rdB; rw [hc, decide_eq_true hE]; rfl)
        rw [e1, e2, e3]
        exact read_right v zs w hR (by omega) hc hE
      · obtain ⟨e1, e2, e3⟩ := rd_no (show rdB zs = false by unfold rdB; rw [hc, decide_eq_false hE]; rfl)
        rw [e1, e2, e3]
        exact read_other v zs w hR (by omega) hc hE
end Go.Proofs.Ytcgclhahonndbaa
