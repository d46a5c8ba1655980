/- Set over from a lower layer: SSupe. · Set over from a lower layer: Arf. -/
import Derived.Test.YtcgclhahonndbaaGreatSSumz
import Derived.Test.YtcgclhahonndbaaGreatSSupa
import Derived.Test.YtcgclhahonndbaaGreatBase
import Derived.Test.YtcgclhahonndbaaGreatNNodz
import Derived.Test.YtcgclhahonndbaaGreatNNodw
import Derived.Test.YtcgclhahonndbaaGreatSSupd
import Derived.WalkMore
import Derived.ScopeJumps
import Derived.Test.YtcgclhahonndbaaGreatAre
import Derived.Test.YtcgclhahonndbaaGreatArnum
import Derived.Test.YtcgclhahonndbaaGreatNNumz
namespace Go.Proofs.YtcgclhahonndbaaGreat
open Go.RowKit Go.Shelf
set_option linter.unusedVariables false
/-- What holds where the walk jumps to what is wrong. -/
def J10 (w : World) (a : Act) (w' : World) : Prop := (∃ t0 t1 t2 t3 t4 t5 t6 t7 t8 t9 t10 t11 t12 t13 t14 t15 t16 t17 t18 t19 t20 t21 t22 t23 t24 t25 t26 t27 : Value, a = { tmps := #[t0, t1, t2, t3, t4, t5, t6, t7, t8, t9, t10, t11, t12, t13, t14, t15, t16, t17, t18, t19, t20, t21, t22, t23, t24, t25, t26, t27], defers := [] }) ∧ Below w.heap.size w w'
theorem Tryz.guard48 : Tryz.prog.eqGuardType Tryz.prog.depth 83 = false := by kernel_rfl
theorem range_bel {W W' : World} {g : Nat} {cs : List Value} (h : W.rangeAt g 0 cs) (hg : g < W.heap.size) (hb : Below W.heap.size W W') : W'.rangeAt g 0 cs := fun j v hv => (hb.cell (p := ⟨g, 0 + j, none⟩) hg).trans (h j v hv)
theorem nb_eq (zs : List Int) {n : Nat} (h : zs.length = n) : nbI zs = (n : Int) / 16 := by
  unfold nbI
  rw [h]
  omega
set_option maxRecDepth 100000 in
set_option maxHeartbeats 2000000 in
theorem read_short (v : Value) (zs : List Int) (w : World) (hR : Rl w v zs) (h : zs.length < 32) : Calls Tryz.prog 90 #[v] w fun e w' => e = .returned (.tuple #[.int .i64 0, .int .i64 0, .int .i64 80]) ∧ Below w.heap.size w w' := by
  obtain ⟨hl, a, cap, rfl, hcap⟩ := hR.form
  obtain ⟨n, hn⟩ : ∃ n, zs.length = n := ⟨_, rfl⟩
  rw [hn] at h ⊢
  have h3 : (n : Int) / 16 < 2 := by omega
  clear hn hR hl hcap
  go_enter Tryz.func90, Tryz.ntmps90
  go_wp2
  refine wp_scope_jumps 0 (J10 w) (fun _ _ => 0) rfl ?_ ?_
  · go_wp2
    go_step3
    exact ⟨rfl, ⟨_, _, _, _, _, _, _, _, _, _, _, _, _, _, _, _, _, _, _, _, _, _, _, _, _, _, _, _, rfl⟩, (Below.refl _ _).alloc (Nat.le_refl _) _⟩
  · rintro a1 w1 ⟨⟨t0, t1, t2, t3, t4, t5, t6, t7, t8, t9, t10, t11, t12, t13, t14, t15, t16, t17, t18, t19, t20, t21, t22, t23, t24, t25, t26, t27, rfl⟩, hb⟩
    go_wp2
    simp only [Exit.jump]
    refine bodyPost_ret (results_tmp3 Tryz.results90 _ _ _) rfl ⟨rfl, hb⟩
set_option maxRecDepth 100000 in
set_option maxHeartbeats 2000000 in
theorem read_may (v : Value) (zs : List Int) (w : World) (hR : Rl w v zs) (h32 : 32 ≤ zs.length) (hc : mbB (nbI zs) (rtI zs) = false) : Calls Tryz.prog 90 #[v] w fun e w' => e = .returned (.tuple #[.int .i64 0, .int .i64 0, .int .i64 80]) ∧ Below w.heap.size w w' := by
  obtain ⟨hl, a, cap, rfl, hcap⟩ := hR.form
  obtain ⟨n, hn⟩ : ∃ n, zs.length = n := ⟨_, rfl⟩
  have hnb := nb_eq zs hn
  rw [hnb] at hc
  have l16 : (zs.take 16).length = 16 := by rw [List.length_take]; omega
  obtain ⟨r, hr⟩ : ∃ r, zs[3]? = some r := ⟨_, List.getElem?_eq_getElem (by omega)⟩
  have hrt : rtI zs = r := by unfold rtI; rw [List.getD_eq_getElem?_getD, hr]; rfl
  rw [hrt] at hc
  have hM3 : (zs.take 16)[3]? = some r := by rw [List.getElem?_take, if_pos (by omega)]; exact hr
  have H32 : 32 ≤ zs.length := h32
  have k22 : Hid (∀ W, Below w.heap.size w W → Calls Tryz.prog 112 #[.slice a zs.length cap] W fun e w' => e = .returned (.agg ((zs.take 16).map (Value.int .i64)).toArray) ∧ Below W.heap.size W w') := fun W hb => taken_any _ zs W (hR.below hb) H32
  rw [hn] at h32 k22 hl ⊢
  obtain ⟨M, hM⟩ : ∃ M, M = zs.take 16 := ⟨_, rfl⟩
  rw [← hM] at k22 l16 hM3
  have hs1 := Shw_size l16
  have hs2 := Shw_sizeL l16
  have ho := hw_one M
  have h3 : ¬ ((n : Int) / 16 < 2) := by omega
  have H0 : Hid (SHw (w.alloc (.cells #[.int .i64 0, .int .i64 0, .int .i64 0, .int .i64 0, .int .i64 0, .int .i64 0, .int .i64 0, .int .i64 0, .int .i64 0, .int .i64 0, .int .i64 0, .int .i64 0, .int .i64 0, .int .i64 0, .int .i64 0, .int .i64 0] 83)) w.heap.size zeros16) := Shw_new w zeros16
  have B0 : Hid (Below w.heap.size w (w.alloc (.cells #[.int .i64 0, .int .i64 0, .int .i64 0, .int .i64 0, .int .i64 0, .int .i64 0, .int .i64 0, .int .i64 0, .int .i64 0, .int .i64 0, .int .i64 0, .int .i64 0, .int .i64 0, .int .i64 0, .int .i64 0, .int .i64 0] 83))) := (Below.refl _ _).alloc (Nat.le_refl _) _
  have Hl16 : Hid (M.length = 16) := l16
  have HM3 : Hid (M[3]? = some r) := hM3
  clear hn hR hcap hM H32 hnb hr hrt l16 hM3
  go_enter Tryz.func90, Tryz.ntmps90
  go_wp2
  refine wp_scope_jumps 0 (J10 w) (fun _ _ => 0) rfl ?_ ?_
  · go_wp2_with (first
      | (go_at_call 112; refine (k22.out _ B0.out).mono ?_; rintro e w1 ⟨rfl, hb1⟩; have Z1 := H0.out.below hb1; have hthere : w1.there w.heap.size 0 (M.map (Value.int .i64)).toArray.size := (by have e : (M.map (Value.int .i64)).toArray.size = 16 := (by rw [List.size_toArray, List.length_map, Hl16.out]); rw [e]; exact Z1.there); have hlaid := Z1.laid M (by rw [Hl16.out]; rfl); have hb2 : Below w.heap.size w (w1.setCells w.heap.size 0 (M.map (Value.int .i64))) := Sm.below_setCells _ _ _ (Nat.le_refl _) (bstep B0.out hb1); clear Z1)
      | (refine wpList_store_mid rfl 83 _ _ rfl w.heap.size 0 (M.map (Value.int .i64)).toArray rfl rfl hthere hs1 ho ?_; clear hthere; generalize World.setCells _ _ _ _ = W2 at *; have HL : Hid (W2.rangeAt w.heap.size 0 (M.map (Value.int .i64))) := hlaid; have HB2 : Hid (Below w.heap.size w W2) := hb2; have c3 := range_at hlaid HM3.out; clear hlaid hb2 hb1)
      | (go_at_call 52; refine (mayBe_any _ r _).mono ?_; rintro e w3 ⟨rfl, hw⟩; rw [hw, hc]; clear hw w3))
    go_step3
    exact ⟨rfl, ⟨_, _, _, _, _, _, _, _, _, _, _, _, _, _, _, _, _, _, _, _, _, _, _, _, _, _, _, _, rfl⟩, HB2.out⟩
  · rintro a1 w1 ⟨⟨t0, t1, t2, t3, t4, t5, t6, t7, t8, t9, t10, t11, t12, t13, t14, t15, t16, t17, t18, t19, t20, t21, t22, t23, t24, t25, t26, t27, rfl⟩, hb⟩
    go_wp2
    simp only [Exit.jump]
    refine bodyPost_ret (results_tmp3 Tryz.results90 _ _ _) rfl ⟨rfl, hb⟩
set_option maxRecDepth 100000 in
set_option maxHeartbeats 4000000 in
theorem read_other (v : Value) (zs : List Int) (w : World) (hR : Rl w v zs) (h32 : 32 ≤ zs.length) (hc : mbB (nbI zs) (rtI zs) = true) (hE : ¬ zs.take 16 = hdW (nbI zs) (rtI zs)) : Calls Tryz.prog 90 #[v] w fun e w' => e = .returned (.tuple #[.int .i64 0, .int .i64 0, .int .i64 80]) ∧ Below w.heap.size w w' := by
  obtain ⟨hl, a, cap, rfl, hcap⟩ := hR.form
  obtain ⟨n, hn⟩ : ∃ n, zs.length = n := ⟨_, rfl⟩
  have hnb := nb_eq zs hn
  rw [hnb] at hc hE
  have l16 : (zs.take 16).length = 16 := by rw [List.length_take]; omega
  obtain ⟨r, hr⟩ : ∃ r, zs[3]? = some r := ⟨_, List.getElem?_eq_getElem (by omega)⟩
  have hrt : rtI zs = r := by unfold rtI; rw [List.getD_eq_getElem?_getD, hr]; rfl
  rw [hrt] at hc hE
  have hM3 : (zs.take 16)[3]? = some r := by rw [List.getElem?_take, if_pos (by omega)]; exact hr
  have H32 : 32 ≤ zs.length := h32
  have k22 : Hid (∀ W, Below w.heap.size w W → Calls Tryz.prog 112 #[.slice a zs.length cap] W fun e w' => e = .returned (.agg ((zs.take 16).map (Value.int .i64)).toArray) ∧ Below W.heap.size W w') := fun W hb => taken_any _ zs W (hR.below hb) H32
  rw [hn] at h32 k22 hl ⊢
  obtain ⟨M, hM⟩ : ∃ M, M = zs.take 16 := ⟨_, rfl⟩
  rw [← hM] at k22 l16 hM3 hE
  have hs1 := Shw_size l16
  have hs2 := Shw_sizeL l16
  have ho := hw_one M
  have h3 : ¬ ((n : Int) / 16 < 2) := by omega
  have H0 : Hid (SHw (w.alloc (.cells #[.int .i64 0, .int .i64 0, .int .i64 0, .int .i64 0, .int .i64 0, .int .i64 0, .int .i64 0, .int .i64 0, .int .i64 0, .int .i64 0, .int .i64 0, .int .i64 0, .int .i64 0, .int .i64 0, .int .i64 0, .int .i64 0] 83)) w.heap.size zeros16) := Shw_new w zeros16
  have B0 : Hid (Below w.heap.size w (w.alloc (.cells #[.int .i64 0, .int .i64 0, .int .i64 0, .int .i64 0, .int .i64 0, .int .i64 0, .int .i64 0, .int .i64 0, .int .i64 0, .int .i64 0, .int .i64 0, .int .i64 0, .int .i64 0, .int .i64 0, .int .i64 0, .int .i64 0] 83))) := (Below.refl _ _).alloc (Nat.le_refl _) _
  have Hl16 : Hid (M.length = 16) := l16
  have HM3 : Hid (M[3]? = some r) := hM3
  clear hn hR hcap hM H32 hnb hr hrt l16 hM3
  have k19 := fun w => SheadOf_any ((n : Int) / 16) r w hc
  obtain ⟨H, hH⟩ : ∃ H, H = hdW ((n : Int) / 16) r := ⟨_, rfl⟩
  rw [← hH] at k19 hE
  have lH : H.length = 16 := by rw [hH]; rfl
  have hne := fun (w : World) => neq48 w M H Hl16.out lH
  clear hH lH
  have hd : decide (M = H) = false := decide_eq_false hE
  clear hE
  go_enter Tryz.func90, Tryz.ntmps90
  go_wp2
  refine wp_scope_jumps 0 (J10 w) (fun _ _ => 0) rfl ?_ ?_
  · go_wp2_with (first
      | (go_at_call 112; refine (k22.out _ B0.out).mono ?_; rintro e w1 ⟨rfl, hb1⟩; have Z1 := H0.out.below hb1; have hthere : w1.there w.heap.size 0 (M.map (Value.int .i64)).toArray.size := (by have e : (M.map (Value.int .i64)).toArray.size = 16 := (by rw [List.size_toArray, List.length_map, Hl16.out]); rw [e]; exact Z1.there); have hlaid := Z1.laid M (by rw [Hl16.out]; rfl); have hb2 : Below w.heap.size w (w1.setCells w.heap.size 0 (M.map (Value.int .i64))) := Sm.below_setCells _ _ _ (Nat.le_refl _) (bstep B0.out hb1); clear Z1)
      | (refine wpList_store_mid rfl 83 _ _ rfl w.heap.size 0 (M.map (Value.int .i64)).toArray rfl rfl hthere hs1 ho ?_; clear hthere; generalize World.setCells _ _ _ _ = W2 at *; have HL : Hid (W2.rangeAt w.heap.size 0 (M.map (Value.int .i64))) := hlaid; have HB2 : Hid (Below w.heap.size w W2) := hb2; have c3 := range_at hlaid HM3.out; clear hlaid hb2 hb1)
      | (go_at_call 52; refine (mayBe_any _ r _).mono ?_; rintro e w3 ⟨rfl, hw⟩; rw [hw, hc]; clear hw w3))
    have hlt := range_lt HL.out Hl16.out
    have c3' : ∀ p : BW W2, p.w.cell? ⟨w.heap.size, 3, none⟩ = some (.int .i64 r) := fun p => range_at (range_bel HL.out hlt p.b) HM3.out
    have c4 : Hid (∀ p : BW W2, p.w.rangeAt w.heap.size 0 (M.map (Value.int .i64))) := fun p => range_bel HL.out hlt p.b
    have hg := Tryz.guard48
    clear c3
    refine wp_region_bw (by kernel_rfl) (by kernel_rfl) (fun hbw0 => ?_)
    repeat (first | (refine QW.load 83 _ rfl (by rfl) w.heap.size 0 rfl (M.map (Value.int .i64)) _ c4.out Tryz.underlying83 rfl hs2 ?_) | (refine QW.step (fun K hK => ?_); go_simp; first | (refine hK _ ?_; clear hK K) | (apply Exists.intro; refine ⟨fun _ => ?_, hK _ ?_⟩; (first | exact Calls.bw_of (k19 _)); clear hK K)))
    refine QW.nil ?_
    rintro ⟨w4, hb4⟩
    dsimp only
    have HB4 := bstep HB2.out hb4
    have c3 := c3' ⟨w4, hb4⟩
    have HL4 : Hid (w4.rangeAt w.heap.size 0 (M.map (Value.int .i64))) := c4.out ⟨w4, hb4⟩
    dsimp only at c3
    clear c3' c4 k19 hg hne HB2 hlt HL hb4

    go_wp2
    go_step3
    exact ⟨rfl, ⟨_, _, _, _, _, _, _, _, _, _, _, _, _, _, _, _, _, _, _, _, _, _, _, _, _, _, _, _, rfl⟩, HB4⟩
  · rintro a1 w1 ⟨⟨t0, t1, t2, t3, t4, t5, t6, t7, t8, t9, t10, t11, t12, t13, t14, t15, t16, t17, t18, t19, t20, t21, t22, t23, t24, t25, t26, t27, rfl⟩, hb⟩
    go_wp2
    simp only [Exit.jump]
    refine bodyPost_ret (results_tmp3 Tryz.results90 _ _ _) rfl ⟨rfl, hb⟩
set_option maxRecDepth 100000 in
set_option maxHeartbeats 4000000 in
theorem read_right (v : Value) (zs : List Int) (w : World) (hR : Rl w v zs) (h32 : 32 ≤ zs.length) (hc : mbB (nbI zs) (rtI zs) = true) (hE : zs.take 16 = hdW (nbI zs) (rtI zs)) : Calls Tryz.prog 90 #[v] w fun e w' => e = .returned (.tuple #[.int .i64 (nbI zs), .int .i64 (rtI zs), .int .i64 0]) ∧ Below w.heap.size w w' := by
  obtain ⟨hl, a, cap, rfl, hcap⟩ := hR.form
  obtain ⟨n, hn⟩ : ∃ n, zs.length = n := ⟨_, rfl⟩
  have hnb := nb_eq zs hn
  rw [hnb] at hc hE ⊢
  have l16 : (zs.take 16).length = 16 := by rw [List.length_take]; omega
  obtain ⟨r, hr⟩ : ∃ r, zs[3]? = some r := ⟨_, List.getElem?_eq_getElem (by omega)⟩
  have hrt : rtI zs = r := by unfold rtI; rw [List.getD_eq_getElem?_getD, hr]; rfl
  rw [hrt] at hc hE ⊢
  have hM3 : (zs.take 16)[3]? = some r := by rw [List.getElem?_take, if_pos (by omega)]; exact hr
  have H32 : 32 ≤ zs.length := h32
  have k22 : Hid (∀ W, Below w.heap.size w W → Calls Tryz.prog 112 #[.slice a zs.length cap] W fun e w' => e = .returned (.agg ((zs.take 16).map (Value.int .i64)).toArray) ∧ Below W.heap.size W w') := fun W hb => taken_any _ zs W (hR.below hb) H32
  rw [hn] at h32 k22 hl ⊢
  obtain ⟨M, hM⟩ : ∃ M, M = zs.take 16 := ⟨_, rfl⟩
  rw [← hM] at k22 l16 hM3 hE
  have hs1 := Shw_size l16
  have hs2 := Shw_sizeL l16
  have ho := hw_one M
  have h3 : ¬ ((n : Int) / 16 < 2) := by omega
  have H0 : Hid (SHw (w.alloc (.cells #[.int .i64 0, .int .i64 0, .int .i64 0, .int .i64 0, .int .i64 0, .int .i64 0, .int .i64 0, .int .i64 0, .int .i64 0, .int .i64 0, .int .i64 0, .int .i64 0, .int .i64 0, .int .i64 0, .int .i64 0, .int .i64 0] 83)) w.heap.size zeros16) := Shw_new w zeros16
  have B0 : Hid (Below w.heap.size w (w.alloc (.cells #[.int .i64 0, .int .i64 0, .int .i64 0, .int .i64 0, .int .i64 0, .int .i64 0, .int .i64 0, .int .i64 0, .int .i64 0, .int .i64 0, .int .i64 0, .int .i64 0, .int .i64 0, .int .i64 0, .int .i64 0, .int .i64 0] 83))) := (Below.refl _ _).alloc (Nat.le_refl _) _
  have Hl16 : Hid (M.length = 16) := l16
  have HM3 : Hid (M[3]? = some r) := hM3
  clear hn hR hcap hM H32 hnb hr hrt l16 hM3
  have k19 := fun w => SheadOf_any ((n : Int) / 16) r w hc
  obtain ⟨H, hH⟩ : ∃ H, H = hdW ((n : Int) / 16) r := ⟨_, rfl⟩
  rw [← hH] at k19 hE
  have lH : H.length = 16 := by rw [hH]; rfl
  have hne := fun (w : World) => neq48 w M H Hl16.out lH
  clear hH lH
  have hd : decide (M = H) = true := decide_eq_true hE
  clear hE
  go_enter Tryz.func90, Tryz.ntmps90
  go_wp2
  go_step3
  · go_wp2_with (first
      | (go_at_call 112; refine (k22.out _ B0.out).mono ?_; rintro e w1 ⟨rfl, hb1⟩; have Z1 := H0.out.below hb1; have hthere : w1.there w.heap.size 0 (M.map (Value.int .i64)).toArray.size := (by have e : (M.map (Value.int .i64)).toArray.size = 16 := (by rw [List.size_toArray, List.length_map, Hl16.out]); rw [e]; exact Z1.there); have hlaid := Z1.laid M (by rw [Hl16.out]; rfl); have hb2 : Below w.heap.size w (w1.setCells w.heap.size 0 (M.map (Value.int .i64))) := Sm.below_setCells _ _ _ (Nat.le_refl _) (bstep B0.out hb1); clear Z1)
      | (refine wpList_store_mid rfl 83 _ _ rfl w.heap.size 0 (M.map (Value.int .i64)).toArray rfl rfl hthere hs1 ho ?_; clear hthere; generalize World.setCells _ _ _ _ = W2 at *; have HL : Hid (W2.rangeAt w.heap.size 0 (M.map (Value.int .i64))) := hlaid; have HB2 : Hid (Below w.heap.size w W2) := hb2; have c3 := range_at hlaid HM3.out; clear hlaid hb2 hb1)
      | (go_at_call 52; refine (mayBe_any _ r _).mono ?_; rintro e w3 ⟨rfl, hw⟩; rw [hw, hc]; clear hw w3))
    have hlt := range_lt HL.out Hl16.out
    have c3' : ∀ p : BW W2, p.w.cell? ⟨w.heap.size, 3, none⟩ = some (.int .i64 r) := fun p => range_at (range_bel HL.out hlt p.b) HM3.out
    have c4 : Hid (∀ p : BW W2, p.w.rangeAt w.heap.size 0 (M.map (Value.int .i64))) := fun p => range_bel HL.out hlt p.b
    have hg := Tryz.guard48
    clear c3
    refine wp_region_bw (by kernel_rfl) (by kernel_rfl) (fun hbw0 => ?_)
    repeat (first | (refine QW.load 83 _ rfl (by rfl) w.heap.size 0 rfl (M.map (Value.int .i64)) _ c4.out Tryz.underlying83 rfl hs2 ?_) | (refine QW.step (fun K hK => ?_); go_simp; first | (refine hK _ ?_; clear hK K) | (apply Exists.intro; refine ⟨fun _ => ?_, hK _ ?_⟩; (first | exact Calls.bw_of (k19 _)); clear hK K)))
    refine QW.nil ?_
    rintro ⟨w4, hb4⟩
    dsimp only
    have HB4 := bstep HB2.out hb4
    have c3 := c3' ⟨w4, hb4⟩
    have HL4 : Hid (w4.rangeAt w.heap.size 0 (M.map (Value.int .i64))) := c4.out ⟨w4, hb4⟩
    dsimp only at c3
    clear c3' c4 k19 hg hne HB2 hlt HL hb4

    have hlt := range_lt HL4.out Hl16.out
    clear c3
    go_wp2
    have c3' : ∀ p : BW w4, p.w.cell? ⟨w.heap.size, 3, none⟩ = some (.int .i64 r) := fun p => range_at (range_bel HL4.out hlt p.b) HM3.out
    refine wp_region_bw (by kernel_rfl) (by kernel_rfl) (fun hbw0 => ?_)
    repeat (refine QW.step (fun K hK => ?_); go_simp; first | (refine hK _ ?_; clear hK K))
    refine QW.nil ?_
    rintro ⟨w5, hb5⟩
    dsimp only
    go_wp2
    try rw [Exit.noGoto_ret]
    refine bodyPost_ret (results_tmp3 Tryz.results90 _ _ _) rfl ⟨rfl, bstep HB4 hb5⟩
/-- What Read tells of any words. -/
theorem Sread_any (v : Value) (zs : List Int) (w : World) (hR : Rl w v zs) : Calls Tryz.prog 90 #[v] w fun e w' => e = .returned (.tuple #[.int .i64 (rdN zs), .int .i64 (rdR zs), .int .i64 (rdE zs)]) ∧ Below w.heap.size w w' := by
  by_cases h : zs.length < 32
  · obtain ⟨e1, e2, e3⟩ := rd_no (rdB_short h)
    rw [e1, e2, e3]
    exact read_short v zs w hR h
  · cases hc : mbB (nbI zs) (rtI zs) with
    | false =>
      obtain ⟨e1, e2, e3⟩ := rd_no (show rdB zs = false by unfold rdB; rw [hc]; rfl)
      rw [e1, e2, e3]
      exact read_may v zs w hR (by omega) hc
    | true =>
      by_cases hE : zs.take 16 = hdW (nbI zs) (rtI zs)
      · obtain ⟨e1, e2, e3⟩ := rd_yes (show rdB zs = true by unfold rdB; rw [hc, decide_eq_true hE]; rfl)
        rw [e1, e2, e3]
        exact read_right v zs w hR (by omega) hc hE
      · obtain ⟨e1, e2, e3⟩ := rd_no (show rdB zs = false by unfold rdB; rw [hc, decide_eq_false hE]; rfl)
        rw [e1, e2, e3]
        exact read_other v zs w hR (by omega) hc hE
end Go.Proofs.YtcgclhahonndbaaGreat
namespace Go.Proofs.YtcgclhahonndbaaGreat
open Go.RowKit Go.Shelf
set_option linter.unusedVariables false
/-- Leaves in a row: of each its block, and the slice of its slots. -/
def lfC (zs : List Int) (p : Int × Value) : List Value := [.int .i64 (rnN zs p.1).lv, .int .i64 (rnN zs p.1).tu, .int .i64 (rnN zs p.1).nx, .int .i64 (rnN zs p.1).lo, p.2, .int .i64 p.1]
structure Lv (zs : List Int) (W : World) (base : Nat) (v : Value) (P : List (Int × Value)) : Prop where
  own : W.ownsRow base 100 6 v P.length (P.flatMap (lfC zs))
  rd : ∀ p ∈ P, OwnI W base p.2 (rnN zs p.1).sl
theorem Lv.below {zs : List Int} {W W' : World} {base : Nat} {v : Value} {P : List (Int × Value)} (h : Lv zs W base v P) (hb : Below W.heap.size W W') : Lv zs W' base v P := ⟨own_below h.own hb, fun p hp => (h.rd p hp).below hb⟩
theorem Lv.tn {zs : List Int} {W W' : World} {base b c : Nat} {v : Value} {P : List (Int × Value)} (h : Lv zs W base v P) (ht : Tn b c W W') (hb : Ma W b) (hc : Ma W c) : Lv zs W' base v P := ⟨own_tn h.own ht hb hc, fun p hp => own_tn (h.rd p hp) ht hb hc⟩
/-- What is in no row of that kind stays while such a row grows. -/
theorem own_ne {W W' : World} {base : Nat} {e : TypeId} {size : Nat} {v : Value} {n : Nat} {xs : List Value} (h : W.ownsRow base e size v n xs) (hg : W.grownBy W' v.ownBlock) {k : Nat} {o : Obj} (ho : W.heap[k]? = some o) (hne : ∀ cs f, o ≠ .cells cs e f) : W'.heap[k]? = some o := by
  refine (hg.block k (Array.getElem?_eq_some_iff.1 ho).1 ?_).trans ho
  rcases h.2 with ⟨rfl, _⟩ | ⟨g, cap, cur, rfl, _, hc, _⟩
  · simp [Value.ownBlock]
  · intro e2
    have : k = g := by simpa [Value.ownBlock] using e2
    subst this
    rw [hc] at ho
    cases ho
    exact hne _ _ rfl
theorem own_grown {W W' : World} {base base' : Nat} {e e' : TypeId} {size size' : Nat} {v v' : Value} {n n' : Nat} {xs xs' : List Value} (h : W.ownsRow base e size v n xs) (hg : W.grownBy W' v.ownBlock) (h' : W.ownsRow base' e' size' v' n' xs') (hne : e' ≠ e) : W'.ownsRow base' e' size' v' n' xs' := by
  refine ⟨h'.1, ?_⟩
  rcases h'.2 with h2 | ⟨g, cap, cur, e1, h2, h3, rest⟩
  · exact .inl h2
  · exact .inr ⟨g, cap, cur, e1, h2, own_ne h hg h3 (fun cs f e => hne (by cases e; rfl)), rest⟩
theorem Tryz.info100 : (Tryz.prog.info? 100).map (fun i => (i.zero, i.size, i.bytes)) = some (some (.agg #[.int .i64 0, .int .i64 0, .int .i64 0, .int .i64 0, .slice none 0 0, .int .i64 0]), 6, 64) := by kernel_rfl
theorem lfC_one (zs : List Int) (b : Int) (v : Value) (hv : v.oneCell' = true) : ∀ u ∈ lfC zs (b, v), u.oneCell' = true := by
  intro u hu
  simp only [lfC, List.mem_cons, List.not_mem_nil, or_false] at hu
  rcases hu with rfl | rfl | rfl | rfl | rfl | rfl <;> first | rfl | exact hv
theorem OwnI.one {W : World} {base : Nat} {v : Value} {zs : List Int} (h : OwnI W base v zs) : v.oneCell' = true := by
  obtain ⟨a, c, rfl⟩ := h.form
  rfl
/-- A new leaf in a block of its own, as it is appended. -/
theorem leaf_new (W : World) (zs : List Int) (b : Int) (v : Value) : RdC (W.alloc (.cells #[.int .i64 (rnN zs b).lv, .int .i64 (rnN zs b).tu, .int .i64 (rnN zs b).nx, .int .i64 (rnN zs b).lo, v, .int .i64 b] 100)) 6 (.slice (some ⟨W.heap.size, 0, none⟩) 1 1) 1 (lfC zs (b, v)) := by
  refine ⟨rfl, by omega, _, _, rfl, Nat.le_refl _, .inr ⟨_, _, rfl, by simp, fun j u hj => ?_⟩⟩
  match j, hj with
  | 0, h => cases h; simp
  | 1, h => cases h; simp
  | 2, h => cases h; simp
  | 3, h => cases h; simp
  | 4, h => cases h; simp
  | 5, h => cases h; simp
  | j + 6, h => simp [lfC] at h
/-- All that the loop knows. -/
theorem lv_len {zs : List Int} {L : List Int} (hB : rdB zs = true) (hn : L.Nodup) (h : ∀ b ∈ L, rnE zs b = 0) : L.length ≤ 256 := by
  have h1 : mbB (nbI zs) (rtI zs) = true := by
    unfold rdB at hB
    simp only [Bool.and_eq_true] at hB
    exact hB.1
  have h2 := (mbB_iff.1 h1).2.1
  refine nodup_len 256 L hn (fun b hb => ?_)
  have h3 := rnK_iff.1 (rn_may (h b hb)).1
  unfold nbI at h2
  omega
end Go.Proofs.YtcgclhahonndbaaGreat
