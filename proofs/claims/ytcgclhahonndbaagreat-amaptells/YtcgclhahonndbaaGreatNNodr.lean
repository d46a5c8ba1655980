/- Set over from a lower layer: NNodr. -/
import Derived.Test.YtcgclhahonndbaaGreatNNodp
import Derived.Test.YtcgclhahonndbaaGreatNNodw
import Derived.Test.YtcgclhahonndbaaGreatNNodz
import Derived.Test.YtcgclhahonndbaaGreatNNumz
import Derived.Test.YtcgclhahonndbaaGreatBase
import Derived.Test.YtcgclhahonndbaaGreatSSupa
import Derived.Laws.StructEq
namespace Go.Proofs.YtcgclhahonndbaaGreat
open Go.RowKit Go.Shelf
set_option linter.unusedVariables false
theorem eq_ints (w : World) (d : Nat) (xs ys : List Int) (hx : xs.length = 16) (hy : ys.length = 16) :
    (Op.equalIn (d + 2) 64 (.agg (xs.map (Value.int .i64)).toArray) (.agg (ys.map (Value.int .i64)).toArray)).run Tryz.prog w = .ok (xs == ys) w := by
  have ht := Tryz.underlying64
  have he := Tryz.underlying3
  have hsz : ∀ w, (sizeOf 3).run Tryz.prog w = .ok 1 w := fun w => Tryz.sizeOf3 w
  rw [← all_range_int xs ys (hx.trans hy.symm), hx, List.range_eq_range', Op.equalIn]
  simp only [Sem.run_bind, run_underlying ht, Result.andThen_ok, hsz, Std.Legacy.Range.forIn_eq_forIn_range', Std.Legacy.Range.size, Nat.sub_zero, Nat.add_sub_cancel, Nat.div_one]
  have hl : ∀ i ∈ List.range' 0 16 1, i < 16 := fun i hi => by simpa using (List.mem_range'_1.1 hi).2
  generalize List.range' 0 16 1 = l at hl ⊢
  induction l with
  | nil => simp
  | cons i l ih =>
    have hi : i < 16 := hl i (by simp)
    have px : (part 3 (xs.map (Value.int .i64)).toArray (i * 1)).run Tryz.prog w = .ok (.int .i64 (xs.getD i 0)) w := by
      simp [part, isAgg, run_underlying he, List.getD, List.getElem?_eq_getElem (show i < xs.length by omega)]
    have py : (part 3 (ys.map (Value.int .i64)).toArray (i * 1)).run Tryz.prog w = .ok (.int .i64 (ys.getD i 0)) w := by
      simp [part, isAgg, run_underlying he, List.getD, List.getElem?_eq_getElem (show i < ys.length by omega)]
    have pe : (Op.equalIn (d + 1) 3 (.int .i64 (xs.getD i 0)) (.int .i64 (ys.getD i 0))).run Tryz.prog w = .ok (xs.getD i 0 == ys.getD i 0) w := run_equalIn_int w d 3 .i64 .i64 _ _ he
    simp only [List.forIn_cons, Sem.run_bind, px, py, pe, Result.andThen_ok, List.all_cons]
    cases hb : (xs.getD i 0 == ys.getD i 0)
    · simp
    · simp only [Bool.not_true, Bool.false_eq_true, if_false, Sem.run_pure, Result.andThen_ok, Bool.true_and]
      exact ih fun j hj => hl j (by simp [hj])
theorem neq_ints (w : World) (xs ys : List Int) (hx : xs.length = 16) (hy : ys.length = 16) : (binOp .neq 64 (.agg (xs.map (Value.int .i64)).toArray) (.agg (ys.map (Value.int .i64)).toArray)).run Tryz.prog w = .ok (.bool (!decide (xs = ys))) w := by
  rw [run_neq_struct, show (10000 : Nat) = 9998 + 2 from rfl, eq_ints w 9998 xs ys hx hy, show (xs == ys) = decide (xs = ys) by by_cases h : xs = ys <;> simp [h]]
  rfl
theorem Tryz.guard53 : Tryz.prog.eqGuardType Tryz.prog.depth 64 = false := by kernel_rfl
theorem splice16 (ys : List Int) (h : 16 ≤ ys.length) : splice zeros16 0 (ys.take 16) = ys.take 16 := by
  have hl : (ys.take 16).length = 16 := by rw [List.length_take]; omega
  generalize ys.take 16 = l at hl ⊢
  unfold splice
  simp [hl, zeros16]
theorem gu_len {M : List Int} (h : M.length = 16) : (guN M).sl.length ≤ 13 := by
  have h1 : ((M.drop 3).takeWhile (fun x => decide (0 < x))).length ≤ (M.drop 3).length := (List.takeWhile_sublist _).length_le
  rw [List.length_drop] at h1
  show ((M.drop 3).takeWhile (fun x => decide (0 < x))).length ≤ 13
  omega
theorem read_start (w W : World) (hW : W = (w.alloc (.cells #[.int .i64 0, .int .i64 0, .int .i64 0, .int .i64 0, .slice none 0 0] 43)).alloc (.cells #[.int .i64 0, .int .i64 0, .int .i64 0, .int .i64 0, .int .i64 0, .int .i64 0, .int .i64 0, .int .i64 0, .int .i64 0, .int .i64 0, .int .i64 0, .int .i64 0, .int .i64 0, .int .i64 0, .int .i64 0, .int .i64 0] 64)) : Nb W w.heap.size 0 0 0 0 (.slice none 0 0) ∧ Hw W (w.heap.size + 1) zeros16 ∧ Below w.heap.size w W := by
  subst hW
  exact ⟨(nb_new w 0 0 0 0 _).below ((Below.refl _ _).alloc (Nat.le_refl _) _), hz_at (by simp), ((Below.refl _ w).alloc (Nat.le_refl _) _).alloc (by simp) _⟩
set_option maxRecDepth 100000 in
set_option maxHeartbeats 1000000 in
theorem read_out (v : Value) (zs : List Int) (b : Int) (w : World) (hR : Rl w v zs) (hk : rnK zs b = false) : Calls Tryz.prog 94 #[v, .int .i64 b] w fun e w' => e = .returned (.tuple #[.agg #[.int .i64 0, .int .i64 0, .int .i64 0, .int .i64 0, .slice none 0 0], .int .i64 1]) ∧ Below w.heap.size w w' := by
  obtain ⟨hl, a, cap, rfl, hcap0⟩ := hR.form
  have N0 : Hid (Nb (w.alloc (.cells #[.int .i64 0, .int .i64 0, .int .i64 0, .int .i64 0, .slice none 0 0] 43)) w.heap.size 0 0 0 0 (.slice none 0 0)) := nb_new w 0 0 0 0 _
  have B0 : Hid (Below w.heap.size w (w.alloc (.cells #[.int .i64 0, .int .i64 0, .int .i64 0, .int .i64 0, .slice none 0 0] 43))) := (Below.refl _ _).alloc (Nat.le_refl _) _
  by_cases h0 : b < 0
  · clear hR hk
    go_enter Tryz.func94, Tryz.ntmps94
    go_wp2
    exact bodyPost_ret (ret_nb2 (p := 4) (u := 5) (b := w.heap.size) Tryz.results94 rfl N0.out) rfl ⟨rfl, B0.out⟩
  · have h1 : b ≥ (zs.length : Int) / 16 := by
      by_cases h : b < (zs.length : Int) / 16
      · rw [rnK_iff.2 ⟨by omega, h⟩] at hk
        cases hk
      · omega
    clear hR hk
    go_enter Tryz.func94, Tryz.ntmps94
    go_wp2
    exact bodyPost_ret (ret_nb2 (p := 4) (u := 5) (b := w.heap.size) Tryz.results94 rfl N0.out) rfl ⟨rfl, B0.out⟩
set_option maxRecDepth 100000 in
set_option maxHeartbeats 2000000 in
theorem read_in (v : Value) (zs : List Int) (n : Nat) (w : World) (hR : Rl w v zs) (hn : 16 * n + 16 ≤ zs.length) : Calls Tryz.prog 94 #[v, .int .i64 (n : Int)] w fun e w' => ∃ v', e = .returned (.tuple #[.agg #[.int .i64 (rnN zs n).lv, .int .i64 (rnN zs n).tu, .int .i64 (rnN zs n).nx, .int .i64 (rnN zs n).lo, v'], .int .i64 (rnE zs n)]) ∧ OwnI w' w.heap.size v' (rnN zs n).sl ∧ Below w.heap.size w w' := by
  obtain ⟨hl, a, cap, rfl, hcap0⟩ := hR.form
  have hK : rnK zs (n : Int) = true := rnK_iff.2 ⟨by omega, by omega⟩
  have h1 : ¬ (n : Int) ≥ (zs.length : Int) / 16 := by omega
  obtain ⟨b, off, rfl, hc⟩ := hR.base (by omega)
  have hcap : zs.length ≤ cap := hcap0
  go_enter Tryz.func94, Tryz.ntmps94
  go_wp2
  generalize hW : World.alloc _ _ = W
  obtain ⟨R0, I0, B0⟩ := read_start w W hW.symm
  clear hW
  have RR := (hR.below B0).drop (16 * n) (by omega)
  have R0 : Hid (Nb W.drew w.heap.size 0 0 0 0 (.slice none 0 0)) := R0
  have I0 : Hid (Hw W.drew (w.heap.size + 1) zeros16) := I0
  have B0 : Hid (Below w.heap.size w W.drew) := B0.drew
  have RR : Hid (Rl W.drew (.slice (some ⟨b, off + 16 * n, none⟩) (zs.length - 16 * n) (cap - 16 * n)) (zs.drop (16 * n))) := RR
  have hne : ¬ cap = n * 16 := by omega
  have d1 : n * 16 ≤ zs.length := by omega
  have d2 : n * 16 ≤ cap := by omega
  have e1 : (0 : Int) ≤ (n : Int) * 16 := by omega
  have e2 : (n : Int) * 16 ≤ (zs.length : Int) := by omega
  have e3 : ((n : Int) * 16).toNat = 16 * n := by omega
  have e4 : IntKind.i64.wrap ((n : Int) * 16) = (n : Int) * 16 := by rw [IntKind.wrap_i64]; omega
  have e5 : (n : Int) * 16 ≤ (cap : Int) := by omega
  have e6 : ¬ cap = 16 * n := by omega
  go_region_held3 (fun _ => True) (exact trivial)
    (first
      | (refine step_hw rfl (.tmp 18) (.tmp 22) rfl (w.heap.size + 1) 0 16 16 (zs.drop (16 * n)) zeros16 _ rfl rfl RR.out I0.out (by decide) ?_; intro w2 I2 hb2))
  have R2 : Nb w2 w.heap.size 0 0 0 0 (.slice none 0 0) := R0.out.belowN hb2 (by omega)
  have B2 : Below w.heap.size w w2 := B0.out.trans (hb2.mono (by omega))
  rw [splice16 _ (by simp; omega)] at I2
  have l16 : (bkL zs n).length = 16 := bkL_length hK
  have I2 : Hw w2 (w.heap.size + 1) (bkL zs n) := I2
  have hrange := I2.range
  have hs2 := hw_sizeL l16
  have Y1 := fun h => rn_bad (zs := zs) (b := (n : Int)) hK h
  have Y2 := fun h => rn_ok (zs := zs) (b := (n : Int)) hK h
  obtain ⟨A, hA⟩ : ∃ A, rnN zs (n : Int) = A := ⟨_, rfl⟩
  obtain ⟨E, hE⟩ : ∃ E, rnE zs (n : Int) = E := ⟨_, rfl⟩
  rw [hA, hE] at Y1 Y2
  have HA : Hid (rnN zs (n : Int) = A) := hA
  have HE : Hid (rnE zs (n : Int) = E) := hE
  clear hA hE
  generalize bkL zs (n : Int) = M at *
  have Y1 : Hid (okB M = false → E = 90 ∧ A = nilN) := Y1
  have Y2 : Hid (okB M = true → E = 0 ∧ A = guN M) := Y2
  obtain ⟨x, hx⟩ : ∃ x, x = guN M := ⟨_, rfl⟩
  have Hx : Hid (x = guN M) := hx
  have Y3 : Hid (nnB x = false → okB M = false) := (by show _ → _; rw [hx]; exact okB_no1)
  have Y4 : Hid (nnB x = true → imN x ≠ M → okB M = false) := (by show _ → _; rw [hx]; exact fun _ h => okB_no2 h)
  have Y5 : Hid (nnB x = true → imN x = M → okB M = true) := (by show _ → _; intro h1 h2; unfold okB; rw [← hx, h1, decide_eq_true h2]; rfl)
  have I2 : Hid (Hw w2 (w.heap.size + 1) M) := I2
  have R2 : Hid (Nb w2 w.heap.size 0 0 0 0 (.slice none 0 0)) := R2
  have B2 : Hid (Below w.heap.size w w2) := B2
  have k26 := fun w => guess_any M w l16
  rw [← hx] at k26
  have hxl : x.sl.length ≤ 13 := by rw [hx]; exact gu_len l16
  clear hx R0 I0 B0 RR hb2 hcap hcap0 hne d1 d2 e1 e2 e3 e4 e5 e6 hc hR hK
  go_wp2_with (first
    | refine wpList_load_mid rfl 64 _ rfl (w.heap.size + 1) 0 rfl (M.map (Value.int .i64)) _ hrange Tryz.underlying64 rfl hs2 ?_
    | (go_at_call 113; refine (k26 _).mono ?_; rintro e w3 ⟨v3, rfl, o3, hb3⟩; obtain ⟨a3, c3, rfl⟩ := o3.form))
  have Nx : Nb (w3.alloc (.cells #[.int .i64 x.lv, .int .i64 x.tu, .int .i64 x.nx, .int .i64 x.lo, .slice a3 x.sl.length c3] 43)) w3.heap.size x.lv x.tu x.nx x.lo (.slice a3 x.sl.length c3) := nb_new w3 _ _ _ _ _
  have b3 : Below w2.heap.size w2 (w3.alloc (.cells #[.int .i64 x.lv, .int .i64 x.tu, .int .i64 x.nx, .int .i64 x.lo, .slice a3 x.sl.length c3] 43)) := hb3.alloc hb3.size _
  have I3 := I2.out.below b3
  have R3 := R2.out.below b3
  have B3 := bstep B2.out b3
  have O3 : OwnI (w3.alloc (.cells #[.int .i64 x.lv, .int .i64 x.tu, .int .i64 x.nx, .int .i64 x.lo, .slice a3 x.sl.length c3] 43)) w2.heap.size (.slice a3 x.sl.length c3) x.sl := own_below o3 ((Below.refl _ _).alloc (Nat.le_refl _) _)
  have HLt : Hid (w.heap.size < w2.heap.size) := R2.out.lt
  clear I2 R2 B2 hrange b3 hb3 o3 k26
  generalize hbx : w3.heap.size = bx at *
  generalize w3.alloc (.cells #[.int .i64 x.lv, .int .i64 x.tu, .int .i64 x.nx, .int .i64 x.lo, .slice a3 x.sl.length c3] 43) = W3 at *
  have c0 : ∀ p : BW W3, p.w.cell? ⟨bx, 0, none⟩ = some (.int .i64 x.lv) := fun p => (Nx.below p.b).c.1
  have c1 : ∀ p : BW W3, p.w.cell? ⟨bx, 1, none⟩ = some (.int .i64 x.tu) := fun p => (Nx.below p.b).c.2.1
  have c2 : ∀ p : BW W3, p.w.cell? ⟨bx, 2, none⟩ = some (.int .i64 x.nx) := fun p => (Nx.below p.b).c.2.2.1
  have c3' : ∀ p : BW W3, p.w.cell? ⟨bx, 3, none⟩ = some (.int .i64 x.lo) := fun p => (Nx.below p.b).c.2.2.2.1
  have c4' : ∀ p : BW W3, p.w.cell? ⟨bx, 4, none⟩ = some (.slice a3 x.sl.length c3) := fun p => (Nx.below p.b).c.2.2.2.2
  have c4 : Hid (∀ p : BW W3, p.w.rangeAt (w.heap.size + 1) 0 (M.map (Value.int .i64))) := fun p => (I3.below p.b).range
  have HX : Hid (Nb W3 bx x.lv x.tu x.nx x.lo (.slice a3 x.sl.length c3)) := Nx
  have HR : Hid (Nb W3 w.heap.size 0 0 0 0 (.slice none 0 0)) := R3
  have HB : Hid (Below w.heap.size w W3) := B3
  have HO : Hid (OwnI W3 w2.heap.size (.slice a3 x.sl.length c3) x.sl) := O3
  have k17 : ∀ p : BW W3, Calls Tryz.prog 38 #[.agg #[.int .i64 x.lv, .int .i64 x.tu, .int .i64 x.nx, .int .i64 x.lo, .slice a3 x.sl.length c3]] p.w fun e w' => e = .returned (.bool (nnB x)) ∧ Below p.w.heap.size p.w w' := fun p => check_node x _ p.w ((O3.rd (by omega)).below p.b)
  clear Nx I3 R3 B3 O3 hbx
  cases hc : nnB x with
  | false =>
    have H : Hid (E = 90 ∧ A = nilN) := Y1.out (Y3.out hc)
    rw [hc] at k17
    refine wp_region_bw (by kernel_rfl) (by kernel_rfl) (fun hbw0 => ?_)
    iterate 9 (refine QW.step (fun K hK => ?_); go_simp; first | (refine hK _ ?_; clear hK K) | (apply Exists.intro; refine ⟨fun _ => ?_, hK _ ?_⟩; (first | exact Calls.bw_of (k17 _)); clear hK K))
    refine QW.nil ?_
    rintro ⟨w4, hb4⟩
    dsimp only
    clear c0 c1 c2 c3' c4' c4 k17
    have HB4 := bstep HB.out hb4
    have HR4 := HR.out.below hb4
    obtain ⟨q0, q1, q2, q3, q4⟩ := HR4.c
    have f0 := HR4.free 0
    have f1 := HR4.free 1
    have f2 := HR4.free 2
    have f3 := HR4.free 3
    have f4 := HR4.free 4
    have N5 := HR4.set5 (.int .i64 0) (.int .i64 0) (.int .i64 0) (.int .i64 0) (.slice none 0 0)
    have B5 := below_set5 HB4 (Nat.le_refl _) (.int .i64 0) (.int .i64 0) (.int .i64 0) (.int .i64 0) (.slice none 0 0)
    clear HR4 HB4 HX HR HB HO
    go_wp2
    generalize World.setCell _ _ _ = W5 at *
    exact bodyPost_ret (ret_nb2 (p := 4) (u := 5) (b := w.heap.size) Tryz.results94 rfl N5) rfl ⟨_, by rw [HE.out, HA.out, H.out.1, H.out.2]; rfl, by rw [HA.out, H.out.2]; exact own_nil _ _, B5⟩
  | true =>
    have hm := nnB_iff.1 hc
    have l2 := imN_length hm.len
    have Y4' : Hid (imN x ≠ M → E = 90 ∧ A = nilN) := fun h => Y1.out (Y4.out hc h)
    have Y5' : Hid (imN x = M → E = 0 ∧ A = x) := fun h => by have := Y2.out (Y5.out hc h); rw [← Hx.out] at this; exact this
    have k24 : ∀ p : BW W3, Calls Tryz.prog 39 #[.agg #[.int .i64 x.lv, .int .i64 x.tu, .int .i64 x.nx, .int .i64 x.lo, .slice a3 x.sl.length c3]] p.w fun e w' => e = .returned (.agg ((imN x).map (Value.int .i64)).toArray) ∧ Below p.w.heap.size p.w w' := fun p => image_node x.lv x.tu x.nx x.lo x.sl a3 c3 p.w ((HO.out.rd (by omega)).below p.b) hm
    rw [hc] at k17
    clear Y1 Y2 Y3 Y4 Y5 hm hc
    obtain ⟨J, hJ⟩ : ∃ J, J = imN x := ⟨_, rfl⟩
    rw [← hJ] at k24 l2 Y4' Y5'
    clear hJ
    have hne := fun (w : World) => neq_ints w J M l2 l16
    have hg := Tryz.guard53
    refine wp_region_bw (by kernel_rfl) (by kernel_rfl) (fun hbw0 => ?_)
    iterate 9 (first | (refine QW.load 64 _ rfl (by rfl) (w.heap.size + 1) 0 rfl (M.map (Value.int .i64)) _ c4.out Tryz.underlying64 rfl hs2 ?_) | (refine QW.step (fun K hK => ?_); go_simp; first | (refine hK _ ?_; clear hK K) | (apply Exists.intro; refine ⟨fun _ => ?_, hK _ ?_⟩; (first | exact Calls.bw_of (k17 _) | exact Calls.bw_of (k24 _)); clear hK K)))
    refine QW.nil ?_
    rintro ⟨w4, hb4⟩
    dsimp only
    clear c0 c1 c2 c3' c4' c4 k17 k24 hne hg
    have HB4 := bstep HB.out hb4
    have HR4 := HR.out.below hb4
    have HX4 := HX.out.below hb4
    have HO4 : OwnI w4 w2.heap.size (.slice a3 x.sl.length c3) x.sl := own_below HO.out hb4
    by_cases he : J = M
    · have H : Hid (E = 0 ∧ A = x) := Y5'.out he
      rw [decide_eq_true he]
      clear he Y4' Y5'
      obtain ⟨q0, q1, q2, q3, q4⟩ := HR4.c
      have f0 := HR4.free 0
      have f1 := HR4.free 1
      have f2 := HR4.free 2
      have f3 := HR4.free 3
      have f4 := HR4.free 4
      have N5 := HR4.set5 (.int .i64 x.lv) (.int .i64 x.tu) (.int .i64 x.nx) (.int .i64 x.lo) (.slice a3 x.sl.length c3)
      have B5 := below_set5 HB4 (Nat.le_refl _) (.int .i64 x.lv) (.int .i64 x.tu) (.int .i64 x.nx) (.int .i64 x.lo) (.slice a3 x.sl.length c3)
      have O5 := (own_set5 HO4 HLt.out (.int .i64 x.lv) (.int .i64 x.tu) (.int .i64 x.nx) (.int .i64 x.lo) (.slice a3 x.sl.length c3)).less (Nat.le_of_lt HLt.out)
      have HX5 := HX4.c
      obtain ⟨c0, c1, c2, c3', c4'⟩ := HX5
      clear HR4 HB4 HX HR HB HO HX4 HO4
      go_wp2
      generalize World.setCell _ _ _ = W5 at *
      exact bodyPost_ret (ret_nb2 (p := 4) (u := 5) (b := w.heap.size) Tryz.results94 rfl N5) rfl ⟨_, by rw [HE.out, HA.out, H.out.1, H.out.2]; rfl, by rw [HA.out, H.out.2]; exact O5, B5⟩
    · have H : Hid (E = 90 ∧ A = nilN) := Y4'.out he
      rw [decide_eq_false he]
      clear he Y4' Y5' HX4 HO4
      obtain ⟨q0, q1, q2, q3, q4⟩ := HR4.c
      have f0 := HR4.free 0
      have f1 := HR4.free 1
      have f2 := HR4.free 2
      have f3 := HR4.free 3
      have f4 := HR4.free 4
      have N5 := HR4.set5 (.int .i64 0) (.int .i64 0) (.int .i64 0) (.int .i64 0) (.slice none 0 0)
      have B5 := below_set5 HB4 (Nat.le_refl _) (.int .i64 0) (.int .i64 0) (.int .i64 0) (.int .i64 0) (.slice none 0 0)
      clear HR4 HB4 HX HR HB HO
      go_wp2
      generalize World.setCell _ _ _ = W5 at *
      exact bodyPost_ret (ret_nb2 (p := 4) (u := 5) (b := w.heap.size) Tryz.results94 rfl N5) rfl ⟨_, by rw [HE.out, HA.out, H.out.1, H.out.2]; rfl, by rw [HA.out, H.out.2]; exact own_nil _ _, B5⟩
/-- What Read tells of any words, at any number. -/
theorem read_any (v : Value) (zs : List Int) (b : Int) (w : World) (hR : Rl w v zs) : Calls Tryz.prog 94 #[v, .int .i64 b] w fun e w' => ∃ v', e = .returned (.tuple #[.agg #[.int .i64 (rnN zs b).lv, .int .i64 (rnN zs b).tu, .int .i64 (rnN zs b).nx, .int .i64 (rnN zs b).lo, v'], .int .i64 (rnE zs b)]) ∧ OwnI w' w.heap.size v' (rnN zs b).sl ∧ Below w.heap.size w w' := by
  cases hk : rnK zs b with
  | false =>
    obtain ⟨e1, e2⟩ := rn_out hk
    rw [e1, e2]
    refine (read_out v zs b w hR hk).mono ?_
    rintro e w' ⟨rfl, hb⟩
    exact ⟨_, rfl, own_nil _ _, hb⟩
  | true =>
    obtain ⟨h0, h1⟩ := rnK_iff.1 hk
    obtain ⟨n, rfl⟩ : ∃ n : Nat, b = (n : Int) := ⟨b.toNat, by omega⟩
    exact read_in v zs n w hR (by omega)
end Go.Proofs.YtcgclhahonndbaaGreat
