/- Set over from a lower layer: RRech. -/
import Derived.Test.YtcgclhahonndbaaGreatRReca
import Derived.Test.YtcgclhahonndbaaGreatRRece
import Derived.Test.YtcgclhahonndbaaGreatRRecz
import Derived.Test.YtcgclhahonndbaaGreatNNodz
import Derived.Test.YtcgclhahonndbaaGreatBase
import Derived.Test.YtcgclhahonndbaaGreatNNumz
import Derived.Test.YtcgclhahonndbaaGreatSSumz
import Derived.Test.YtcgclhahonndbaaGreatRKeywalkc
import Derived.Test.YtcgclhahonndbaaGreatRRecg
namespace Go.Proofs.YtcgclhahonndbaaGreat
open Go.RowKit Go.Shelf
set_option linter.unusedVariables false
theorem Req_ints (w : World) (d : Nat) (xs ys : List Int) (hx : xs.length = 16) (hy : ys.length = 16) :
    (Op.equalIn (d + 2) 61 (.agg (xs.map (Value.int .i64)).toArray) (.agg (ys.map (Value.int .i64)).toArray)).run Tryz.prog w = .ok (xs == ys) w := by
  have ht := Tryz.underlying61
  have he := Tryz.underlying3
  have hsz : ∀ w, (sizeOf 3).run Tryz.prog w = .ok 1 w := fun w => Tryz.sizeOf3 w
  rw [← all_range_int xs ys (hx.trans hy.symm), hx, List.range_eq_range', Op.equalIn]
  simp only [Sem.run_bind, run_underlying ht, Result.andThen_ok, hsz, Std.Legacy.Range.forIn_eq_forIn_range', Std.Legacy.Range.size, Nat.sub_zero, Nat.add_sub_cancel, Nat.div_one]
  have hl : ∀ i ∈ List.range' 0 16 1, i < 16 := fun i hi => by simpa using (List.mem_range'_1.1 hi).2
  generalize List.range' 0 16 1 = l at hl ⊢
  induction l with
  | nil => simp
  | cons i l ih =>
    have hi : i < 16 := hl i (by simp)
    have px : (part 3 (xs.map (Value.int .i64)).toArray (i * 1)).run Tryz.prog w = .ok (.int .i64 (xs.getD i 0)) w := by
      simp [part, isAgg, run_underlying he, List.getD, List.getElem?_eq_getElem (show i < xs.length by omega)]
    have py : (part 3 (ys.map (Value.int .i64)).toArray (i * 1)).run Tryz.prog w = .ok (.int .i64 (ys.getD i 0)) w := by
      simp [part, isAgg, run_underlying he, List.getD, List.getElem?_eq_getElem (show i < ys.length by omega)]
    have pe : (Op.equalIn (d + 1) 3 (.int .i64 (xs.getD i 0)) (.int .i64 (ys.getD i 0))).run Tryz.prog w = .ok (xs.getD i 0 == ys.getD i 0) w := run_equalIn_int w d 3 .i64 .i64 _ _ he
    simp only [List.forIn_cons, Sem.run_bind, px, py, pe, Result.andThen_ok, List.all_cons]
    cases hb : (xs.getD i 0 == ys.getD i 0)
    · simp
    · simp only [Bool.not_true, Bool.false_eq_true, if_false, Sem.run_pure, Result.andThen_ok, Bool.true_and]
      exact ih fun j hj => hl j (by simp [hj])
theorem Rneq_ints (w : World) (xs ys : List Int) (hx : xs.length = 16) (hy : ys.length = 16) : (binOp .neq 61 (.agg (xs.map (Value.int .i64)).toArray) (.agg (ys.map (Value.int .i64)).toArray)).run Tryz.prog w = .ok (.bool (!decide (xs = ys))) w := by
  rw [run_neq_struct, show (10000 : Nat) = 9998 + 2 from rfl, Req_ints w 9998 xs ys hx hy, show (xs == ys) = decide (xs = ys) by by_cases h : xs = ys <;> simp [h]]
  rfl
/-- A block's words. -/
def blk (zs : List Int) (b : Nat) : List Int := (zs.drop (16 * b)).take 16
theorem blk_length {zs : List Int} {b : Nat} (h : 16 * b + 16 ≤ zs.length) : (blk zs b).length = 16 := by simp [blk]; omega
def inB (n : Nat) (b : Int) : Bool := decide (0 ≤ b ∧ b < ((n / 16 : Nat) : Int))
/-- What a block of words tells. -/
def rdX (zs : List Int) (b : Int) : Rc := if inB zs.length b && isR (blk zs b.toNat) then gsR (blk zs b.toNat) else rc0
def RrdE (zs : List Int) (b : Int) : Int := if inB zs.length b then (if isR (blk zs b.toNat) then 0 else 70) else 1
theorem Rsplice16 (l : List Int) (h : 16 ≤ l.length) : splice zeros16 0 (l.take 16) = l.take 16 := by
  simp [splice, zeros16]
  omega
theorem rc0_new (W : World) : RcAt (W.alloc (.cells #[.int .i64 0, .string ⟨#[]⟩, .string ⟨#[]⟩, .int .i64 0] 40)) W.heap.size rc0 := Go.heap_alloc_new _ _
theorem Tryz.guard54 : Tryz.prog.eqGuardType Tryz.prog.depth 61 = false := by kernel_rfl
theorem Rread_start (w W : World) (hW : W = (w.alloc (.cells #[.int .i64 0, .string ⟨#[]⟩, .string ⟨#[]⟩, .int .i64 0] 40)).alloc (.cells #[.int .i64 0, .int .i64 0, .int .i64 0, .int .i64 0, .int .i64 0, .int .i64 0, .int .i64 0, .int .i64 0, .int .i64 0, .int .i64 0, .int .i64 0, .int .i64 0, .int .i64 0, .int .i64 0, .int .i64 0, .int .i64 0] 61)) :
    RcAt W.drew w.heap.size rc0 ∧ Im W.drew (w.heap.size + 1) zeros16 ∧ Below w.heap.size w W.drew := by
  subst hW
  refine ⟨?_, ?_, ?_⟩
  · show ((w.alloc _).alloc _).heap[w.heap.size]? = _
    rw [Go.heap_alloc_old _ _ (by simp), Go.heap_alloc_new]
    rfl
  · show ((w.alloc _).alloc _).heap[w.heap.size + 1]? = _
    rw [show w.heap.size + 1 = (w.alloc (.cells #[.int .i64 0, .string ⟨#[]⟩, .string ⟨#[]⟩, .int .i64 0] 40)).heap.size by simp, Go.heap_alloc_new]
    rfl
  · exact (((Below.refl _ w).alloc (Nat.le_refl _) _).alloc (by simp) _).drew
theorem rc_new (W : World) (x : Rc) : RcAt (W.alloc (.cells #[.int .i64 x.k, .string x.key, .string x.val, .int .i64 x.ch] 40)) W.heap.size x := Go.heap_alloc_new _ _
set_option maxRecDepth 100000 in
set_option maxHeartbeats 2000000 in
theorem Rread_any (v : Value) (zs : List Int) (z : Int) (w : World) (hR : Rl w v zs) (hF : Fits zs) (hz : -9223372036854775808 ≤ z ∧ z < 9223372036854775808) : Calls Tryz.prog 96 #[v, .int .i64 z] w fun e w' => e = .returned (.tuple #[.agg #[.int .i64 (rdX zs z).k, .string (rdX zs z).key, .string (rdX zs z).val, .int .i64 (rdX zs z).ch], .int .i64 (RrdE zs z)]) ∧ Below w.heap.size w w' := by
  obtain ⟨hl, a, cap, rfl, hcap0⟩ := hR.form
  have B0 : Hid (Below w.heap.size w (w.alloc (.cells #[.int .i64 0, .string ⟨#[]⟩, .string ⟨#[]⟩, .int .i64 0] 40))) := (Below.refl _ _).alloc (Nat.le_refl _) _
  have R0 : Hid (RcAt (w.alloc (.cells #[.int .i64 0, .string ⟨#[]⟩, .string ⟨#[]⟩, .int .i64 0] 40)) w.heap.size rc0) := rc0_new w
  by_cases h0 : z < 0
  · have H : Hid (rdX zs z = rc0 ∧ RrdE zs z = 1) := show _ ∧ _ by
      have : inB zs.length z = false := decide_eq_false (by omega)
      unfold rdX RrdE
      rw [this]
      exact ⟨rfl, rfl⟩
    go_enter Tryz.func96, Tryz.ntmps96
    go_wp2
    refine bodyPost_ret (v := .tuple #[.agg (rcs rc0).toArray, .int .i64 1]) ?_ rfl ⟨by rw [H.out.1, H.out.2]; rfl, B0.out⟩
    have := run_loadVar_mid (P := Tryz.prog) _ w.heap.size 0 40 (rcs rc0) _ R0.out.range Tryz.underlying40 rfl (rcs_sizeL rc0)
    simp [results, Tryz.results96, asAddr, this]
  · obtain ⟨n, rfl⟩ : ∃ n : Nat, z = (n : Int) := ⟨z.toNat, by omega⟩
    by_cases h1 : (n : Int) ≥ ((zs.length / 16 : Nat) : Int)
    · have H : Hid (rdX zs n = rc0 ∧ RrdE zs n = 1) := show _ ∧ _ by
        have : inB zs.length n = false := decide_eq_false (by omega)
        unfold rdX RrdE
        rw [this]
        exact ⟨rfl, rfl⟩
      go_enter Tryz.func96, Tryz.ntmps96
      go_wp2
      refine bodyPost_ret (v := .tuple #[.agg (rcs rc0).toArray, .int .i64 1]) ?_ rfl ⟨by rw [H.out.1, H.out.2]; rfl, B0.out⟩
      have := run_loadVar_mid (P := Tryz.prog) _ w.heap.size 0 40 (rcs rc0) _ R0.out.range Tryz.underlying40 rfl (rcs_sizeL rc0)
      simp [results, Tryz.results96, asAddr, this]
    · have hn : 16 * n + 16 ≤ zs.length := by omega
      obtain ⟨b, off, rfl, hc⟩ := hR.base (by omega)
      have hm : wrap64 ((n : Int) * 16) = (n : Int) * 16 := by unfold wrap64; omega
      have hcap : zs.length ≤ cap := hcap0
      clear B0 R0
      go_enter Tryz.func96, Tryz.ntmps96
      go_wp2
      generalize hW : World.alloc _ _ = W
      obtain ⟨R0, I0, B0⟩ := Rread_start w W hW.symm
      clear hW
      have RR := (hR.below B0).drop (16 * n) (by omega)
      have R0 : Hid (RcAt W.drew w.heap.size rc0) := R0
      have I0 : Hid (Im W.drew (w.heap.size + 1) zeros16) := I0
      have B0 : Hid (Below w.heap.size w W.drew) := B0
      have RR : Hid (Rl W.drew (.slice (some ⟨b, off + 16 * n, none⟩) (zs.length - 16 * n) (cap - 16 * n)) (zs.drop (16 * n))) := RR
      have hne : ¬ cap = n * 16 := by omega
      have d1 : n * 16 ≤ zs.length := by omega
      have d2 : n * 16 ≤ cap := by omega
      have e1 : (0 : Int) ≤ (n : Int) * 16 := by omega
      have e2 : (n : Int) * 16 ≤ (zs.length : Int) := by omega
      have e3 : ((n : Int) * 16).toNat = 16 * n := by omega
      have e4 : IntKind.i64.wrap ((n : Int) * 16) = (n : Int) * 16 := by rw [IntKind.wrap_i64]; omega
      have e5 : (n : Int) * 16 ≤ (cap : Int) := by omega
      have e6 : ¬ cap = 16 * n := by omega
      go_region_held3 (fun _ => True) (exact trivial)
        (first
          | (refine step_img rfl (.tmp 18) (.tmp 22) rfl (w.heap.size + 1) 0 16 16 (zs.drop (16 * n)) zeros16 _ rfl rfl RR.out I0.out (by decide) ?_; intro w2 I2 hb2))
      have R2 : RcAt w2 w.heap.size rc0 := R0.out.belowN hb2 (by omega)
      have B2 : Below w.heap.size w w2 := B0.out.trans (hb2.mono (by omega))
      rw [Rsplice16 _ (by simp; omega)] at I2
      have l16 : (blk zs n).length = 16 := blk_length hn
      have f16 : Fits (blk zs n) := fun y hy => hF y (List.mem_of_mem_drop (List.mem_of_mem_take hy))
      have I2 : Im w2 (w.heap.size + 1) (blk zs n) := I2
      have H1 : Hid (rdX zs n = if isR (blk zs n) then gsR (blk zs n) else rc0) := show _ = _ by
        have : inB zs.length n = true := decide_eq_true (by omega)
        unfold rdX
        rw [this, Bool.true_and]
        rfl
      have H2 : Hid (RrdE zs n = if isR (blk zs n) then 0 else 70) := show _ = _ by
        have : inB zs.length n = true := decide_eq_true (by omega)
        unfold RrdE
        rw [if_pos this]
        rfl
      generalize blk zs n = M at *
      have hI : Hid (isR M = (rcB (gsR M) && decide (imL (gsR M) = M))) := rfl
      have hrange := I2.range
      have hs2 := im_sizeL l16
      have I2 : Hid (Im w2 (w.heap.size + 1) M) := I2
      have R2 : Hid (RcAt w2 w.heap.size rc0) := R2
      have B2 : Hid (Below w.heap.size w w2) := B2
      obtain ⟨x, hx⟩ : ∃ x, x = gsR M := ⟨_, rfl⟩
      have Hx : Hid (x = gsR M) := hx
      rw [← hx] at hI H1
      clear hx R0 I0 B0 RR hb2 hm hcap hne d1 d2 e1 e2 e3 e4 e5 e6 hc hR
      go_wp2_with (first
        | refine wpList_load_mid rfl 61 _ rfl (w.heap.size + 1) 0 rfl (M.map (Value.int .i64)) _ hrange Tryz.underlying61 rfl hs2 ?_
        | (go_at_call 116; refine (Rguess_any M _ l16 f16).mono ?_; rintro e w3 ⟨rfl, hb3⟩; rw [← Hx.out]))
      have Rx : RcAt (w3.alloc (.cells #[.int .i64 x.k, .string x.key, .string x.val, .int .i64 x.ch] 40)) w3.heap.size x := rc_new w3 x
      have b3 : Below w2.heap.size w2 (w3.alloc (.cells #[.int .i64 x.k, .string x.key, .string x.val, .int .i64 x.ch] 40)) := hb3.alloc hb3.size _
      have I3 := I2.out.below b3
      have R3 := R2.out.below b3
      have B3 := bstep B2.out b3
      have hlt : w.heap.size + 1 < w3.heap.size := Nat.lt_of_lt_of_le I2.out.lt hb3.size
      clear I2 R2 B2 hrange b3 hb3
      generalize hbx : w3.heap.size = bx at *
      generalize w3.alloc (.cells #[.int .i64 x.k, .string x.key, .string x.val, .int .i64 x.ch] 40) = W3 at *
      have c0 : ∀ p : BW W3, p.w.cell? ⟨bx, 0, none⟩ = some (.int .i64 x.k) := fun p => (Rx.below p.b).c.1
      have c1 : ∀ p : BW W3, p.w.cell? ⟨bx, 1, none⟩ = some (.string x.key) := fun p => (Rx.below p.b).c.2.1
      have c2 : ∀ p : BW W3, p.w.cell? ⟨bx, 2, none⟩ = some (.string x.val) := fun p => (Rx.below p.b).c.2.2.1
      have c3 : ∀ p : BW W3, p.w.cell? ⟨bx, 3, none⟩ = some (.int .i64 x.ch) := fun p => (Rx.below p.b).c.2.2.2
      have c4 : Hid (∀ p : BW W3, p.w.rangeAt (w.heap.size + 1) 0 (M.map (Value.int .i64))) := fun p => (I3.below p.b).range
      have HX : Hid (RcAt W3 bx x) := Rx
      have HR : Hid (RcAt W3 w.heap.size rc0) := R3
      have HB : Hid (Below w.heap.size w W3) := B3
      clear Rx I3 R3 B3 hbx
      cases hc : rcB x with
      | false =>
        rw [hc, Bool.false_and] at hI
        have H1 : Hid (rdX zs n = rc0) := show _ = _ by rw [H1.out, hI.out]; rfl
        have H2 : Hid (RrdE zs n = 70) := show _ = _ by rw [H2.out, hI.out]; rfl
        have k15 := fun w => rcheck_any x w
        rw [hc] at k15
        refine wp_region_bw (by kernel_rfl) (by kernel_rfl) (fun hbw0 => ?_)
        repeat (refine QW.step (fun K hK => ?_); go_simp; first | (refine hK _ ?_; clear hK K) | (apply Exists.intro; refine ⟨fun _ => ?_, hK _ ?_⟩; (first | exact Calls.bw_of (k15 _)); clear hK K))
        refine QW.nil ?_
        rintro ⟨w4, hb4⟩
        dsimp only
        clear c0 c1 c2 c3 c4
        have HB4 := bstep HB.out hb4
        have HR4 := HR.out.below hb4
        have ht := HR4.there
        have hla := HR4.laid rc0
        clear HX HR HB
        go_wp2_with (first
          | refine wpList_store_mid rfl 40 _ _ rfl w.heap.size 0 (rcs rc0).toArray rfl rfl ht (rcs_size rc0) (rcs_one rc0) ?_)
        refine bodyPost_ret (v := .tuple #[.agg (rcs rc0).toArray, .int .i64 70]) ?_ rfl ⟨by rw [H1.out, H2.out]; rfl, Sm.below_setCells _ _ _ (by omega) HB4⟩
        have := run_loadVar_mid (P := Tryz.prog) _ w.heap.size 0 40 (rcs rc0) _ hla Tryz.underlying40 rfl (rcs_sizeL rc0)
        simp [results, Tryz.results96, asAddr, this]
      | true =>
        have hx := rcB_iff.1 hc
        have l2 := imL_length hx
        have hne := fun (w : World) => Rneq_ints w (imL x) M l2 l16
        have hg := Tryz.guard54
        rw [hc, Bool.true_and] at hI
        have k15 := fun w => rcheck_any x w
        rw [hc] at k15
        have k21 := fun w => image_any x w hx
        refine wp_region_bw (by kernel_rfl) (by kernel_rfl) (fun hbw0 => ?_)
        repeat (first | (refine QW.load 61 _ rfl (by rfl) (w.heap.size + 1) 0 rfl (M.map (Value.int .i64)) _ c4.out Tryz.underlying61 rfl hs2 ?_) | (refine QW.step (fun K hK => ?_); go_simp; first | (refine hK _ ?_; clear hK K) | (apply Exists.intro; refine ⟨fun _ => ?_, hK _ ?_⟩; (first | exact Calls.bw_of (k15 _) | exact Calls.bw_of (k21 _)); clear hK K)))
        refine QW.nil ?_
        rintro ⟨w4, hb4⟩
        dsimp only
        clear c0 c1 c2 c3 c4 k15 k21 hne hg
        have HB4 := bstep HB.out hb4
        have HR4 := HR.out.below hb4
        have HX4 := HX.out.below hb4
        have ht := HR4.there
        by_cases he : imL x = M
        · rw [decide_eq_true he] at hI ⊢
          have H1 : Hid (rdX zs n = x) := show _ = _ by rw [H1.out, hI.out]; rfl
          have H2 : Hid (RrdE zs n = 0) := show _ = _ by rw [H2.out, hI.out]; rfl
          have hla := HR4.laid x
          have hr := HX4.range
          clear HX HR HB he
          go_wp2_with (first
            | refine wpList_load_mid rfl 40 _ rfl bx 0 rfl (rcs x) _ hr Tryz.underlying40 rfl (rcs_sizeL x) ?_
            | refine wpList_store_mid rfl 40 _ _ rfl w.heap.size 0 (rcs x).toArray rfl rfl ht (rcs_size x) (rcs_one x) ?_)
          refine bodyPost_ret (v := .tuple #[.agg (rcs x).toArray, .int .i64 0]) ?_ rfl ⟨by rw [H1.out, H2.out]; rfl, Sm.below_setCells _ _ _ (by omega) HB4⟩
          have := run_loadVar_mid (P := Tryz.prog) _ w.heap.size 0 40 (rcs x) _ hla Tryz.underlying40 rfl (rcs_sizeL x)
          simp [results, Tryz.results96, asAddr, this]
        · rw [decide_eq_false he] at hI ⊢
          have H1 : Hid (rdX zs n = rc0) := show _ = _ by rw [H1.out, hI.out]; rfl
          have H2 : Hid (RrdE zs n = 70) := show _ = _ by rw [H2.out, hI.out]; rfl
          have hla := HR4.laid rc0
          clear HX HR HB he
          go_wp2_with (first
            | refine wpList_store_mid rfl 40 _ _ rfl w.heap.size 0 (rcs rc0).toArray rfl rfl ht (rcs_size rc0) (rcs_one rc0) ?_)
          refine bodyPost_ret (v := .tuple #[.agg (rcs rc0).toArray, .int .i64 70]) ?_ rfl ⟨by rw [H1.out, H2.out]; rfl, Sm.below_setCells _ _ _ (by omega) HB4⟩
          have := run_loadVar_mid (P := Tryz.prog) _ w.heap.size 0 40 (rcs rc0) _ hla Tryz.underlying40 rfl (rcs_sizeL rc0)
          simp [results, Tryz.results96, asAddr, this]
end Go.Proofs.YtcgclhahonndbaaGreat
