/- Set over from a lower layer: Recs. · Set over from a lower layer: Rect. -/
import Derived.Test.YtcgclhahonndbaaGreatRKeywalka
import Derived.Test.YtcgclhahonndbaaGreatRReca
import Derived.Test.YtcgclhahonndbaaGreatRRece
import Derived.Test.YtcgclhahonndbaaGreatRRech
import Derived.Test.YtcgclhahonndbaaGreatRRecz
import Derived.Test.YtcgclhahonndbaaGreatSSumz
import Derived.Test.YtcgclhahonndbaaGreatXRRecr
import Derived.Test.YtcgclhahonndbaaGreatXRWalko
import Derived.Test.YtcgclhahonndbaaGreatXSSupc
import Derived.Test.YtcgclhahonndbaaGreatBase
namespace Go.Proofs.YtcgclhahonndbaaGreat
open Go.RowKit Go.Shelf Classical
set_option linter.unusedVariables false
theorem vwL_1 {x : Rc} (h : x.k = 1) : vwL x = p3 (Ky.wsl x.val.data.toList) := by unfold vwL; rw [if_neg (by omega)]
theorem vwL_2 {x : Rc} (h : x.k = 2) : vwL x = [x.ch, 0, 0] := by unfold vwL; rw [if_pos h]
theorem zeros7 : [(0 : Int), 0, 0, 0, 0, 0, 0] = List.replicate 7 0 := rfl
set_option maxRecDepth 100000 in
set_option maxHeartbeats 4000000 in
theorem wordsR1 (key val : ByteArray) (ch : Int) (w : World) (hx : OkR (⟨1, key, val, ch⟩ : Rc)) : Calls Tryz.prog 76 #[.agg #[.int .i64 1, .string key, .string val, .int .i64 ch]] w fun e w' => ∃ v, e = .returned (.tuple #[v, .int .i64 0]) ∧ Rd w' v (imL (⟨1, key, val, ch⟩ : Rc)) ∧ Below w.heap.size w w' := by
  have hk : key.size ≤ 21 := hx.key
  have hv : val.size ≤ 21 := hx.val
  have k16 : Hid (∀ w, Calls Tryz.prog 105 #[.agg #[.int .i64 1, .string key, .string val, .int .i64 ch]] w fun e w' => e = .returned (.bool true) ∧ Below w.heap.size w w') := fun w => by
    have := rcheckR_any (⟨1, key, val, ch⟩ : Rc) w
    rw [rcB_iff.2 hx] at this
    exact this
  have HX0 : Hid (RcAt (w.alloc (.cells #[.int .i64 1, .string key, .string val, .int .i64 ch] 40)) w.heap.size (⟨1, key, val, ch⟩ : Rc)) := rc_new w (⟨1, key, val, ch⟩ : Rc)
  have H0 : Hid (Below w.heap.size w (w.alloc (.cells #[.int .i64 1, .string key, .string val, .int .i64 ch] 40))) := (Below.refl _ _).alloc (Nat.le_refl _) _
  have HK3 : Hid ((p3 (Ky.wsl key.data.toList)).length = 3) := p3_length (wsl_small _ hk)
  have HV3 : Hid ((p3 (Ky.wsl val.data.toList)).length = 3) := p3_length (wsl_small _ hv)
  obtain ⟨M6, hM6⟩ : ∃ M, kwL (⟨1, key, val, ch⟩ : Rc) ++ vwL (⟨1, key, val, ch⟩ : Rc) = M := ⟨_, rfl⟩
  obtain ⟨M13, hM13⟩ : ∃ M, M6 ++ [0, 0, 0, 0, 0, 0, 0] = M := ⟨_, rfl⟩
  obtain ⟨M16, hM16⟩ : ∃ M, M = imL (⟨1, key, val, ch⟩ : Rc) := ⟨_, rfl⟩
  have HL6 : Hid (M6.length = 6) := show _ = _ by rw [← hM6, List.length_append, kwL_length hx, vwL_length hx]
  have HB13 : M13 = bdL (⟨1, key, val, ch⟩ : Rc) := by rw [← hM13, ← hM6, zeros7, List.append_assoc]; unfold bdL; exact Eq.refl _
  have HL13 : Hid (M13.length = 13) := show _ = _ by rw [HB13, bdL_length hx]
  have HM6 : Hid ((p3 (Ky.wsl key.data.toList)) ++ (p3 (Ky.wsl val.data.toList)) = M6) := show _ = _ by rw [← hM6, vwL_1 rfl]; unfold kwL; exact Eq.refl _
  have HM13 : Hid (M6 ++ [0, 0, 0, 0, 0, 0, 0] = M13) := hM13
  have HIm : Hid ([1, 32 * (key.size : Int) + (val.size : Int)] ++ [((Sm.ofF ([1, 32 * (key.size : Int) + (val.size : Int)] ++ M13) : Nat) : Int)] ++ M13 = M16) := show _ = _ by rw [hM16, HB13, List.append_assoc, List.singleton_append]; unfold imL hdL; exact Eq.refl _
  have HF : Hid (Fits ([1, 32 * (key.size : Int) + (val.size : Int)] ++ M13)) := by (show Fits _; rw [HB13]; exact rest_fits hx)
  have HI16 : Hid (M16.length = 16) := show _ = _ by rw [hM16]; exact imL_length hx
  have HM16 : Hid (M16 = imL (⟨1, key, val, ch⟩ : Rc)) := hM16
  have t1 : Hid (0 = 0) := rfl
  have t2 : Hid (0 = 0) := rfl
  have t3 : Hid (0 = 0) := rfl
  have t4 : Hid (0 = 0) := rfl
  have t5 : Hid (0 = 0) := rfl
  have t6 : Hid (0 = 0) := rfl
  clear hM6 hM13 hM16 HB13 hx
  go_enter Tryz.func76, Tryz.ntmps76
  go_wp2_with (first
    | (go_at_call 105; refine (k16.out _).mono ?_; rintro e w1 ⟨rfl, b1⟩; have H1 : Hid (Below w.heap.size w w1) := bstep H0.out b1; have HX1 : Hid (RcAt w1 w.heap.size (⟨1, key, val, ch⟩ : Rc)) := HX0.out.below b1; obtain ⟨c0, c1, c2, c3⟩ := HX1.out.c; dsimp only at c0 c1 c2 c3; clear b1)
    | (go_at_call 106; clear t6; refine (three_any key _ hk).mono ?_; rintro e w2 ⟨a2, c2, rfl, o2, b2⟩; have H2 : Hid (Below w1.heap.size w1 w2) := b2; have O2 : Hid (OwnI w2 w1.heap.size (.slice a2 3 c2) (p3 (Ky.wsl key.data.toList))) := o2; obtain ⟨x0, x1, x2, x3⟩ := (HX1.out.below b2).c; dsimp only at x0 x1 x2 x3; clear o2 b2)
    | (go_at_call 106; refine (three_any val _ hv).mono ?_; rintro e w3 ⟨a3, c3, rfl, o3, b3⟩; have H3 : Hid (Below w1.heap.size w1 w3) := H2.out.trans (b3.mono H2.out.size); have O3 : Hid (OwnI w3 w1.heap.size (.slice a2 3 c2) (p3 (Ky.wsl key.data.toList))) := ownI_below O2.out b3; have R3 : Hid (Rd w3 (.slice a3 3 c3) (p3 (Ky.wsl val.data.toList))) := o3.rd (by rw [HV3.out]; omega); clear o3 b3)
    | (at_builtin; clear t1; refine append_own_rd rfl (.tmp 18) (.tmp 21) rfl w1.heap.size (.slice a2 3 c2) (p3 (Ky.wsl key.data.toList)) rfl O3.out (.slice a3 3 c3) (p3 (Ky.wsl val.data.toList)) rfl R3.out (by rw [HK3.out]; omega) H3.out.size M6 HM6.out ?_; rw [HL6.out]; intro a4 c4 w4 o4 b4; have O4 : Hid (OwnI w4 w1.heap.size (.slice a4 6 c4) M6) := o4; have H4 : Hid (Below w1.heap.size w1 w4) := H3.out.trans b4; have s4 : Hid (w1.heap.size ≤ w4.heap.size) := H4.out.size; clear o4 b4)
    | (at_builtin; clear t2; refine append_own_rd rfl (.tmp 28) (.tmp 29) rfl w1.heap.size (.slice a4 6 c4) M6 rfl (ownI_below O4.out ((Below.refl _ _).alloc (Nat.le_refl _) _)) (.slice (some ⟨w4.heap.size, 0, none⟩) 7 7) [0, 0, 0, 0, 0, 0, 0] rfl (rd_lit [0, 0, 0, 0, 0, 0, 0] rfl (by simp)) (by rw [HL6.out]; omega) (Nat.le_trans s4.out ((Below.refl _ _).alloc (Nat.le_refl _) _).size) M13 HM13.out ?_; rw [HL13.out]; intro a5 c5 w5 o5 b5; have O5 : Hid (OwnI w5 w1.heap.size (.slice a5 13 c5) M13) := o5; have H5 : Hid (Below w1.heap.size w1 w5) := (H4.out.alloc H4.out.size _).trans b5; obtain ⟨x0, x1, x2, x3⟩ := (HX1.out.below H5.out).c; dsimp only at x0 x1 x2 x3; have D6 : Hid (Below w5.heap.size w5 (w5.alloc (.cells #[.int .i64 1, .int .i64 (32 * (key.size : Int) + (val.size : Int))] 3))) := (Below.refl _ _).alloc (Nat.le_refl _) _; have E6 : Hid (OwnI (w5.alloc (.cells #[.int .i64 1, .int .i64 (32 * (key.size : Int) + (val.size : Int))] 3)) w5.heap.size (.slice (some ⟨w5.heap.size, 0, none⟩) 2 2) [1, 32 * (key.size : Int) + (val.size : Int)]) := own_lit [1, 32 * (key.size : Int) + (val.size : Int)] rfl (Nat.le_refl _) (by simp); have D7 : Hid (Below (w5.alloc (.cells #[.int .i64 1, .int .i64 (32 * (key.size : Int) + (val.size : Int))] 3)).heap.size (w5.alloc (.cells #[.int .i64 1, .int .i64 (32 * (key.size : Int) + (val.size : Int))] 3)) ((w5.alloc (.cells #[.int .i64 1, .int .i64 (32 * (key.size : Int) + (val.size : Int))] 3)).alloc (.cells #[] 3))) := (Below.refl _ _).alloc (Nat.le_refl _) _; have sz6 : Hid ((w5.alloc (.cells #[.int .i64 1, .int .i64 (32 * (key.size : Int) + (val.size : Int))] 3)).heap.size = w5.heap.size + 1) := (by show _ = _; simp); clear o5 b5)
    | (at_builtin; clear t3; refine append_own_rd rfl (.tmp 42) (.tmp 43) rfl (w5.alloc (.cells #[.int .i64 1, .int .i64 (32 * (key.size : Int) + (val.size : Int))] 3)).heap.size (.slice (some ⟨w5.heap.size + 1, 0, none⟩) 0 0) [] rfl (sz6.out ▸ own_none (w5.alloc (.cells #[.int .i64 1, .int .i64 (32 * (key.size : Int) + (val.size : Int))] 3)) (Nat.le_refl _)) (.slice (some ⟨w5.heap.size, 0, none⟩) 2 2) [1, 32 * (key.size : Int) + (val.size : Int)] rfl ((E6.out.rd (by simp)).below D7.out) (by simp) D7.out.size [1, 32 * (key.size : Int) + (val.size : Int)] rfl ?_; intro a8 c8 w8 o8 b8; have O8 : Hid (OwnI w8 (w5.alloc (.cells #[.int .i64 1, .int .i64 (32 * (key.size : Int) + (val.size : Int))] 3)).heap.size (.slice a8 2 c8) [1, 32 * (key.size : Int) + (val.size : Int)]) := o8; have D8 : Hid (Below (w5.alloc (.cells #[.int .i64 1, .int .i64 (32 * (key.size : Int) + (val.size : Int))] 3)).heap.size (w5.alloc (.cells #[.int .i64 1, .int .i64 (32 * (key.size : Int) + (val.size : Int))] 3)) w8) := D7.out.trans b8; clear o8 b8)
    | (at_builtin; clear t4; refine append_own_rd rfl (.tmp 44) (.tmp 45) rfl (w5.alloc (.cells #[.int .i64 1, .int .i64 (32 * (key.size : Int) + (val.size : Int))] 3)).heap.size (.slice a8 2 c8) [1, 32 * (key.size : Int) + (val.size : Int)] rfl O8.out (.slice a5 13 c5) M13 rfl ((O5.out.rd (by rw [HL13.out]; omega)).below (bstep D6.out D8.out)) (by simp) D8.out.size ([1, 32 * (key.size : Int) + (val.size : Int)] ++ M13) rfl ?_; intro a9 c9 w9 o9 b9; have O9 : Hid (OwnI w9 (w5.alloc (.cells #[.int .i64 1, .int .i64 (32 * (key.size : Int) + (val.size : Int))] 3)).heap.size (.slice a9 ([1, 32 * (key.size : Int) + (val.size : Int)] ++ M13).length c9) ([1, 32 * (key.size : Int) + (val.size : Int)] ++ M13)) := o9; have D9 : Hid (Below (w5.alloc (.cells #[.int .i64 1, .int .i64 (32 * (key.size : Int) + (val.size : Int))] 3)).heap.size (w5.alloc (.cells #[.int .i64 1, .int .i64 (32 * (key.size : Int) + (val.size : Int))] 3)) w9) := D8.out.trans b9; clear o9 b9)
    | (go_at_call 103; refine (Sm.ofR_any _ ([1, 32 * (key.size : Int) + (val.size : Int)] ++ M13) _ ((O9.out.rd (by simp [HL13.out])).sm HF.out)).mono ?_; rintro e w10 ⟨rfl, b10⟩; have D10 : Hid (Below w5.heap.size w5 w10) := bstep D6.out (bstep D9.out b10); have E10 : Hid (OwnI w10 w5.heap.size (.slice (some ⟨w5.heap.size, 0, none⟩) 2 2) [1, 32 * (key.size : Int) + (val.size : Int)]) := ownI_below E6.out (bstep D9.out b10); clear b10)
    | (at_builtin; clear t5; refine append_own_rd rfl (.tmp 48) (.tmp 50) rfl w5.heap.size (.slice (some ⟨w5.heap.size, 0, none⟩) 2 2) [1, 32 * (key.size : Int) + (val.size : Int)] rfl (ownI_below E10.out ((Below.refl _ _).alloc (Nat.le_refl _) _)) (.slice (some ⟨w10.heap.size, 0, none⟩) 1 1) [((Sm.ofF ([1, 32 * (key.size : Int) + (val.size : Int)] ++ M13) : Nat) : Int)] rfl (rd_one _ _ rfl) (by simp) (Nat.le_trans D10.out.size ((Below.refl _ _).alloc (Nat.le_refl _) _).size) ([1, 32 * (key.size : Int) + (val.size : Int)] ++ [((Sm.ofF ([1, 32 * (key.size : Int) + (val.size : Int)] ++ M13) : Nat) : Int)]) rfl ?_; intro a12 c12 w12 o12 b12; have O12 : Hid (OwnI w12 w5.heap.size (.slice a12 3 c12) ([1, 32 * (key.size : Int) + (val.size : Int)] ++ [((Sm.ofF ([1, 32 * (key.size : Int) + (val.size : Int)] ++ M13) : Nat) : Int)])) := o12; have D12 : Hid (Below w5.heap.size w5 w12) := (D10.out.alloc D10.out.size _).trans b12; clear o12 b12)
    | (at_builtin; refine append_own_rd rfl (.tmp 51) (.tmp 52) rfl w5.heap.size (.slice a12 3 c12) ([1, 32 * (key.size : Int) + (val.size : Int)] ++ [((Sm.ofF ([1, 32 * (key.size : Int) + (val.size : Int)] ++ M13) : Nat) : Int)]) rfl O12.out (.slice a5 13 c5) M13 rfl ((O5.out.rd (by rw [HL13.out]; omega)).below D12.out) (by simp) D12.out.size M16 HIm.out ?_; rw [HI16.out]; intro a13 c13 w13 o13 b13; have O13 : Hid (OwnI w13 w5.heap.size (.slice a13 16 c13) M16) := o13; have D13 : Hid (Below w5.heap.size w5 w13) := D12.out.trans b13; clear o13 b13))
  refine bodyPost_ret (results_tmp2 Tryz.results76 _ _ _) rfl ?_
  exact ⟨_, rfl, by rw [← HM16.out]; exact O13.out.rd (by rw [HI16.out]; omega), bstep (bstep H1.out H5.out) D13.out⟩
set_option maxRecDepth 100000 in
set_option maxHeartbeats 4000000 in
theorem wordsR2 (key val : ByteArray) (ch : Int) (w : World) (hx : OkR (⟨2, key, val, ch⟩ : Rc)) : Calls Tryz.prog 76 #[.agg #[.int .i64 2, .string key, .string val, .int .i64 ch]] w fun e w' => ∃ v, e = .returned (.tuple #[v, .int .i64 0]) ∧ Rd w' v (imL (⟨2, key, val, ch⟩ : Rc)) ∧ Below w.heap.size w w' := by
  have hk : key.size ≤ 21 := hx.key
  have hv : val.size ≤ 21 := hx.val
  have k16 : Hid (∀ w, Calls Tryz.prog 105 #[.agg #[.int .i64 2, .string key, .string val, .int .i64 ch]] w fun e w' => e = .returned (.bool true) ∧ Below w.heap.size w w') := fun w => by
    have := rcheckR_any (⟨2, key, val, ch⟩ : Rc) w
    rw [rcB_iff.2 hx] at this
    exact this
  have HX0 : Hid (RcAt (w.alloc (.cells #[.int .i64 2, .string key, .string val, .int .i64 ch] 40)) w.heap.size (⟨2, key, val, ch⟩ : Rc)) := rc_new w (⟨2, key, val, ch⟩ : Rc)
  have H0 : Hid (Below w.heap.size w (w.alloc (.cells #[.int .i64 2, .string key, .string val, .int .i64 ch] 40))) := (Below.refl _ _).alloc (Nat.le_refl _) _
  have HK3 : Hid ((p3 (Ky.wsl key.data.toList)).length = 3) := p3_length (wsl_small _ hk)
  have HV3 : Hid ((p3 (Ky.wsl val.data.toList)).length = 3) := p3_length (wsl_small _ hv)
  obtain ⟨M6, hM6⟩ : ∃ M, kwL (⟨2, key, val, ch⟩ : Rc) ++ vwL (⟨2, key, val, ch⟩ : Rc) = M := ⟨_, rfl⟩
  obtain ⟨M13, hM13⟩ : ∃ M, M6 ++ [0, 0, 0, 0, 0, 0, 0] = M := ⟨_, rfl⟩
  obtain ⟨M16, hM16⟩ : ∃ M, M = imL (⟨2, key, val, ch⟩ : Rc) := ⟨_, rfl⟩
  have HL6 : Hid (M6.length = 6) := show _ = _ by rw [← hM6, List.length_append, kwL_length hx, vwL_length hx]
  have HB13 : M13 = bdL (⟨2, key, val, ch⟩ : Rc) := by rw [← hM13, ← hM6, zeros7, List.append_assoc]; unfold bdL; exact Eq.refl _
  have HL13 : Hid (M13.length = 13) := show _ = _ by rw [HB13, bdL_length hx]
  have HM6 : Hid ((p3 (Ky.wsl key.data.toList)) ++ [ch, 0, 0] = M6) := show _ = _ by rw [← hM6, vwL_2 rfl]; unfold kwL; exact Eq.refl _
  have HM13 : Hid (M6 ++ [0, 0, 0, 0, 0, 0, 0] = M13) := hM13
  have HIm : Hid ([2, 32 * (key.size : Int) + (val.size : Int)] ++ [((Sm.ofF ([2, 32 * (key.size : Int) + (val.size : Int)] ++ M13) : Nat) : Int)] ++ M13 = M16) := show _ = _ by rw [hM16, HB13, List.append_assoc, List.singleton_append]; unfold imL hdL; exact Eq.refl _
  have HF : Hid (Fits ([2, 32 * (key.size : Int) + (val.size : Int)] ++ M13)) := by (show Fits _; rw [HB13]; exact rest_fits hx)
  have HI16 : Hid (M16.length = 16) := show _ = _ by rw [hM16]; exact imL_length hx
  have HM16 : Hid (M16 = imL (⟨2, key, val, ch⟩ : Rc)) := hM16
  have t1 : Hid (0 = 0) := rfl
  have t2 : Hid (0 = 0) := rfl
  have t3 : Hid (0 = 0) := rfl
  have t4 : Hid (0 = 0) := rfl
  have t5 : Hid (0 = 0) := rfl
  have t6 : Hid (0 = 0) := rfl
  clear hM6 hM13 hM16 HB13 hx
  go_enter Tryz.func76, Tryz.ntmps76
  go_wp2_with (first
    | (go_at_call 105; refine (k16.out _).mono ?_; rintro e w1 ⟨rfl, b1⟩; have H1 : Hid (Below w.heap.size w w1) := bstep H0.out b1; have HX1 : Hid (RcAt w1 w.heap.size (⟨2, key, val, ch⟩ : Rc)) := HX0.out.below b1; obtain ⟨c0, c1, c2, c3⟩ := HX1.out.c; dsimp only at c0 c1 c2 c3; clear b1)
    | (go_at_call 106; clear t6; refine (three_any key _ hk).mono ?_; rintro e w2 ⟨a2, c2, rfl, o2, b2⟩; have H2 : Hid (Below w1.heap.size w1 w2) := b2; have O2 : Hid (OwnI w2 w1.heap.size (.slice a2 3 c2) (p3 (Ky.wsl key.data.toList))) := o2; obtain ⟨x0, x1, x2, x3⟩ := (HX1.out.below b2).c; dsimp only at x0 x1 x2 x3; clear o2 b2)
    | (at_builtin; clear t1; refine append_own_rd rfl (.tmp 23) (.tmp 26) rfl w1.heap.size (.slice a2 3 c2) (p3 (Ky.wsl key.data.toList)) rfl (ownI_below O2.out ((Below.refl _ _).alloc (Nat.le_refl _) _)) (.slice (some ⟨w2.heap.size, 0, none⟩) 3 3) [ch, 0, 0] rfl (rd_lit [ch, 0, 0] rfl (by simp)) (by rw [HK3.out]; omega) (Nat.le_trans H2.out.size ((Below.refl _ _).alloc (Nat.le_refl _) _).size) M6 HM6.out ?_; rw [HL6.out]; intro a4 c4 w4 o4 b4; have O4 : Hid (OwnI w4 w1.heap.size (.slice a4 6 c4) M6) := o4; have H4 : Hid (Below w1.heap.size w1 w4) := (H2.out.alloc H2.out.size _).trans b4; have s4 : Hid (w1.heap.size ≤ w4.heap.size) := H4.out.size; clear o4 b4)
    | (at_builtin; clear t2; refine append_own_rd rfl (.tmp 28) (.tmp 29) rfl w1.heap.size (.slice a4 6 c4) M6 rfl (ownI_below O4.out ((Below.refl _ _).alloc (Nat.le_refl _) _)) (.slice (some ⟨w4.heap.size, 0, none⟩) 7 7) [0, 0, 0, 0, 0, 0, 0] rfl (rd_lit [0, 0, 0, 0, 0, 0, 0] rfl (by simp)) (by rw [HL6.out]; omega) (Nat.le_trans s4.out ((Below.refl _ _).alloc (Nat.le_refl _) _).size) M13 HM13.out ?_; rw [HL13.out]; intro a5 c5 w5 o5 b5; have O5 : Hid (OwnI w5 w1.heap.size (.slice a5 13 c5) M13) := o5; have H5 : Hid (Below w1.heap.size w1 w5) := (H4.out.alloc H4.out.size _).trans b5; obtain ⟨x0, x1, x2, x3⟩ := (HX1.out.below H5.out).c; dsimp only at x0 x1 x2 x3; have D6 : Hid (Below w5.heap.size w5 (w5.alloc (.cells #[.int .i64 2, .int .i64 (32 * (key.size : Int) + (val.size : Int))] 3))) := (Below.refl _ _).alloc (Nat.le_refl _) _; have E6 : Hid (OwnI (w5.alloc (.cells #[.int .i64 2, .int .i64 (32 * (key.size : Int) + (val.size : Int))] 3)) w5.heap.size (.slice (some ⟨w5.heap.size, 0, none⟩) 2 2) [2, 32 * (key.size : Int) + (val.size : Int)]) := own_lit [2, 32 * (key.size : Int) + (val.size : Int)] rfl (Nat.le_refl _) (by simp); have D7 : Hid (Below (w5.alloc (.cells #[.int .i64 2, .int .i64 (32 * (key.size : Int) + (val.size : Int))] 3)).heap.size (w5.alloc (.cells #[.int .i64 2, .int .i64 (32 * (key.size : Int) + (val.size : Int))] 3)) ((w5.alloc (.cells #[.int .i64 2, .int .i64 (32 * (key.size : Int) + (val.size : Int))] 3)).alloc (.cells #[] 3))) := (Below.refl _ _).alloc (Nat.le_refl _) _; have sz6 : Hid ((w5.alloc (.cells #[.int .i64 2, .int .i64 (32 * (key.size : Int) + (val.size : Int))] 3)).heap.size = w5.heap.size + 1) := (by show _ = _; simp); clear o5 b5)
    | (at_builtin; clear t3; refine append_own_rd rfl (.tmp 42) (.tmp 43) rfl (w5.alloc (.cells #[.int .i64 2, .int .i64 (32 * (key.size : Int) + (val.size : Int))] 3)).heap.size (.slice (some ⟨w5.heap.size + 1, 0, none⟩) 0 0) [] rfl (sz6.out ▸ own_none (w5.alloc (.cells #[.int .i64 2, .int .i64 (32 * (key.size : Int) + (val.size : Int))] 3)) (Nat.le_refl _)) (.slice (some ⟨w5.heap.size, 0, none⟩) 2 2) [2, 32 * (key.size : Int) + (val.size : Int)] rfl ((E6.out.rd (by simp)).below D7.out) (by simp) D7.out.size [2, 32 * (key.size : Int) + (val.size : Int)] rfl ?_; intro a8 c8 w8 o8 b8; have O8 : Hid (OwnI w8 (w5.alloc (.cells #[.int .i64 2, .int .i64 (32 * (key.size : Int) + (val.size : Int))] 3)).heap.size (.slice a8 2 c8) [2, 32 * (key.size : Int) + (val.size : Int)]) := o8; have D8 : Hid (Below (w5.alloc (.cells #[.int .i64 2, .int .i64 (32 * (key.size : Int) + (val.size : Int))] 3)).heap.size (w5.alloc (.cells #[.int .i64 2, .int .i64 (32 * (key.size : Int) + (val.size : Int))] 3)) w8) := D7.out.trans b8; clear o8 b8)
    | (at_builtin; clear t4; refine append_own_rd rfl (.tmp 44) (.tmp 45) rfl (w5.alloc (.cells #[.int .i64 2, .int .i64 (32 * (key.size : Int) + (val.size : Int))] 3)).heap.size (.slice a8 2 c8) [2, 32 * (key.size : Int) + (val.size : Int)] rfl O8.out (.slice a5 13 c5) M13 rfl ((O5.out.rd (by rw [HL13.out]; omega)).below (bstep D6.out D8.out)) (by simp) D8.out.size ([2, 32 * (key.size : Int) + (val.size : Int)] ++ M13) rfl ?_; intro a9 c9 w9 o9 b9; have O9 : Hid (OwnI w9 (w5.alloc (.cells #[.int .i64 2, .int .i64 (32 * (key.size : Int) + (val.size : Int))] 3)).heap.size (.slice a9 ([2, 32 * (key.size : Int) + (val.size : Int)] ++ M13).length c9) ([2, 32 * (key.size : Int) + (val.size : Int)] ++ M13)) := o9; have D9 : Hid (Below (w5.alloc (.cells #[.int .i64 2, .int .i64 (32 * (key.size : Int) + (val.size : Int))] 3)).heap.size (w5.alloc (.cells #[.int .i64 2, .int .i64 (32 * (key.size : Int) + (val.size : Int))] 3)) w9) := D8.out.trans b9; clear o9 b9)
    | (go_at_call 103; refine (Sm.ofR_any _ ([2, 32 * (key.size : Int) + (val.size : Int)] ++ M13) _ ((O9.out.rd (by simp [HL13.out])).sm HF.out)).mono ?_; rintro e w10 ⟨rfl, b10⟩; have D10 : Hid (Below w5.heap.size w5 w10) := bstep D6.out (bstep D9.out b10); have E10 : Hid (OwnI w10 w5.heap.size (.slice (some ⟨w5.heap.size, 0, none⟩) 2 2) [2, 32 * (key.size : Int) + (val.size : Int)]) := ownI_below E6.out (bstep D9.out b10); clear b10)
    | (at_builtin; clear t5; refine append_own_rd rfl (.tmp 48) (.tmp 50) rfl w5.heap.size (.slice (some ⟨w5.heap.size, 0, none⟩) 2 2) [2, 32 * (key.size : Int) + (val.size : Int)] rfl (ownI_below E10.out ((Below.refl _ _).alloc (Nat.le_refl _) _)) (.slice (some ⟨w10.heap.size, 0, none⟩) 1 1) [((Sm.ofF ([2, 32 * (key.size : Int) + (val.size : Int)] ++ M13) : Nat) : Int)] rfl (rd_one _ _ rfl) (by simp) (Nat.le_trans D10.out.size ((Below.refl _ _).alloc (Nat.le_refl _) _).size) ([2, 32 * (key.size : Int) + (val.size : Int)] ++ [((Sm.ofF ([2, 32 * (key.size : Int) + (val.size : Int)] ++ M13) : Nat) : Int)]) rfl ?_; intro a12 c12 w12 o12 b12; have O12 : Hid (OwnI w12 w5.heap.size (.slice a12 3 c12) ([2, 32 * (key.size : Int) + (val.size : Int)] ++ [((Sm.ofF ([2, 32 * (key.size : Int) + (val.size : Int)] ++ M13) : Nat) : Int)])) := o12; have D12 : Hid (Below w5.heap.size w5 w12) := (D10.out.alloc D10.out.size _).trans b12; clear o12 b12)
    | (at_builtin; refine append_own_rd rfl (.tmp 51) (.tmp 52) rfl w5.heap.size (.slice a12 3 c12) ([2, 32 * (key.size : Int) + (val.size : Int)] ++ [((Sm.ofF ([2, 32 * (key.size : Int) + (val.size : Int)] ++ M13) : Nat) : Int)]) rfl O12.out (.slice a5 13 c5) M13 rfl ((O5.out.rd (by rw [HL13.out]; omega)).below D12.out) (by simp) D12.out.size M16 HIm.out ?_; rw [HI16.out]; intro a13 c13 w13 o13 b13; have O13 : Hid (OwnI w13 w5.heap.size (.slice a13 16 c13) M16) := o13; have D13 : Hid (Below w5.heap.size w5 w13) := D12.out.trans b13; clear o13 b13))
  refine bodyPost_ret (results_tmp2 Tryz.results76 _ _ _) rfl ?_
  exact ⟨_, rfl, by rw [← HM16.out]; exact O13.out.rd (by rw [HI16.out]; omega), bstep (bstep H1.out H5.out) D13.out⟩
end Go.Proofs.YtcgclhahonndbaaGreat
namespace Go.Proofs.YtcgclhahonndbaaGreat
open Go.RowKit Go.Shelf Classical
set_option linter.unusedVariables false
set_option maxRecDepth 100000 in
set_option maxHeartbeats 2000000 in
theorem wordsRr_any (x : Rc) (w : World) : Calls Tryz.prog 76 #[.agg #[.int .i64 x.k, .string x.key, .string x.val, .int .i64 x.ch]] w fun e w' => ∃ v, e = .returned (.tuple #[v, .int .i64 (wEs x)]) ∧ Rd w' v (wLs x) ∧ Below w.heap.size w w' := by
  cases hc : rcB x with
  | false =>
    have H1 : Hid (wLs x = []) := show _ = _ by simp [wLs, hc]
    have H2 : Hid (wEs x = 70) := show _ = _ by simp [wEs, hc]
    have B0 := (Below.refl w.heap.size w).alloc (Nat.le_refl _) (.cells #[.int .i64 x.k, .string x.key, .string x.val, .int .i64 x.ch] 40)
    go_enter Tryz.func76, Tryz.ntmps76
    go_wp2_with (go_at_call 105; refine (rcheckR_any x _).mono ?_; rintro e w1 ⟨rfl, hb1⟩; rw [hc])
    refine bodyPost_ret (results_tmp2 Tryz.results76 _ _ _) rfl ?_
    exact ⟨_, by rw [H2.out]; rfl, by rw [H1.out]; exact nil_rd _, bstep B0 hb1⟩
  | true =>
    have hx := rcB_iff.1 hc
    have H1 : wLs x = imL x := by simp [wLs, hc]
    have H2 : wEs x = 0 := by simp [wEs, hc]
    rw [H1, H2]
    obtain ⟨k, key, val, ch⟩ := x
    have hk : k = 1 ∨ k = 2 := by
      rcases hx with h | h
      · exact .inl h.1
      · exact .inr h.1
    rcases hk with rfl | rfl
    · exact wordsR1 key val ch w hx
    · exact wordsR2 key val ch w hx
end Go.Proofs.YtcgclhahonndbaaGreat
