/- Set over from a lower layer: NNodg. · Set over from a lower layer: SSupa. -/
import Derived.Test.YtcgclhahonndbaaGreatNNodp
import Derived.Test.YtcgclhahonndbaaGreatNNodw
import Derived.Test.YtcgclhahonndbaaGreatNNodz
import Derived.Test.YtcgclhahonndbaaGreatNNumz
import Derived.Test.YtcgclhahonndbaaGreatBase
import Derived.Laws.ResultCell
import Derived.Test.YtcgclhahonndbaaGreatSSumz
namespace Go.Proofs.YtcgclhahonndbaaGreat
open Go.RowKit Go.Shelf
set_option linter.unusedVariables false
theorem Hw.rd0 {W : World} {g : Nat} {L : List Int} (h : Hw W g L) (hl : L.length = 16) : Rd W (.slice (some ⟨g, 0, none⟩) 16 16) L := by
  have := h.rd 0 16 16 (by omega) (Nat.le_refl _) (by omega)
  rwa [List.drop_zero, List.take_of_length_le (by omega)] at this
theorem slN_16 {L : List Int} (h : L.length = 16) : slN L 0 = (L.drop 3).takeWhile (fun x => decide (0 < x)) := by
  have := slN_yes (ws := L) (bn := 0) rfl (by omega)
  rw [show ((0 : Nat) : Int) = 0 from rfl] at this
  rw [this, List.take_of_length_le (by simp; omega)]
theorem he_parts (L : List Int) (x0 : Int) (h : L[0]? = some x0) : ∃ h r q : Int, wrap64 (x0 - 1152921504606846976) = h ∧ h.tmod 16 = r ∧ h.tdiv 16 = q ∧ IntKind.i64.wrap q = q ∧ IntKind.i64.wrap r = r ∧ (guN L).lv = r ∧ (guN L).tu = q := by
  have e : heI L = wrap64 (x0 - 1152921504606846976) := by
    unfold heI
    rw [IntKind.wrap_i64, List.getD_eq_getElem?_getD, h]
    unfold wrap64
    rfl
  refine ⟨_, _, _, rfl, rfl, rfl, ?_, ?_, by show (heI L).tmod 16 = _; rw [e], by show (heI L).tdiv 16 = _; rw [e]⟩
  · rw [IntKind.wrap_i64]
    have hb : -9223372036854775808 ≤ wrap64 (x0 - 1152921504606846976) ∧ wrap64 (x0 - 1152921504606846976) < 9223372036854775808 := by unfold wrap64; omega
    generalize wrap64 (x0 - 1152921504606846976) = h at hb
    by_cases hs : 0 ≤ h
    · rw [Int.tdiv_eq_ediv_of_nonneg hs]
      omega
    · have := Int.neg_tdiv (-h) 16
      rw [Int.neg_neg] at this
      rw [this, Int.tdiv_eq_ediv_of_nonneg (by omega)]
      omega
  · rw [IntKind.wrap_i64]
    have hb : -9223372036854775808 ≤ wrap64 (x0 - 1152921504606846976) ∧ wrap64 (x0 - 1152921504606846976) < 9223372036854775808 := by unfold wrap64; omega
    generalize wrap64 (x0 - 1152921504606846976) = h at hb
    by_cases hs : 0 ≤ h
    · rw [Int.tmod_eq_emod_of_nonneg hs]
      omega
    · have := Int.neg_tmod (-h) 16
      rw [Int.neg_neg] at this
      rw [this, Int.tmod_eq_emod_of_nonneg (by omega)]
      omega
theorem Nb.set5 {W : World} {g : Nat} {lv tu nx lo : Int} {v : Value} (h : Nb W g lv tu nx lo v) (a b c d e : Value) : (((((W.setCell ⟨g, 0, none⟩ a).setCell ⟨g, 1, none⟩ b).setCell ⟨g, 2, none⟩ c).setCell ⟨g, 3, none⟩ d).setCell ⟨g, 4, none⟩ e).heap[g]? = some (.cells #[a, b, c, d, e] 43 (0, 0)) := by
  have h1 := heap_setCell_same W g 0 _ 43 a h
  have h2 := heap_setCell_same _ g 1 _ 43 b h1
  have h3 := heap_setCell_same _ g 2 _ 43 c h2
  have h4 := heap_setCell_same _ g 3 _ 43 d h3
  have h5 := heap_setCell_same _ g 4 _ 43 e h4
  rw [h5]
  simp
theorem below_set5 {n g : Nat} {w W : World} (h : Below n w W) (hg : n ≤ g) (a b c d e : Value) : Below n w (((((W.setCell ⟨g, 0, none⟩ a).setCell ⟨g, 1, none⟩ b).setCell ⟨g, 2, none⟩ c).setCell ⟨g, 3, none⟩ d).setCell ⟨g, 4, none⟩ e) :=
  ((((h.setCell (p := ⟨g, 0, none⟩) hg a).setCell (p := ⟨g, 1, none⟩) hg b).setCell (p := ⟨g, 2, none⟩) hg c).setCell (p := ⟨g, 3, none⟩) hg d).setCell (p := ⟨g, 4, none⟩) hg e
theorem own_set5 {W : World} {base g : Nat} {v : Value} {zs : List Int} (h : OwnI W base v zs) (hg : g < base) (a b c d e : Value) : OwnI (((((W.setCell ⟨g, 0, none⟩ a).setCell ⟨g, 1, none⟩ b).setCell ⟨g, 2, none⟩ c).setCell ⟨g, 3, none⟩ d).setCell ⟨g, 4, none⟩ e) base v zs :=
  ((((h.setOther hg a).setOther hg b).setOther hg c).setOther hg d).setOther hg e
theorem OwnI.less {W : World} {base base' : Nat} {v : Value} {zs : List Int} (h : OwnI W base v zs) (hb : base' ≤ base) : OwnI W base' v zs := by
  refine ⟨h.1, ?_⟩
  rcases h.2 with h | ⟨b, cap, cur, e, hb', rest⟩
  · exact .inl h
  · exact .inr ⟨b, cap, cur, e, Nat.le_trans hb hb', rest⟩
theorem load24 {w : World} {b : Nat} {lv tu nx lo : Int} {v : Value} (h : Nb w b lv tu nx lo v) : (loadVar 43 ⟨b, 0, none⟩).run Tryz.prog w = .ok (.agg #[.int .i64 lv, .int .i64 tu, .int .i64 nx, .int .i64 lo, v]) w := by
  have hr : w.rangeAt b 0 [.int .i64 lv, .int .i64 tu, .int .i64 nx, .int .i64 lo, v] := by
    obtain ⟨c0, c1, c2, c3, c4⟩ := h.c
    intro j u hu
    match j, hu with
    | 0, hu => cases hu; exact c0
    | 1, hu => cases hu; exact c1
    | 2, hu => cases hu; exact c2
    | 3, hu => cases hu; exact c3
    | 4, hu => cases hu; exact c4
  exact run_loadVar_mid (P := Tryz.prog) w b 0 43 _ _ hr Tryz.underlying43 rfl (by kernel_rfl)
theorem ret_nb {fn : Func} {p : Tmp} (h : fn.results = #[.cell p 43]) {tmps : Array Value} {w : World} {b : Nat} {lv tu nx lo : Int} {v : Value} (hp : tmps.getD p undef = .pointer (some ⟨b, 0, none⟩)) (hx : Nb w b lv tu nx lo v) : (results fn tmps).run Tryz.prog w = .ok (.agg #[.int .i64 lv, .int .i64 tu, .int .i64 nx, .int .i64 lo, v]) w := by
  have hp' : tmps[p]?.getD undef = .pointer (some ⟨b, 0, none⟩) := by simpa using hp
  simp [results, h, hp', asAddr, load24 hx]
theorem ret_nb2 {fn : Func} {p u : Tmp} (h : fn.results = #[.cell p 43, .tmp u]) {tmps : Array Value} {w : World} {b : Nat} {lv tu nx lo : Int} {v : Value} (hp : tmps.getD p undef = .pointer (some ⟨b, 0, none⟩)) (hx : Nb w b lv tu nx lo v) : (results fn tmps).run Tryz.prog w = .ok (.tuple #[.agg #[.int .i64 lv, .int .i64 tu, .int .i64 nx, .int .i64 lo, v], tmps.getD u undef]) w := by
  have hp' : tmps[p]?.getD undef = .pointer (some ⟨b, 0, none⟩) := by simpa using hp
  rw [results_cell_tmp h]
  simp [hp', asAddr, load24 hx]
/-- The two cells of an image that are read late. -/
abbrev S2 (W : World) (g : Nat) (x1 x2 : Int) : Prop := W.cell? ⟨g, 1, none⟩ = some (.int .i64 x1) ∧ W.cell? ⟨g, 2, none⟩ = some (.int .i64 x2)
theorem S2.set {W : World} {g : Nat} {x1 x2 : Int} (h : S2 W g x1 x2) {b k : Nat} (hb : g ≠ b) (u : Value) : S2 (W.setCell ⟨b, k, none⟩ u) g x1 x2 := by
  have e := Below.heap_setCell W ⟨b, k, none⟩ u g hb
  exact ⟨(World.cell?_of_block e).trans h.1, (World.cell?_of_block e).trans h.2⟩
theorem S2.set5 {W : World} {g : Nat} {x1 x2 : Int} (h : S2 W g x1 x2) (u0 u1 u2 u3 u4 : Value) : S2 (((((W.setCell ⟨g + 1, 0, none⟩ u0).setCell ⟨g + 1, 1, none⟩ u1).setCell ⟨g + 1, 2, none⟩ u2).setCell ⟨g + 1, 3, none⟩ u3).setCell ⟨g + 1, 4, none⟩ u4) g x1 x2 := ((((h.set (by omega) u0).set (by omega) u1).set (by omega) u2).set (by omega) u3).set (by omega) u4
theorem gu_start (L : List Int) (w W : World) (hW : W = (w.alloc (.cells (L.map (Value.int .i64)).toArray 64)).alloc (.cells #[.int .i64 0, .int .i64 0, .int .i64 0, .int .i64 0, .slice none 0 0] 43)) :
    Hw W w.heap.size L ∧ Nb W (w.heap.size + 1) 0 0 0 0 (.slice none 0 0) ∧ Below w.heap.size w W := by
  subst hW
  refine ⟨(hw_new w L).below ((Below.refl _ _).alloc (Nat.le_refl _) _), ?_, ((Below.refl _ w).alloc (Nat.le_refl _) _).alloc (by simp) _⟩
  have := nb_new (w.alloc (.cells (L.map (Value.int .i64)).toArray 64)) 0 0 0 0 (.slice none 0 0)
  rw [show (w.alloc (.cells (L.map (Value.int .i64)).toArray 64)).heap.size = w.heap.size + 1 by simp] at this
  exact this
set_option maxRecDepth 100000 in
set_option maxHeartbeats 1000000 in
theorem guess_any (L : List Int) (w : World) (hl : L.length = 16) : Calls Tryz.prog 113 #[.agg (L.map (Value.int .i64)).toArray] w fun e w' => ∃ v', e = .returned (.agg #[.int .i64 (guN L).lv, .int .i64 (guN L).tu, .int .i64 (guN L).nx, .int .i64 (guN L).lo, v']) ∧ OwnI w' w.heap.size v' (guN L).sl ∧ Below w.heap.size w w' := by
  obtain ⟨x0, e0⟩ : ∃ x, L[0]? = some x := ⟨_, List.getElem?_eq_getElem (by omega)⟩
  obtain ⟨x1, e1⟩ : ∃ x, L[1]? = some x := ⟨_, List.getElem?_eq_getElem (by omega)⟩
  obtain ⟨x2, e2⟩ : ∃ x, L[2]? = some x := ⟨_, List.getElem?_eq_getElem (by omega)⟩
  obtain ⟨h, r, q, g1, g2, g3, g4, g5, g6, g7⟩ := he_parts L x0 e0
  have g8 : (guN L).nx = x1 := by show L.getD 1 0 = _; rw [List.getD_eq_getElem?_getD, e1]; rfl
  have g9 : (guN L).lo = x2 := by show L.getD 2 0 = _; rw [List.getD_eq_getElem?_getD, e2]; rfl
  have gs : (guN L).sl = slN L 0 := (slN_16 hl).symm
  rw [g6, g7, g8, g9, gs]
  obtain ⟨A, hA⟩ : ∃ A, (L.map (Value.int .i64)).toArray = A := ⟨_, rfl⟩
  have c0 : A[0]? = some (.int .i64 x0) := by rw [← hA]; simp [e0]
  have HA : Hid ((L.map (Value.int .i64)).toArray = A) := hA
  rw [hA]
  have HL : Hid (L.length = 16) := hl
  have E1 : Hid (L[1]? = some x1) := e1
  have E2 : Hid (L[2]? = some x2) := e2
  have Hle : Hid (16 ≤ L.length ∧ L.length ≤ 1000) := (by show _ ∧ _; omega)
  clear hl e0 e1 e2 g6 g7 g8 g9 gs hA
  go_enter Tryz.func113, Tryz.ntmps113
  go_wp2
  clear c0
  generalize hW : World.alloc _ _ = W
  obtain ⟨I0, N0, B0⟩ := gu_start L w W (by rw [HA.out]; exact hW.symm)
  clear hW
  have HI : Hid (Hw W.drew w.heap.size L) := I0.belowN ((Below.refl _ _).drew) I0.lt
  have HN : Hid (Nb W.drew (w.heap.size + 1) 0 0 0 0 (.slice none 0 0)) := N0.belowN ((Below.refl _ _).drew) N0.lt
  have HB : Hid (Below w.heap.size w W.drew) := B0.drew
  have S0 : Hid (S2 W.drew w.heap.size x1 x2) := ⟨HI.out.cell E1.out, HI.out.cell E2.out⟩
  clear I0 N0 B0
  go_region_held3 (fun W2 => W2.cell? ⟨w.heap.size, 1, none⟩ = some (.int .i64 x1) ∧ W2.cell? ⟨w.heap.size, 2, none⟩ = some (.int .i64 x2))
    (first | with_reducible exact S0.out | with_reducible exact S1.out | with_reducible exact S2.set5 S1.out _ _ _ _ _)
    (first
      | (go_at_call 123; refine (slots_any _ L 0 _ (HI.out.rd0 HL.out)).mono ?_; rintro e w1 ⟨v1, rfl, r1, hb1⟩; obtain ⟨a1, c1, rfl⟩ := r1.form; have R1 : Hid (OwnI w1 W.drew.heap.size (.slice a1 (slN L 0).length c1) (slN L 0)) := r1; have I1 := HI.out.below hb1; have S1 : Hid (S2 w1 w.heap.size x1 x2) := ⟨I1.cell E1.out, I1.cell E2.out⟩; have N1 := HN.out.below hb1; obtain ⟨q0, q1, q2, q3, q4⟩ := N1.c; have f0 := N1.free 0; have f1 := N1.free 1; have f2 := N1.free 2; have f3 := N1.free 3; have f4 := N1.free 4; have B1 : Hid (Below w.heap.size w w1) := bstep HB.out hb1; clear I1 hb1 r1))
  have gB : w.heap.size ≤ w.heap.size + 1 := by omega
  have N5 := N1.set5 (.int .i64 r) (.int .i64 q) (.int .i64 x1) (.int .i64 x2) (.slice a1 (slN L 0).length c1)
  have B5 := below_set5 B1.out gB (.int .i64 r) (.int .i64 q) (.int .i64 x1) (.int .i64 x2) (.slice a1 (slN L 0).length c1)
  have O5 := own_set5 R1.out HN.out.lt (.int .i64 r) (.int .i64 q) (.int .i64 x1) (.int .i64 x2) (.slice a1 (slN L 0).length c1)
  have O6 := O5.less (show w.heap.size ≤ W.drew.heap.size from HB.out.size)
  clear q0 q1 q2 q3 q4 f0 f1 f2 f3 f4 N1 B1 R1 O5 S1 HI HN HB S0
  rw [g4] at *
  generalize World.setCell _ _ _ = W5 at *
  go_wp2
  exact bodyPost_ret (ret_nb (p := 2) (b := w.heap.size + 1) Tryz.results113 rfl N5) rfl ⟨_, rfl, O6, B5⟩
end Go.Proofs.YtcgclhahonndbaaGreat
namespace Go.Proofs.YtcgclhahonndbaaGreat
open Go.RowKit Go.Shelf
set_option linter.unusedVariables false
set_option maxRecDepth 100000 in
theorem mayBe_any (n r : Int) (w : World) : Calls Tryz.prog 52 #[.int .i64 n, .int .i64 r] w fun e w' => e = .returned (.bool (mbB n r)) ∧ w' = w := by
  by_cases h1 : n ≥ 2
  · by_cases h2 : n ≤ 256
    · by_cases h3 : r ≥ 1
      · by_cases h4 : r < n
        · have H : Hid (mbB n r = true) := mbB_yes ⟨h1, h2, h3, h4⟩
          go_enter Tryz.func52, Tryz.ntmps52
          go_wp2
          go_ret
          exact ⟨ret_bool H.out.symm, rfl⟩
        · have H : Hid (mbB n r = false) := mbB_no (by omega)
          go_enter Tryz.func52, Tryz.ntmps52
          go_wp2
          go_ret
          exact ⟨ret_bool H.out.symm, rfl⟩
      · have H : Hid (mbB n r = false) := mbB_no (by omega)
        go_enter Tryz.func52, Tryz.ntmps52
        go_wp2
        go_ret
        exact ⟨ret_bool H.out.symm, rfl⟩
    · have H : Hid (mbB n r = false) := mbB_no (by omega)
      go_enter Tryz.func52, Tryz.ntmps52
      go_wp2
      go_ret
      exact ⟨ret_bool H.out.symm, rfl⟩
  · have H : Hid (mbB n r = false) := mbB_no (by omega)
    go_enter Tryz.func52, Tryz.ntmps52
    go_wp2
    go_ret
    exact ⟨ret_bool H.out.symm, rfl⟩
theorem Shw_new (W : World) (L : List Int) : SHw (W.alloc (.cells (L.map (Value.int .i64)).toArray 83)) W.heap.size L := Go.heap_alloc_new _ _
theorem nb_fits {n : Int} (h : 2 ≤ n ∧ n ≤ 256) : Fits [7015, n] := by
  intro z hz
  simp at hz
  omega
theorem of_ck (n : Int) (v : Value) (w : World) (hR : Rd w v [7015, n]) (hF : Fits [7015, n]) : Calls Tryz.prog 57 #[v] w fun e w' => e = .returned (.int .i64 (ckN n)) ∧ Below w.heap.size w w' := by
  unfold ckN
  exact Sm.of_any v [7015, n] w (hR.sm hF)
set_option maxRecDepth 100000 in
set_option maxHeartbeats 1000000 in
theorem SheadOf_any (n r : Int) (w : World) (h : mbB n r = true) : Calls Tryz.prog 53 #[.int .i64 n, .int .i64 r] w fun e w' => e = .returned (.agg ((hdW n r).map (Value.int .i64)).toArray) ∧ Below w.heap.size w w' := by
  obtain ⟨h0, h1, h2, h3⟩ := mbB_iff.1 h
  have k28 : Hid (∀ (v : Value) (w : World), Rd w v [7015, n] → Calls Tryz.prog 57 #[v] w fun e w' => e = .returned (.int .i64 (ckN n)) ∧ Below w.heap.size w w') := fun v w hR => of_ck n v w hR (nb_fits ⟨h0, h1⟩)
  have H0 : Hid (SHw (w.alloc (.cells #[.int .i64 0, .int .i64 0, .int .i64 0, .int .i64 0, .int .i64 0, .int .i64 0, .int .i64 0, .int .i64 0, .int .i64 0, .int .i64 0, .int .i64 0, .int .i64 0, .int .i64 0, .int .i64 0, .int .i64 0, .int .i64 0] 83)) w.heap.size zeros16) := Shw_new w zeros16
  have HE : Hid (hdW n r = hdQ n (ckN n) r) := hdW_eq n r
  clear h
  have B0 : Hid (Below w.heap.size w (w.alloc (.cells #[.int .i64 0, .int .i64 0, .int .i64 0, .int .i64 0, .int .i64 0, .int .i64 0, .int .i64 0, .int .i64 0, .int .i64 0, .int .i64 0, .int .i64 0, .int .i64 0, .int .i64 0, .int .i64 0, .int .i64 0, .int .i64 0] 83))) := (Below.refl _ _).alloc (Nat.le_refl _) _
  generalize ckN n = q at *
  go_enter Tryz.func53, Tryz.ntmps53
  go_wp2_with (first
    | (go_at_call 57; refine (k28.out _ _ (rd_two _ 7015 n (by simp))).mono ?_; rintro e w1 ⟨rfl, hb1⟩; have hb2 := bstep ((Below.refl _ _).alloc (Nat.le_refl _) _) hb1; have H1 := H0.out.below hb2; have hthere : w1.there w.heap.size 0 ((hdQ n q r).map (Value.int .i64)).toArray.size := (by have := H1.there; simpa [zeros16, hdQ] using this); have hlaid := H1.laid (hdQ n q r) rfl; have B1 := bstep B0.out hb2)
    | (refine wpList_store_mid rfl 83 _ _ rfl w.heap.size 0 ((hdQ n q r).map (Value.int .i64)).toArray rfl rfl hthere (Shw_size rfl) (hw_one _) ?_))
  refine bodyPost_ret (v := .agg ((hdQ n q r).map (Value.int .i64)).toArray) ?_ rfl ⟨by rw [HE.out], Sm.below_setCells _ _ _ (by omega) B1⟩
  have := run_loadVar_mid (P := Tryz.prog) _ w.heap.size 0 83 ((hdQ n q r).map (Value.int .i64)) _ hlaid Tryz.underlying83 rfl (Shw_sizeL rfl)
  simp [results, Tryz.results53, asAddr, Act.put, this]
end Go.Proofs.YtcgclhahonndbaaGreat
