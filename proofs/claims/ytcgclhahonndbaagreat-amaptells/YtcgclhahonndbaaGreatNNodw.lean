/- Set over from a lower layer: NNodd. · Set over from a lower layer: NNodw. -/
import Derived.Test.YtcgclhahonndbaaGreatNNodz
import Derived.Test.YtcgclhahonndbaaGreatNNumz
import Derived.Test.YtcgclhahonndbaaGreatBase
import Derived.Test.YtcgclhahonndbaaGreatNNodp
import Derived.Deep.RegionWith
namespace Go.Proofs.YtcgclhahonndbaaGreat
open Go.RowKit Go.Shelf
set_option linter.unusedVariables false
theorem hw_new (W : World) (L : List Int) : Hw (W.alloc (.cells (L.map (Value.int .i64)).toArray 64)) W.heap.size L := Go.heap_alloc_new _ _
/-- The cells of a node in a block. -/
abbrev SN (W : World) (g : Nat) (lv tu nx lo : Int) (v : Value) : Prop := W.cell? ⟨g, 0, none⟩ = some (.int .i64 lv) ∧ W.cell? ⟨g, 1, none⟩ = some (.int .i64 tu) ∧ W.cell? ⟨g, 2, none⟩ = some (.int .i64 nx) ∧ W.cell? ⟨g, 3, none⟩ = some (.int .i64 lo) ∧ W.cell? ⟨g, 4, none⟩ = some v
theorem SN.set {W : World} {g : Nat} {lv tu nx lo : Int} {v : Value} (h : SN W g lv tu nx lo v) {b k : Nat} (hb : g ≠ b) (u : Value) : SN (W.setCell ⟨b, k, none⟩ u) g lv tu nx lo v := by
  have e := Below.heap_setCell W ⟨b, k, none⟩ u g hb
  obtain ⟨h0, h1, h2, h3, h4⟩ := h
  exact ⟨(World.cell?_of_block e).trans h0, (World.cell?_of_block e).trans h1, (World.cell?_of_block e).trans h2, (World.cell?_of_block e).trans h3, (World.cell?_of_block e).trans h4⟩
theorem Nb.sn {W : World} {g : Nat} {lv tu nx lo : Int} {v : Value} (h : Nb W g lv tu nx lo v) : SN W g lv tu nx lo v := h.c
theorem Nb.other {W : World} {g : Nat} {lv tu nx lo : Int} {v : Value} (h : Nb W g lv tu nx lo v) {b k : Nat} (hb : g ≠ b) (u : Value) : Nb (W.setCell ⟨b, k, none⟩ u) g lv tu nx lo v := (Below.heap_setCell W ⟨b, k, none⟩ u g hb).trans h
theorem hz_new (W : World) : Hw (W.alloc (.cells #[.int .i64 0, .int .i64 0, .int .i64 0, .int .i64 0, .int .i64 0, .int .i64 0, .int .i64 0, .int .i64 0, .int .i64 0, .int .i64 0, .int .i64 0, .int .i64 0, .int .i64 0, .int .i64 0, .int .i64 0, .int .i64 0] 64)) W.heap.size zeros16 := hw_new W zeros16
theorem hz_at {W : World} {n : Nat} (h : W.heap.size = n) : Hw (W.alloc (.cells #[.int .i64 0, .int .i64 0, .int .i64 0, .int .i64 0, .int .i64 0, .int .i64 0, .int .i64 0, .int .i64 0, .int .i64 0, .int .i64 0, .int .i64 0, .int .i64 0, .int .i64 0, .int .i64 0, .int .i64 0, .int .i64 0] 64)) n zeros16 := by rw [← h]; exact hz_new W
theorem image_start (lv tu nx lo : Int) (v : Value) (w W : World) (hW : W = ((w.alloc (.cells #[.int .i64 lv, .int .i64 tu, .int .i64 nx, .int .i64 lo, v] 43)).alloc (.cells #[.int .i64 0, .int .i64 0, .int .i64 0, .int .i64 0, .int .i64 0, .int .i64 0, .int .i64 0, .int .i64 0, .int .i64 0, .int .i64 0, .int .i64 0, .int .i64 0, .int .i64 0, .int .i64 0, .int .i64 0, .int .i64 0] 64)).alloc (.cells #[.int .i64 0, .int .i64 0, .int .i64 0, .int .i64 0, .int .i64 0, .int .i64 0, .int .i64 0, .int .i64 0, .int .i64 0, .int .i64 0, .int .i64 0, .int .i64 0, .int .i64 0, .int .i64 0, .int .i64 0, .int .i64 0] 64)) :
    Nb W w.heap.size lv tu nx lo v ∧ Hw W (w.heap.size + 1) zeros16 ∧ Hw W (w.heap.size + 1 + 1) zeros16 ∧ Below w.heap.size w W := by
  subst hW
  refine ⟨?_, ?_, ?_, ?_⟩
  · exact ((nb_new w lv tu nx lo v).below ((Below.refl _ _).alloc (Nat.le_refl _) _)).below ((Below.refl _ _).alloc (Nat.le_refl _) _)
  · exact (hz_at (by simp)).below ((Below.refl _ _).alloc (Nat.le_refl _) _)
  · exact hz_at (by simp)
  · exact (((Below.refl _ w).alloc (Nat.le_refl _) _).alloc (by simp) _).alloc (by simp; omega) _
theorem slot_ne (n : Nat) : n + 1 + 1 ≠ n ∧ n ≠ n + 1 + 1 := by omega
/-- An image with so many slots laid. -/
def stL (hd nx lo : Int) (sl : List Int) (k : Nat) : List Int := hd :: nx :: lo :: (sl.take k ++ List.replicate (13 - k) 0)
theorem stL_length {hd nx lo : Int} {sl : List Int} {k : Nat} (h : k ≤ sl.length) (h2 : k ≤ 13) : (stL hd nx lo sl k).length = 16 := by
  unfold stL
  simp
  omega
theorem stL_next {hd nx lo : Int} {sl : List Int} {k : Nat} {x : Int} (hx : sl[k]? = some x) (h : k ≤ 12) : (stL hd nx lo sl k).set (k + 3) x = stL hd nx lo sl (k + 1) := by
  have hk := (List.getElem?_eq_some_iff.1 hx).1
  unfold stL
  rw [List.set_cons_succ, List.set_cons_succ, List.set_cons_succ, take_next hx, show 13 - k = (13 - (k + 1)) + 1 by omega, List.replicate_succ]
  congr 3
  rw [List.set_append_right _ _ (by rw [List.length_take]; omega), List.length_take, Nat.min_eq_left (by omega), Nat.sub_self]
  simp
theorem place0 (k : Nat) (hk : k ≤ 12) (w : World) : Calls Tryz.prog 62 #[.int .i64 0, .int .i64 (k : Int)] w fun e w' => e = .returned (.int .i64 ((k : Int) + 3)) ∧ w' = w := by
  have := place_any 0 (k : Int) w
  rw [plc_yes (show ndB 0 = true from rfl) (by omega) (by omega)] at this
  have e : (0 : Int) + 3 + (k : Int) = (k : Int) + 3 := by omega
  rw [e] at this
  exact this
set_option maxRecDepth 100000 in
set_option maxHeartbeats 1000000 in
theorem image_node (lv tu nx lo : Int) (sl : List Int) (a : Option Addr) (cap : Nat) (w : World) (hR : Rd w (.slice a sl.length cap) sl) (hM : May ⟨lv, tu, nx, lo, sl⟩) :
    Calls Tryz.prog 39 #[.agg #[.int .i64 lv, .int .i64 tu, .int .i64 nx, .int .i64 lo, .slice a sl.length cap]] w fun e w' => e = .returned (.agg ((imN ⟨lv, tu, nx, lo, sl⟩).map (Value.int .i64)).toArray) ∧ Below w.heap.size w w' := by
  have HR : Hid (Rd w (.slice a sl.length cap) sl) := hR
  have HM : Hid (May ⟨lv, tu, nx, lo, sl⟩) := hM
  have k31 : Hid (∀ w, Calls Tryz.prog 61 #[.agg #[.int .i64 lv, .int .i64 tu, .int .i64 nx, .int .i64 lo, .slice a sl.length cap]] w fun e w' => e = .returned (.int .i64 (hdI tu lv)) ∧ Below w.heap.size w w') := fun w => headOf_any lv tu nx lo (.slice a sl.length cap) w hM.l0 hM.l9 hM.t0 hM.t9
  have HH : Hid (∀ M, M = hdI tu lv :: nx :: lo :: padL sl → M = imN ⟨lv, tu, nx, lo, sl⟩) := fun M h => h
  clear hR hM
  go_enter Tryz.func39, Tryz.ntmps39
  go_wp2
  generalize hW : World.alloc _ _ = W
  obtain ⟨N0, Z0, I0, B0⟩ := image_start lv tu nx lo (.slice a sl.length cap) w W hW.symm
  clear hW
  generalize hdI tu lv = hd at *
  have S0 : Hid (SN W.drew w.heap.size lv tu nx lo (.slice a sl.length cap)) := (N0.belowN ((Below.refl _ _).drew) N0.lt).sn
  have NE : Hid (w.heap.size ≠ w.heap.size + 1 + 1) := (slot_ne _).2
  go_region_held3 (fun W2 => W2.cell? ⟨w.heap.size, 0, none⟩ = some (.int .i64 lv) ∧ W2.cell? ⟨w.heap.size, 1, none⟩ = some (.int .i64 tu) ∧ W2.cell? ⟨w.heap.size, 2, none⟩ = some (.int .i64 nx) ∧ W2.cell? ⟨w.heap.size, 3, none⟩ = some (.int .i64 lo) ∧ W2.cell? ⟨w.heap.size, 4, none⟩ = some (.slice a sl.length cap))
    (first | with_reducible exact S0.out | with_reducible exact S1.out | with_reducible exact SN.set S1.out NE.out _ | with_reducible exact SN.set (SN.set S1.out NE.out _) NE.out _ | with_reducible exact SN.set (SN.set (SN.set S1.out NE.out _) NE.out _) NE.out _)
    (first
      | (go_at_call 61; refine (k31.out _).mono ?_; rintro e w1 ⟨rfl, hb1⟩; have I1 := (I0.belowN ((Below.refl _ _).drew) I0.lt).below hb1; have S1 : Hid (SN w1 w.heap.size lv tu nx lo (.slice a sl.length cap)) := ((N0.belowN ((Below.refl _ _).drew) N0.lt).below hb1).sn; have q0 := I1.cell (k := 0) (z := 0) rfl; have q1 := I1.cell (k := 1) (z := 0) rfl; have q2 := I1.cell (k := 2) (z := 0) rfl; have f0 := I1.frozen 0; have f1 := I1.frozen 1; have f2 := I1.frozen 2))
  have I3 : Hw (((w1.setCell ⟨w.heap.size + 1 + 1, 0, none⟩ (.int .i64 hd)).setCell ⟨w.heap.size + 1 + 1, 1, none⟩ (.int .i64 nx)).setCell ⟨w.heap.size + 1 + 1, 2, none⟩ (.int .i64 lo)) (w.heap.size + 1 + 1) (stL hd nx lo sl 0) := ((I1.set 0 hd).set 1 nx).set 2 lo
  have N3 := (((N0.belowN ((Below.refl _ _).drew) N0.lt).below hb1).other (k := 0) NE.out (.int .i64 hd)).other (k := 1) NE.out (.int .i64 nx) |>.other (k := 2) NE.out (.int .i64 lo)
  have B1 := bstep B0.drew hb1
  have gB : w.heap.size ≤ w.heap.size + 1 + 1 := by omega
  have B3 := ((B1.setCell (p := ⟨w.heap.size + 1 + 1, 0, none⟩) gB (.int .i64 hd)).setCell (p := ⟨w.heap.size + 1 + 1, 1, none⟩) gB (.int .i64 nx)).setCell (p := ⟨w.heap.size + 1 + 1, 2, none⟩) gB (.int .i64 lo)
  have Z3 := ((((Z0.belowN ((Below.refl _ _).drew) Z0.lt).below hb1).other (g := w.heap.size + 1 + 1) (k := 0) (by omega) (.int .i64 hd)).other (g := w.heap.size + 1 + 1) (k := 1) (by omega) (.int .i64 nx)).other (g := w.heap.size + 1 + 1) (k := 2) (by omega) (.int .i64 lo)
  clear I1 S1 q0 q1 q2 f0 f1 f2 hb1 N0 Z0 I0 B0 S0 B1
  generalize World.setCell _ _ _ = W3 at *
  have HI : Hid (Hw W3 (w.heap.size + 1 + 1) (stL hd nx lo sl 0)) := I3
  have HN : Hid (Nb W3 w.heap.size lv tu nx lo (.slice a sl.length cap)) := N3
  have HZ : Hid (Hw W3 (w.heap.size + 1) zeros16) := Z3
  have HB : Hid (Below w.heap.size w W3) := B3
  have HL : Hid (sl.length ≤ 13) := HM.out.len
  obtain ⟨x0, x1, x2, x3, x4⟩ := N3.c
  clear I3 N3 Z3 B3
  go_wp2
  go_loopw [18] (fun i w4 => ∃ k : Nat, k ≤ sl.length ∧ i = .int .i64 (k : Int) ∧ Hw w4 (w.heap.size + 1 + 1) (stL hd nx lo sl k) ∧ Hw w4 (w.heap.size + 1) zeros16 ∧ Below w.heap.size w w4) (fun i _ => sl.length - (intOf i).toNat)
  case atStart => exact ⟨0, Nat.zero_le _, rfl, HI.out, HZ.out, HB.out⟩
  case round =>
    clear x0 x1 x2 x3 x4
    obtain ⟨k, hk, rfl, hI, hZ, hB⟩ := hrel
    have HI : Hid (Hw wr (w.heap.size + 1 + 1) (stL hd nx lo sl k)) := hI
    have HZ : Hid (Hw wr (w.heap.size + 1) zeros16) := hZ
    have HB : Hid (Below w.heap.size w wr) := hB
    clear hI hZ hB
    by_cases hlt : k < sl.length
    · have hltI : (k : Int) < (sl.length : Int) := by omega
      have hk12 : k ≤ 12 := by have := HL.out; omega
      have Hx : Hid (sl[k]? = some sl[k]) := List.getElem?_eq_getElem hlt
      obtain ⟨b, off, rfl, hc⟩ := (HR.out.below HB.out).at k hlt
      generalize sl[k] = x at *
      have Hn : Hid ((stL hd nx lo sl k).set (k + 3) x = stL hd nx lo sl (k + 1)) := stL_next Hx.out hk12
      obtain ⟨z, hz⟩ : ∃ z, (stL hd nx lo sl k)[k + 3]? = some z := ⟨_, List.getElem?_eq_getElem (by rw [stL_length (by omega) (by omega)]; omega)⟩
      have c0 := HI.out.cell hz
      have f0 := HI.out.frozen (k + 3)
      have HI' : Hid (Hw (wr.setCell ⟨w.heap.size + 1 + 1, k + 3, none⟩ (.int .i64 x)) (w.heap.size + 1 + 1) (stL hd nx lo sl (k + 1))) := (by have := HI.out.set (k + 3) x; rwa [Hn.out] at this)
      clear hz
      go_wp2_with (first
        | (go_at_call 62; refine (place0 k hk12 _).mono ?_; rintro e w' ⟨rfl, hw⟩; rw [hw]; clear hw w'))
      go_roundw
      case rel => exact ⟨k + 1, by omega, by go_num, HI'.out, HZ.out.other (by omega) _, HB.out.setCell (p := ⟨w.heap.size + 1 + 1, k + 3, none⟩) (by show w.heap.size ≤ w.heap.size + 1 + 1; omega) _⟩
      case measure => simp [intOf]; omega
    · have hge : ¬ (k : Int) < (sl.length : Int) := by omega
      have e : stL hd nx lo sl k = hd :: nx :: lo :: padL sl := by
        have : k = sl.length := by omega
        subst this
        unfold stL padL
        rw [List.take_of_length_le (Nat.le_refl _)]
      have I8 := HI.out
      rw [e] at I8
      have Z8 := HZ.out
      have l16 : (hd :: nx :: lo :: padL sl).length = 16 := by
        show (padL sl).length + 3 = 16
        rw [padL_length HL.out]
      obtain ⟨M, hM⟩ : ∃ M, M = hd :: nx :: lo :: padL sl := ⟨_, rfl⟩
      rw [← hM] at I8 l16
      have HMi : Hid (M = imN ⟨lv, tu, nx, lo, sl⟩) := HH.out M hM
      clear hM
      have hrange := I8.range
      have hthere : wr.there (w.heap.size + 1) 0 (M.map (Value.int .i64)).toArray.size := by
        have := Z8.there
        simpa [zeros16, l16] using this
      have hlaid := Z8.laid M (by rw [l16]; rfl)
      have hs1 := hw_size l16
      have hs2 := hw_sizeL l16
      have ho := hw_one M
      clear I8 Z8 e
      go_wp2_with (first
        | refine wpList_load_mid rfl 64 _ rfl (w.heap.size + 1 + 1) 0 rfl (M.map (Value.int .i64)) _ hrange Tryz.underlying64 rfl hs2 ?_
        | refine wpList_store_mid rfl 64 _ _ rfl (w.heap.size + 1) 0 (M.map (Value.int .i64)).toArray rfl rfl hthere hs1 ho ?_)
      refine bodyPost_ret (v := .agg (M.map (Value.int .i64)).toArray) ?_ rfl ⟨by rw [HMi.out], below_cells (by omega) _ _ HB.out⟩
      have := run_loadVar_mid (P := Tryz.prog) _ (w.heap.size + 1) 0 64 (M.map (Value.int .i64)) _ hlaid Tryz.underlying64 rfl hs2
      simp [results, Tryz.results39, asAddr, this]
end Go.Proofs.YtcgclhahonndbaaGreat
namespace Go.Proofs.YtcgclhahonndbaaGreat
open Go.RowKit Go.Shelf
set_option linter.unusedVariables false
theorem range_at {W : World} {g : Nat} {M : List Int} (h : W.rangeAt g 0 (M.map (Value.int .i64))) {k : Nat} {x : Int} (hk : M[k]? = some x) : W.cell? ⟨g, k, none⟩ = some (.int .i64 x) := by
  have := h k (.int .i64 x) (by rw [List.getElem?_map, hk]; rfl)
  rwa [Nat.zero_add] at this
theorem range_lt {W : World} {g : Nat} {M : List Int} (h : W.rangeAt g 0 (M.map (Value.int .i64))) (hl : M.length = 16) : g < W.heap.size := World.block_lt_of_cell? _ _ (h 0 (.int .i64 (M[0]'(by omega))) (by simp [List.getElem?_eq_getElem (show 0 < M.length by omega)]))
theorem range_rd {W : World} {g : Nat} {M : List Int} (h : W.rangeAt g 0 (M.map (Value.int .i64))) (hl : M.length = 16) : Rd W (.slice (some ⟨g, 0, none⟩) 16 16) M := by
  unfold Rd
  rw [hl]
  refine ⟨by rw [List.length_map, hl], by omega, some ⟨g, 0, none⟩, 16, rfl, Nat.le_refl _, .inr ⟨g, 0, rfl, range_lt h hl, ?_⟩⟩
  intro j u hu
  rw [List.getElem?_map] at hu
  obtain ⟨z, hz, rfl⟩ := Option.map_eq_some_iff.1 hu
  rw [Nat.zero_add]
  exact range_at h hz
set_option maxRecDepth 100000 in
set_option maxHeartbeats 1000000 in
theorem words_node (n : Nd) (v : Value) (w : World) (hR : Rd w v n.sl) : Calls Tryz.prog 19 #[.agg #[.int .i64 n.lv, .int .i64 n.tu, .int .i64 n.nx, .int .i64 n.lo, v]] w fun e w' => ∃ v', e = .returned (.tuple #[v', .int .i64 (wnE n)]) ∧ Rd w' v' (wnL n) ∧ Below w.heap.size w w' := by
  obtain ⟨lv, tu, nx, lo, sl⟩ := n
  dsimp only at hR ⊢
  obtain ⟨hl, a, cap, rfl⟩ := hR.form
  have HR : Hid (Rd w (.slice a sl.length cap) sl) := hR
  have HB : Hid (Below w.heap.size w (w.alloc (.cells #[.int .i64 lv, .int .i64 tu, .int .i64 nx, .int .i64 lo, .slice a sl.length cap] 43))) := (Below.refl _ _).alloc (Nat.le_refl _) _
  have HN : Hid (Nb (w.alloc (.cells #[.int .i64 lv, .int .i64 tu, .int .i64 nx, .int .i64 lo, .slice a sl.length cap] 43)) w.heap.size lv tu nx lo (.slice a sl.length cap)) := nb_new w lv tu nx lo _
  have k17 : Hid (∀ W, Below w.heap.size w W → Calls Tryz.prog 38 #[.agg #[.int .i64 lv, .int .i64 tu, .int .i64 nx, .int .i64 lo, .slice a sl.length cap]] W fun e w' => e = .returned (.bool (nnB ⟨lv, tu, nx, lo, sl⟩)) ∧ Below W.heap.size W w') := fun W hb => check_node ⟨lv, tu, nx, lo, sl⟩ _ W (HR.out.below hb)
  clear hR
  cases hc : nnB ⟨lv, tu, nx, lo, sl⟩ with
  | false =>
    have H1 : Hid (wnE ⟨lv, tu, nx, lo, sl⟩ = 90) := (wn_no hc).2
    have H2 : Hid (wnL ⟨lv, tu, nx, lo, sl⟩ = []) := (wn_no hc).1
    rw [hc] at k17
    go_enter Tryz.func19, Tryz.ntmps19
    go_wp2_with (first
      | (go_at_call 38; refine (k17.out _ HB.out).mono ?_; rintro e w1 ⟨rfl, hb1⟩))
    refine bodyPost_ret (results_tmp2 Tryz.results19 _ _ _) rfl ?_
    exact ⟨_, by rw [H1.out]; rfl, by rw [H2.out]; exact nil_rd _, bstep HB.out hb1⟩
  | true =>
    have hM := nnB_iff.1 hc
    have H1 : Hid (wnE ⟨lv, tu, nx, lo, sl⟩ = 0) := (wn_yes hc).2
    have H2 : Hid (wnL ⟨lv, tu, nx, lo, sl⟩ = imN ⟨lv, tu, nx, lo, sl⟩) := (wn_yes hc).1
    rw [hc] at k17
    have k24 : Hid (∀ W, Below w.heap.size w W → Calls Tryz.prog 39 #[.agg #[.int .i64 lv, .int .i64 tu, .int .i64 nx, .int .i64 lo, .slice a sl.length cap]] W fun e w' => e = .returned (.agg ((imN ⟨lv, tu, nx, lo, sl⟩).map (Value.int .i64)).toArray) ∧ Below W.heap.size W w') := fun W hb => image_node lv tu nx lo sl a cap W (HR.out.below hb) hM
    have l16 : (imN ⟨lv, tu, nx, lo, sl⟩).length = 16 := imN_length hM.len
    generalize imN ⟨lv, tu, nx, lo, sl⟩ = M at *
    have hs1 := hw_size l16
    have hs2 := hw_sizeL l16
    have ho := hw_one M
    have L16 : Hid (M.length = 16) := l16
    clear hM hc l16
    go_enter Tryz.func19, Tryz.ntmps19
    go_wp2_with (first
      | (go_at_call 38; refine (k17.out _ HB.out).mono ?_; rintro e w1 ⟨rfl, hb1⟩; have H3 : Hid (Below w.heap.size w w1) := bstep HB.out hb1; obtain ⟨x0, x1, x2, x3, x4⟩ := (HN.out.below hb1).c; clear hb1)
      | (go_at_call 39; refine (k24.out _ H3.out).mono ?_; rintro e w2 ⟨rfl, hb2⟩; have H4 : Hid (Below w.heap.size w w2) := bstep H3.out hb2; have Z := hz_new w2; have hlaid : Hid (((w2.alloc (.cells #[.int .i64 0, .int .i64 0, .int .i64 0, .int .i64 0, .int .i64 0, .int .i64 0, .int .i64 0, .int .i64 0, .int .i64 0, .int .i64 0, .int .i64 0, .int .i64 0, .int .i64 0, .int .i64 0, .int .i64 0, .int .i64 0] 64)).setCells w2.heap.size 0 (M.map (Value.int .i64))).rangeAt w2.heap.size 0 (M.map (Value.int .i64))) := Z.laid M (by rw [L16.out]; rfl); have hthere : (w2.alloc (.cells #[.int .i64 0, .int .i64 0, .int .i64 0, .int .i64 0, .int .i64 0, .int .i64 0, .int .i64 0, .int .i64 0, .int .i64 0, .int .i64 0, .int .i64 0, .int .i64 0, .int .i64 0, .int .i64 0, .int .i64 0, .int .i64 0] 64)).there w2.heap.size 0 (M.map (Value.int .i64)).toArray.size := (by have := Z.there; simpa [zeros16, L16.out] using this); have H5 : Hid (Below w.heap.size w ((w2.alloc (.cells #[.int .i64 0, .int .i64 0, .int .i64 0, .int .i64 0, .int .i64 0, .int .i64 0, .int .i64 0, .int .i64 0, .int .i64 0, .int .i64 0, .int .i64 0, .int .i64 0, .int .i64 0, .int .i64 0, .int .i64 0, .int .i64 0] 64)).setCells w2.heap.size 0 (M.map (Value.int .i64)))) := below_cells H4.out.size _ _ (H4.out.alloc H4.out.size _); clear Z hb2)
      | refine wpList_store_mid rfl 64 _ _ rfl w2.heap.size 0 (M.map (Value.int .i64)).toArray rfl rfl hthere hs1 ho ?_)
    refine bodyPost_ret (results_tmp2 Tryz.results19 _ _ _) rfl ?_
    exact ⟨_, by rw [H1.out]; rfl, by rw [H2.out]; exact range_rd hlaid.out L16.out, H5.out⟩
end Go.Proofs.YtcgclhahonndbaaGreat
