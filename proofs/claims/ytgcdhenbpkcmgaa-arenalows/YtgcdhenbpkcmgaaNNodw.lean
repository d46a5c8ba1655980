/- Set over from a lower layer: Nodw. -/
import Derived.Test.YtgcdhenbpkcmgaaBase
import Derived.Test.YtgcdhenbpkcmgaaNNodd
namespace Go.Proofs.Ytgcdhenbpkcmgaa
open Go.RowKit Go.Shelf
set_option linter.unusedVariables false
theorem range_at {W : World} {g : Nat} {M : List Int} (h : W.rangeAt g 0 (M.map (Value.int .i64))) {k : Nat} {x : Int} (hk : M[k]? = some x) : W.cell? ⟨g, k, none⟩ = some (.int .i64 x) := by
  have := h k (.int .i64 x) (by rw [List.getElem?_map, hk]; rfl)
  rwa [Nat.zero_add] at this
theorem range_lt {W : World} {g : Nat} {M : List Int} (h : W.rangeAt g 0 (M.map (Value.int .i64))) (hl : M.length = 16) : g < W.heap.size := World.block_lt_of_cell? _ _ (h 0 (.int .i64 (M[0]'(by omega))) (by simp [List.getElem?_eq_getElem (show 0 < M.length by omega)]))
theorem range_rd {W : World} {g : Nat} {M : List Int} (h : W.rangeAt g 0 (M.map (Value.int .i64))) (hl : M.length = 16) : Rd W (.slice (some ⟨g, 0, none⟩) 16 16) M := by
  unfold Rd
  rw [hl]
  refine ⟨by rw [List.length_map, hl], by omega, some ⟨g, 0, none⟩, 16, rfl, Nat.le_refl _, .inr ⟨g, 0, rfl, range_lt h hl, ?_⟩⟩
  intro j u hu
  rw [List.getElem?_map] at hu
  obtain ⟨z, hz, rfl⟩ := Option.map_eq_some_iff.1 hu
  rw [Nat.zero_add]
  exact range_at h hz
set_option maxRecDepth 100000 in
set_option maxHeartbeats 1000000 in
theorem words_node (n : Nd) (v : Value) (w : World) (hR : Rd w v n.sl) : Calls Try.prog 19 #[.agg #[.int .i64 n.lv, .int .i64 n.tu, .int .i64 n.nx, .int .i64 n.lo, v]] w fun e w' => ∃ v', e = .returned (.tuple #[v', .int .i64 (wnE n)]) ∧ Rd w' v' (wnL n) ∧ Below w.heap.size w w' := by
  obtain ⟨lv, tu, nx, lo, sl⟩ := n
  dsimp only at hR ⊢
  obtain ⟨hl, a, cap, rfl⟩ := hR.form
  have HR : Hid (Rd w (.slice a sl.length cap) sl) := hR
  have HB : Hid (Below w.heap.size w (w.alloc (.cells #[.int .i64 lv, .int .i64 tu, .int .i64 nx, .int .i64 lo, .slice a sl.length cap] 37))) := (Below.refl _ _).alloc (Nat.le_refl _) _
  have HN : Hid (Nb (w.alloc (.cells #[.int .i64 lv, .int .i64 tu, .int .i64 nx, .int .i64 lo, .slice a sl.length cap] 37)) w.heap.size lv tu nx lo (.slice a sl.length cap)) := nb_new w lv tu nx lo _
  have k17 : Hid (∀ W, Below w.heap.size w W → Calls Try.prog 33 #[.agg #[.int .i64 lv, .int .i64 tu, .int .i64 nx, .int .i64 lo, .slice a sl.length cap]] W fun e w' => e = .returned (.bool (nnB ⟨lv, tu, nx, lo, sl⟩)) ∧ Below W.heap.size W w') := fun W hb => check_node ⟨lv, tu, nx, lo, sl⟩ _ W (HR.out.below hb)
  clear hR
  cases hc : nnB ⟨lv, tu, nx, lo, sl⟩ with
  | false =>
    have H1 : Hid (wnE ⟨lv, tu, nx, lo, sl⟩ = 90) := (wn_no hc).2
    have H2 : Hid (wnL ⟨lv, tu, nx, lo, sl⟩ = []) := (wn_no hc).1
    rw [hc] at k17
    go_enter Try.func19, Try.ntmps19
    go_wp2_with (first
      | (go_at_call 33; refine (k17.out _ HB.out).mono ?_; rintro e w1 ⟨rfl, hb1⟩))
    refine bodyPost_ret (results_tmp2 Try.results19 _ _ _) rfl ?_
    exact ⟨_, by rw [H1.out]; rfl, by rw [H2.out]; exact nil_rd _, bstep HB.out hb1⟩
  | true =>
    have hM := nnB_iff.1 hc
    have H1 : Hid (wnE ⟨lv, tu, nx, lo, sl⟩ = 0) := (wn_yes hc).2
    have H2 : Hid (wnL ⟨lv, tu, nx, lo, sl⟩ = imN ⟨lv, tu, nx, lo, sl⟩) := (wn_yes hc).1
    rw [hc] at k17
    have k24 : Hid (∀ W, Below w.heap.size w W → Calls Try.prog 34 #[.agg #[.int .i64 lv, .int .i64 tu, .int .i64 nx, .int .i64 lo, .slice a sl.length cap]] W fun e w' => e = .returned (.agg ((imN ⟨lv, tu, nx, lo, sl⟩).map (Value.int .i64)).toArray) ∧ Below W.heap.size W w') := fun W hb => image_node lv tu nx lo sl a cap W (HR.out.below hb) hM
    have l16 : (imN ⟨lv, tu, nx, lo, sl⟩).length = 16 := imN_length hM.len
    generalize imN ⟨lv, tu, nx, lo, sl⟩ = M at *
    have hs1 := hw_size l16
    have hs2 := hw_sizeL l16
    have ho := hw_one M
    have L16 : Hid (M.length = 16) := l16
    clear hM hc l16
    go_enter Try.func19, Try.ntmps19
    go_wp2_with (first
      | (go_at_call 33; refine (k17.out _ HB.out).mono ?_; rintro e w1 ⟨rfl, hb1⟩; have H3 : Hid (Below w.heap.size w w1) := bstep HB.out hb1; obtain ⟨x0, x1, x2, x3, x4⟩ := (HN.out.below hb1).c; clear hb1)
      | (go_at_call 34; refine (k24.out _ H3.out).mono ?_; rintro e w2 ⟨rfl, hb2⟩; have H4 : Hid (Below w.heap.size w w2) := bstep H3.out hb2; have Z := hz_new w2; have hlaid : Hid (((w2.alloc (.cells #[.int .i64 0, .int .i64 0, .int .i64 0, .int .i64 0, .int .i64 0, .int .i64 0, .int .i64 0, .int .i64 0, .int .i64 0, .int .i64 0, .int .i64 0, .int .i64 0, .int .i64 0, .int .i64 0, .int .i64 0, .int .i64 0] 61)).setCells w2.heap.size 0 (M.map (Value.int .i64))).rangeAt w2.heap.size 0 (M.map (Value.int .i64))) := Z.laid M (by rw [L16.out]; rfl); have hthere : (w2.alloc (.cells #[.int .i64 0, .int .i64 0, .int .i64 0, .int .i64 0, .int .i64 0, .int .i64 0, .int .i64 0, .int .i64 0, .int .i64 0, .int .i64 0, .int .i64 0, .int .i64 0, .int .i64 0, .int .i64 0, .int .i64 0, .int .i64 0] 61)).there w2.heap.size 0 (M.map (Value.int .i64)).toArray.size := (by have := Z.there; simpa [zeros16, L16.out] using this); have H5 : Hid (Below w.heap.size w ((w2.alloc (.cells #[.int .i64 0, .int .i64 0, .int .i64 0, .int .i64 0, .int .i64 0, .int .i64 0, .int .i64 0, .int .i64 0, .int .i64 0, .int .i64 0, .int .i64 0, .int .i64 0, .int .i64 0, .int .i64 0, .int .i64 0, .int .i64 0] 61)).setCells w2.heap.size 0 (M.map (Value.int .i64)))) := below_cells H4.out.size _ _ (H4.out.alloc H4.out.size _); clear Z hb2)
      | refine wpList_store_mid rfl 61 _ _ rfl w2.heap.size 0 (M.map (Value.int .i64)).toArray rfl rfl hthere hs1 ho ?_)
    refine bodyPost_ret (results_tmp2 Try.results19 _ _ _) rfl ?_
    exact ⟨_, by rw [H1.out]; rfl, by rw [H2.out]; exact range_rd hlaid.out L16.out, H5.out⟩
end Go.Proofs.Ytgcdhenbpkcmgaa
