/- Set over from a lower layer: Supa. -/
import Derived.Test.YtgcdhenbpkcmgaaBase
import Derived.Test.YtgcdhenbpkcmgaaNNodz
import Derived.Test.YtgcdhenbpkcmgaaSSumz
namespace Go.Proofs.Ytgcdhenbpkcmgaa
open Go.RowKit Go.Shelf
set_option linter.unusedVariables false
set_option maxRecDepth 100000 in
theorem mayBe_any (n r : Int) (w : World) : Calls Try.prog 35 #[.int .i64 n, .int .i64 r] w fun e w' => e = .returned (.bool (mbB n r)) ∧ w' = w := by
  by_cases h1 : n ≥ 2
  · by_cases h2 : n ≤ 256
    · by_cases h3 : r ≥ 1
      · by_cases h4 : r < n
        · have H : Hid (mbB n r = true) := mbB_yes ⟨h1, h2, h3, h4⟩
          go_enter Try.func35, Try.ntmps35
          go_wp2
          go_ret
          exact ⟨ret_bool H.out.symm, rfl⟩
        · have H : Hid (mbB n r = false) := mbB_no (by omega)
          go_enter Try.func35, Try.ntmps35
          go_wp2
          go_ret
          exact ⟨ret_bool H.out.symm, rfl⟩
      · have H : Hid (mbB n r = false) := mbB_no (by omega)
        go_enter Try.func35, Try.ntmps35
        go_wp2
        go_ret
        exact ⟨ret_bool H.out.symm, rfl⟩
    · have H : Hid (mbB n r = false) := mbB_no (by omega)
      go_enter Try.func35, Try.ntmps35
      go_wp2
      go_ret
      exact ⟨ret_bool H.out.symm, rfl⟩
  · have H : Hid (mbB n r = false) := mbB_no (by omega)
    go_enter Try.func35, Try.ntmps35
    go_wp2
    go_ret
    exact ⟨ret_bool H.out.symm, rfl⟩
theorem Shw_new (W : World) (L : List Int) : SHw (W.alloc (.cells (L.map (Value.int .i64)).toArray 68)) W.heap.size L := Go.heap_alloc_new _ _
theorem nb_fits {n : Int} (h : 2 ≤ n ∧ n ≤ 256) : Fits [7015, n] := by
  intro z hz
  simp at hz
  omega
theorem of_ck (n : Int) (v : Value) (w : World) (hR : Rd w v [7015, n]) (hF : Fits [7015, n]) : Calls Try.prog 57 #[v] w fun e w' => e = .returned (.int .i64 (ckN n)) ∧ Below w.heap.size w w' := by
  unfold ckN
  exact Sm.of_any v [7015, n] w (hR.sm hF)
set_option maxRecDepth 100000 in
set_option maxHeartbeats 1000000 in
theorem SheadOf_any (n r : Int) (w : World) (h : mbB n r = true) : Calls Try.prog 36 #[.int .i64 n, .int .i64 r] w fun e w' => e = .returned (.agg ((hdW n r).map (Value.int .i64)).toArray) ∧ Below w.heap.size w w' := by
  obtain ⟨h0, h1, h2, h3⟩ := mbB_iff.1 h
  have k28 : Hid (∀ (v : Value) (w : World), Rd w v [7015, n] → Calls Try.prog 57 #[v] w fun e w' => e = .returned (.int .i64 (ckN n)) ∧ Below w.heap.size w w') := fun v w hR => of_ck n v w hR (nb_fits ⟨h0, h1⟩)
  have H0 : Hid (SHw (w.alloc (.cells #[.int .i64 0, .int .i64 0, .int .i64 0, .int .i64 0, .int .i64 0, .int .i64 0, .int .i64 0, .int .i64 0, .int .i64 0, .int .i64 0, .int .i64 0, .int .i64 0, .int .i64 0, .int .i64 0, .int .i64 0, .int .i64 0] 68)) w.heap.size zeros16) := Shw_new w zeros16
  have HE : Hid (hdW n r = hdQ n (ckN n) r) := hdW_eq n r
  clear h
  have B0 : Hid (Below w.heap.size w (w.alloc (.cells #[.int .i64 0, .int .i64 0, .int .i64 0, .int .i64 0, .int .i64 0, .int .i64 0, .int .i64 0, .int .i64 0, .int .i64 0, .int .i64 0, .int .i64 0, .int .i64 0, .int .i64 0, .int .i64 0, .int .i64 0, .int .i64 0] 68))) := (Below.refl _ _).alloc (Nat.le_refl _) _
  generalize ckN n = q at *
  go_enter Try.func36, Try.ntmps36
  go_wp2_with (first
    | (go_at_call 57; refine (k28.out _ _ (rd_two _ 7015 n (by simp))).mono ?_; rintro e w1 ⟨rfl, hb1⟩; have hb2 := bstep ((Below.refl _ _).alloc (Nat.le_refl _) _) hb1; have H1 := H0.out.below hb2; have hthere : w1.there w.heap.size 0 ((hdQ n q r).map (Value.int .i64)).toArray.size := (by have := H1.there; simpa [zeros16, hdQ] using this); have hlaid := H1.laid (hdQ n q r) rfl; have B1 := bstep B0.out hb2)
    | (refine wpList_store_mid rfl 68 _ _ rfl w.heap.size 0 ((hdQ n q r).map (Value.int .i64)).toArray rfl rfl hthere (Shw_size rfl) (hw_one _) ?_))
  refine bodyPost_ret (v := .agg ((hdQ n q r).map (Value.int .i64)).toArray) ?_ rfl ⟨by rw [HE.out], Sm.below_setCells _ _ _ (by omega) B1⟩
  have := run_loadVar_mid (P := Try.prog) _ w.heap.size 0 68 ((hdQ n q r).map (Value.int .i64)) _ hlaid Try.underlying68 rfl (Shw_sizeL rfl)
  simp [results, Try.results36, asAddr, Act.put, this]
end Go.Proofs.Ytgcdhenbpkcmgaa
