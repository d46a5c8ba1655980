/- Set over from a lower layer: SSupa. · Set over from a lower layer: SSupc. -/
import Derived.Test.YtcgclhahonndbaaBase
import Derived.Test.YtcgclhahonndbaaNNodz
import Derived.Test.YtcgclhahonndbaaSSumz
import Derived.Test.YtcgclhahonndbaaNNodg
namespace Go.Proofs.Ytcgclhahonndbaa
open Go.RowKit Go.Shelf
set_option linter.unusedVariables false
set_option maxRecDepth 100000 in
theorem mayBe_any (n r : Int) (w : World) : Calls Try.prog 61 #[.int .i64 n, .int .i64 r] w fun e w' => e = .returned (.bool (mbB n r)) ∧ w' = w := by
  by_cases h1 : n ≥ 2
  · by_cases h2 : n ≤ 256
    · by_cases h3 : r ≥ 1
      · by_cases h4 : r < n
        · have H : Hid (mbB n r = true) := mbB_yes ⟨h1, h2, h3, h4⟩
          go_enter Try.func61, Try.ntmps61
          go_wp2
          go_ret
          exact ⟨ret_bool H.out.symm, rfl⟩
        · have H : Hid (mbB n r = false) := mbB_no (by omega)
          go_enter Try.func61, Try.ntmps61
          go_wp2
          go_ret
          exact ⟨ret_bool H.out.symm, rfl⟩
      · have H : Hid (mbB n r = false) := mbB_no (by omega)
        go_enter Try.func61, Try.ntmps61
        go_wp2
        go_ret
        exact ⟨ret_bool H.out.symm, rfl⟩
    · have H : Hid (mbB n r = false) := mbB_no (by omega)
      go_enter Try.func61, Try.ntmps61
      go_wp2
      go_ret
      exact ⟨ret_bool H.out.symm, rfl⟩
  · have H : Hid (mbB n r = false) := mbB_no (by omega)
    go_enter Try.func61, Try.ntmps61
    go_wp2
    go_ret
    exact ⟨ret_bool H.out.symm, rfl⟩
theorem Shw_new (W : World) (L : List Int) : SHw (W.alloc (.cells (L.map (Value.int .i64)).toArray 100)) W.heap.size L := Go.heap_alloc_new _ _
theorem nb_fits {n : Int} (h : 2 ≤ n ∧ n ≤ 256) : Fits [7015, n] := by
  intro z hz
  simp at hz
  omega
theorem of_ck (n : Int) (v : Value) (w : World) (hR : Rd w v [7015, n]) (hF : Fits [7015, n]) : Calls Try.prog 66 #[v] w fun e w' => e = .returned (.int .i64 (ckN n)) ∧ Below w.heap.size w w' := by
  unfold ckN
  exact Sm.of_any v [7015, n] w (hR.sm hF)
set_option maxRecDepth 100000 in
set_option maxHeartbeats 1000000 in
theorem SheadOf_any (n r : Int) (w : World) (h : mbB n r = true) : Calls Try.prog 62 #[.int .i64 n, .int .i64 r] w fun e w' => e = .returned (.agg ((hdW n r).map (Value.int .i64)).toArray) ∧ Below w.heap.size w w' := by
  obtain ⟨h0, h1, h2, h3⟩ := mbB_iff.1 h
  have k28 : Hid (∀ (v : Value) (w : World), Rd w v [7015, n] → Calls Try.prog 66 #[v] w fun e w' => e = .returned (.int .i64 (ckN n)) ∧ Below w.heap.size w w') := fun v w hR => of_ck n v w hR (nb_fits ⟨h0, h1⟩)
  have H0 : Hid (SHw (w.alloc (.cells #[.int .i64 0, .int .i64 0, .int .i64 0, .int .i64 0, .int .i64 0, .int .i64 0, .int .i64 0, .int .i64 0, .int .i64 0, .int .i64 0, .int .i64 0, .int .i64 0, .int .i64 0, .int .i64 0, .int .i64 0, .int .i64 0] 100)) w.heap.size zeros16) := Shw_new w zeros16
  have HE : Hid (hdW n r = hdQ n (ckN n) r) := hdW_eq n r
  clear h
  have B0 : Hid (Below w.heap.size w (w.alloc (.cells #[.int .i64 0, .int .i64 0, .int .i64 0, .int .i64 0, .int .i64 0, .int .i64 0, .int .i64 0, .int .i64 0, .int .i64 0, .int .i64 0, .int .i64 0, .int .i64 0, .int .i64 0, .int .i64 0, .int .i64 0, .int .i64 0] 100))) := (Below.refl _ _).alloc (Nat.le_refl _) _
  generalize ckN n = q at *
  go_enter Try.func62, Try.ntmps62
  go_wp2_with (first
    | (go_at_call 66; refine (k28.out _ _ (rd_two _ 7015 n (by simp))).mono ?_; rintro e w1 ⟨rfl, hb1⟩; have hb2 := bstep ((Below.refl _ _).alloc (Nat.le_refl _) _) hb1; have H1 := H0.out.below hb2; have hthere : w1.there w.heap.size 0 ((hdQ n q r).map (Value.int .i64)).toArray.size := (by have := H1.there; simpa [zeros16, hdQ] using this); have hlaid := H1.laid (hdQ n q r) rfl; have B1 := bstep B0.out hb2)
    | (refine wpList_store_mid rfl 100 _ _ rfl w.heap.size 0 ((hdQ n q r).map (Value.int .i64)).toArray rfl rfl hthere (Shw_size rfl) (hw_one _) ?_))
  refine bodyPost_ret (v := .agg ((hdQ n q r).map (Value.int .i64)).toArray) ?_ rfl ⟨by rw [HE.out], Sm.below_setCells _ _ _ (by omega) B1⟩
  have := run_loadVar_mid (P := Try.prog) _ w.heap.size 0 100 ((hdQ n q r).map (Value.int .i64)) _ hlaid Try.underlying100 rfl (Shw_sizeL rfl)
  simp [results, Try.results62, asAddr, Act.put, this]
end Go.Proofs.Ytcgclhahonndbaa
namespace Go.Proofs.Ytcgclhahonndbaa
open Go.RowKit Go.Shelf
set_option linter.unusedVariables false
/-- Numbers that came in are appended to own ones, in a region that draws. -/
theorem step_ints1 {ops : Array Oper} {o : Oper} {a : Act} {W : World} {K : Act → World → Prop} {Q : Exit → Act → World → Prop} {E : Prop} (hgd : o.guard = none) (s x : Operand)
    (ho : o.op = .call { callee := .builtin .append, args := #[s, x], argTypes := #[22, 22] }) (base g c : Nat) (l1 : List Int) (hs : a.eval s = .slice (some ⟨g, 0, none⟩) l1.length c) (hown : OwnI W base (.slice (some ⟨g, 0, none⟩) l1.length c) l1) (hn : l1.length ≤ 2000) (vx : Value) (l2 : List Int) (hx : a.eval x = vx) (hR : Rd W vx l2)
    (h : ∀ g' cap w', OwnI w' base (.slice (some ⟨g', 0, none⟩) (l1.length + l2.length) cap) (l1 ++ l2) → W.grownBy w' (some g) → K (a.put o.dst (.slice (some ⟨g', 0, none⟩) (l1.length + l2.length) cap)) w') :
    if Region.wanted o (yielded ops a.tmps) = true then Oper.wp Try.prog o a W K Q else E := by
  obtain ⟨i0, hi, hz0, hz1, hz2⟩ := info_parts Try.info3
  have hlt := (World.ownsRow.lt hown g rfl)
  obtain ⟨hl, hk, ad, cap, rfl, -, h3⟩ := hR
  have hw : Region.wanted o (yielded ops a.tmps) = true := by simp [Region.wanted, hgd]
  by_cases h0 : l2.length = 0
  · have : l2 = [] := List.eq_nil_of_length_eq_zero h0
    subst this
    have hown' : OwnI W base (.slice (some ⟨g, 0, none⟩) (l1.length + ([] : List Int).length) c) (l1 ++ []) := by rw [List.append_nil]; exact hown
    cases ad with
    | none =>
      have hc0 : cap = 0 := by
        rcases h3 with ⟨_, h⟩ | ⟨b', off, e, _⟩
        · exact h rfl
        · cases e
      subst hc0
      rw [if_pos hw]
      have hrun := run_append_owned_none (P := Try.prog) (w := W) base 22 o.type 3 i0 1 Try.underlying22 hi _ _ _ hown
      unfold Oper.wp
      have hx' : a.eval x = .slice none 0 0 := hx
      simp [execOp, ho, resolve, invoke, builtin, hs, hx', hrun, Result.andThen]
      exact h g c W hown' (World.grownBy.refl W _)
    | some p =>
      have hroom : l1.length + 0 ≤ c := by
        rcases hown.2 with ⟨e, _⟩ | ⟨g', cap', cur, e, _, _, hnc, _⟩
        · cases e
        · cases e; exact hnc
      refine step_append_room hgd s x 22 ho 3 i0 1 Try.underlying22 hi hz1 g 0 l1.length c hs p 0 cap [] hx (by simp) (by intro j u hu; simp at hu) (by simp) hroom (by intro j hj; simp at hj) ?_
      exact h g c W hown' (World.grownBy.refl W _)
  · rcases h3 with ⟨h4, _⟩ | ⟨b', off, rfl, hlt', hc⟩
    · exact absurd h4 h0
    · refine step_append_lies _ hgd s x 22 ho base 3 i0 _ 1 8 Try.underlying22 hi hz0 hz1 hz2 rfl (by decide) _ l1.length (l1.map (Value.int .i64)) hs hown ⟨b', off, none⟩ l2.length cap (l2.map (Value.int .i64)) hx hl (by intro j u hu; rw [Addr.add_lit]; exact hc j u hu) (ints_one l2) (by omega) (by unfold maxLen; omega) (by omega) (by omega) W.heap.size rfl ?_
      intro g' cap' w' r1 r2 r3 r4
      refine h g' cap' w' ?_ r2
      unfold OwnI
      rw [List.length_append, List.map_append]
      exact r1
theorem Srange_rd {W : World} {g : Nat} {L : List Int} (h : W.rangeAt g 0 (L.map (Value.int .i64))) (hg : g < W.heap.size) (off n c : Nat) (hn : off + n ≤ L.length) (hc : n ≤ c) (hl : n ≤ 1000) : Rd W (.slice (some ⟨g, off, none⟩) n c) ((L.drop off).take n) := by
  have e : ((L.drop off).take n).length = n := by simp; omega
  unfold Rd
  rw [e]
  refine ⟨by rw [List.length_map, e, Nat.mul_one], hl, some ⟨g, off, none⟩, c, rfl, hc, .inr ⟨g, off, rfl, hg, ?_⟩⟩
  intro j u hu
  rw [List.getElem?_map] at hu
  obtain ⟨z, hz, rfl⟩ := Option.map_eq_some_iff.1 hu
  have := h (off + j) (.int .i64 z) (by
    rw [List.getElem?_take] at hz
    split at hz
    · rw [List.getElem?_drop] at hz; rw [List.getElem?_map, hz]; rfl
    · cases hz)
  rwa [Nat.zero_add] at this
theorem range_cells {W : World} {g : Nat} {n q r : Int} (h : W.rangeAt g 0 ((hdQ n q r).map (Value.int .i64))) : W.cell? ⟨g, 0, none⟩ = some (.int .i64 7015) ∧ W.cell? ⟨g, 1, none⟩ = some (.int .i64 n) ∧ W.cell? ⟨g, 2, none⟩ = some (.int .i64 q) ∧ W.cell? ⟨g, 3, none⟩ = some (.int .i64 r) := by
  have h0 := h 0 _ rfl
  have h1 := h 1 _ rfl
  have h2 := h 2 _ rfl
  have h3 := h 3 _ rfl
  rw [Nat.zero_add] at h0 h1 h2 h3
  exact ⟨h0, h1, h2, h3⟩
theorem range_below {W W' : World} {g : Nat} {cs : List Value} (h : W.rangeAt g 0 cs) (hg : g < W.heap.size) (hb : Below W.heap.size W W') : W'.rangeAt g 0 cs := fun j v hv => (hb.cell (p := ⟨g, 0 + j, none⟩) hg).trans (h j v hv)
def HR (g : Nat) (n q r : Int) (W : World) : Prop := g < W.heap.size ∧ W.rangeAt g 0 ((hdQ n q r).map (Value.int .i64))
theorem HR.below {W W' : World} {g : Nat} {n q r : Int} (h : HR g n q r W) (hb : Below W.heap.size W W') : HR g n q r W' := ⟨Nat.lt_of_lt_of_le h.1 hb.size, range_below h.2 h.1 hb⟩
theorem HR.rest {W : World} {g : Nat} {n q r : Int} (h : HR g n q r W) : Rd W (.slice (some ⟨g, 4, none⟩) 12 12) [0, 0, 0, 0, 0, 0, 0, 0, 0, 0, 0, 0] := Srange_rd h.2 h.1 4 12 12 (Nat.le_refl 16) (Nat.le_refl _) (by omega)
set_option maxRecDepth 100000 in
set_option maxHeartbeats 2000000 in
theorem words_any (n r : Int) (w : World) : Calls Try.prog 42 #[.int .i64 n, .int .i64 r] w fun e w' => ∃ v, e = .returned (.tuple #[v, .int .i64 (wdE n r)]) ∧ Rd w' v (wdL n r) ∧ Below w.heap.size w w' := by
  cases hc : mbB n r with
  | false =>
    have H1 : Hid (wdE n r = 1) := (wd_no hc).2
    have H2 : Hid (wdL n r = []) := (wd_no hc).1
    go_enter Try.func42, Try.ntmps42
    go_wp2_with (go_at_call 61; refine (mayBe_any n r _).mono ?_; rintro e w1 ⟨rfl, hw⟩; rw [hw, hc]; clear hw w1)
    refine bodyPost_ret (results_tmp2 Try.results42 _ _ _) rfl ?_
    exact ⟨_, by rw [H1.out]; rfl, by rw [H2.out]; exact nil_rd _, Below.refl _ _⟩
  | true =>
    have H1 : Hid (wdE n r = 0) := (wd_yes hc).2
    have H2 : Hid (wdL n r = hdQ n (ckN n) r) := show _ = _ by rw [(wd_yes hc).1, hdW_eq]
    have k19 : Hid (∀ w, Calls Try.prog 62 #[.int .i64 n, .int .i64 r] w fun e w' => e = .returned (.agg ((hdQ n (ckN n) r).map (Value.int .i64)).toArray) ∧ Below w.heap.size w w') := fun w => by have := SheadOf_any n r w hc; rwa [hdW_eq] at this
    generalize ckN n = q at *
    obtain ⟨M, hM⟩ : ∃ M, M = hdQ n q r := ⟨_, rfl⟩
    rw [← hM] at k19
    have l16 : M.length = 16 := by rw [hM]; rfl
    have HM : Hid (M = hdQ n q r) := hM
    have hs1 := Shw_size l16
    have ho := hw_one M
    clear hM
    go_enter Try.func42, Try.ntmps42
    go_wp2_with (first
      | (go_at_call 61; refine (mayBe_any n r _).mono ?_; rintro e w1 ⟨rfl, hw⟩; rw [hw, hc]; clear hw w1)
      | (go_at_call 62; refine (k19.out _).mono ?_; rintro e w1 ⟨rfl, hb1⟩; have Z1 := Shw_new w1 zeros16; have ht := Z1.there; have hthere : (w1.alloc (.cells #[.int .i64 0, .int .i64 0, .int .i64 0, .int .i64 0, .int .i64 0, .int .i64 0, .int .i64 0, .int .i64 0, .int .i64 0, .int .i64 0, .int .i64 0, .int .i64 0, .int .i64 0, .int .i64 0, .int .i64 0, .int .i64 0] 100)).there w1.heap.size 0 (M.map (Value.int .i64)).toArray.size := (by have e : (M.map (Value.int .i64)).toArray.size = 16 := (by rw [List.size_toArray, List.length_map, l16]); rw [e]; exact ht))
      | (refine wpList_store_mid rfl 100 _ _ rfl w1.heap.size 0 (M.map (Value.int .i64)).toArray rfl rfl hthere hs1 ho ?_))
    have hlaid := Z1.laid M (by rw [l16]; rfl)
    have B1 : Below w.heap.size w ((w1.alloc (.cells #[.int .i64 0, .int .i64 0, .int .i64 0, .int .i64 0, .int .i64 0, .int .i64 0, .int .i64 0, .int .i64 0, .int .i64 0, .int .i64 0, .int .i64 0, .int .i64 0, .int .i64 0, .int .i64 0, .int .i64 0, .int .i64 0] 100)).setCells w1.heap.size 0 (M.map (Value.int .i64))) := Sm.below_setCells _ _ _ hb1.size (hb1.alloc hb1.size _)
    have hg : w1.heap.size < ((w1.alloc (.cells #[.int .i64 0, .int .i64 0, .int .i64 0, .int .i64 0, .int .i64 0, .int .i64 0, .int .i64 0, .int .i64 0, .int .i64 0, .int .i64 0, .int .i64 0, .int .i64 0, .int .i64 0, .int .i64 0, .int .i64 0, .int .i64 0] 100)).setCells w1.heap.size 0 (M.map (Value.int .i64))).heap.size := World.block_lt_of_cell? _ _ (hlaid 0 (.int .i64 7015) (by rw [HM.out]; rfl))
    have hz : w.heap.size ≤ w1.heap.size := hb1.size
    have HH : Hid (HR w1.heap.size n q r ((w1.alloc (.cells #[.int .i64 0, .int .i64 0, .int .i64 0, .int .i64 0, .int .i64 0, .int .i64 0, .int .i64 0, .int .i64 0, .int .i64 0, .int .i64 0, .int .i64 0, .int .i64 0, .int .i64 0, .int .i64 0, .int .i64 0, .int .i64 0] 100)).setCells w1.heap.size 0 (M.map (Value.int .i64)))) := show HR _ _ _ _ _ from ⟨hg, by rw [HM.out] at hlaid; rw [HM.out]; exact hlaid⟩
    clear Z1 ht hthere hlaid hg k19 hs1 ho l16
    generalize World.setCells _ _ _ _ = W at *
    generalize w1.heap.size = g at *
    clear HM hb1
    have B1 : Hid (Below w.heap.size w W) := B1
    go_region_held3 (fun W2 => W2.cell? ⟨g, 0, none⟩ = some (.int .i64 7015) ∧ W2.cell? ⟨g, 1, none⟩ = some (.int .i64 n) ∧ W2.cell? ⟨g, 2, none⟩ = some (.int .i64 q) ∧ W2.cell? ⟨g, 3, none⟩ = some (.int .i64 r))
      (first | exact range_cells (HH.out.below (Below.refl _ _).drew).2 | exact range_cells (HH.out.below ((Below.refl _ _).alloc (Nat.le_refl _) _).drew).2 | exact S2.out)
      (first | (refine step_ints1 rfl (.tmp 22) (.tmp 24) rfl W.heap.size W.heap.size 4 [7015, n, q, r] rfl (ownI_below (own_lit [7015, n, q, r] rfl (Nat.le_refl _) (by simp)) (Below.refl _ _).drew) (by simp) _ [0, 0, 0, 0, 0, 0, 0, 0, 0, 0, 0, 0] rfl (HH.out.below ((Below.refl _ _).alloc (Nat.le_refl _) _).drew).rest ?_; intro g' cap w2 o2 g2; have hb2 : Below W.heap.size W w2 := (((Below.refl W.heap.size W).alloc (Nat.le_refl _) _).drew).grown g2 (by simp) (fun k hk => (by cases hk; exact Nat.le_refl _)); have S2 : Hid (w2.cell? ⟨g, 0, none⟩ = some (.int .i64 7015) ∧ w2.cell? ⟨g, 1, none⟩ = some (.int .i64 n) ∧ w2.cell? ⟨g, 2, none⟩ = some (.int .i64 q) ∧ w2.cell? ⟨g, 3, none⟩ = some (.int .i64 r)) := range_cells (HH.out.below hb2).2))
    have o3 : OwnI w2 W.heap.size (.slice (some ⟨g', 0, none⟩) 16 cap) (hdQ n q r) := o2
    have B3 := bstep B1.out hb2
    clear S2 o2 g2 hb2 HH B1
    go_wp2
    refine bodyPost_ret (results_tmp2 Try.results42 _ _ _) rfl ?_
    exact ⟨_, by rw [H1.out]; rfl, by rw [H2.out]; exact o3.rd (show 16 ≤ 1000 by decide), B3⟩
end Go.Proofs.Ytcgclhahonndbaa
