/- Set over from a lower layer: SSupc. · Set over from a lower layer: RKeywalkc. -/
import Derived.Test.YtcgclhahonndbaaGreatBase
import Derived.Test.YtcgclhahonndbaaGreatSSupa
import Derived.Test.YtcgclhahonndbaaGreatNNodz
import Derived.Test.YtcgclhahonndbaaGreatSSumz
import Derived.Test.YtcgclhahonndbaaGreatRKeywalka
import Derived.Test.YtcgclhahonndbaaGreatNNumz
namespace Go.Proofs.YtcgclhahonndbaaGreat
open Go.RowKit Go.Shelf
set_option linter.unusedVariables false
/-- Numbers that came in are appended to own ones, in a region that draws. -/
theorem step_ints1 {ops : Array Oper} {o : Oper} {a : Act} {W : World} {K : Act → World → Prop} {Q : Exit → Act → World → Prop} {E : Prop} (hgd : o.guard = none) (s x : Operand)
    (ho : o.op = .call { callee := .builtin .append, args := #[s, x], argTypes := #[22, 22] }) (base g c : Nat) (l1 : List Int) (hs : a.eval s = .slice (some ⟨g, 0, none⟩) l1.length c) (hown : OwnI W base (.slice (some ⟨g, 0, none⟩) l1.length c) l1) (hn : l1.length ≤ 2000) (vx : Value) (l2 : List Int) (hx : a.eval x = vx) (hR : Rd W vx l2)
    (h : ∀ g' cap w', OwnI w' base (.slice (some ⟨g', 0, none⟩) (l1.length + l2.length) cap) (l1 ++ l2) → W.grownBy w' (some g) → K (a.put o.dst (.slice (some ⟨g', 0, none⟩) (l1.length + l2.length) cap)) w') :
    if Region.wanted o (yielded ops a.tmps) = true then Oper.wp Tryz.prog o a W K Q else E := by
  obtain ⟨i0, hi, hz0, hz1, hz2⟩ := info_parts Tryz.info3
  have hlt := (World.ownsRow.lt hown g rfl)
  obtain ⟨hl, hk, ad, cap, rfl, -, h3⟩ := hR
  have hw : Region.wanted o (yielded ops a.tmps) = true := by simp [Region.wanted, hgd]
  by_cases h0 : l2.length = 0
  · have : l2 = [] := List.eq_nil_of_length_eq_zero h0
    subst this
    have hown' : OwnI W base (.slice (some ⟨g, 0, none⟩) (l1.length + ([] : List Int).length) c) (l1 ++ []) := by rw [List.append_nil]; exact hown
    cases ad with
    | none =>
      have hc0 : cap = 0 := by
        rcases h3 with ⟨_, h⟩ | ⟨b', off, e, _⟩
        · exact h rfl
        · cases e
      subst hc0
      rw [if_pos hw]
      have hrun := run_append_owned_none (P := Tryz.prog) (w := W) base 22 o.type 3 i0 1 Tryz.underlying22 hi _ _ _ hown
      unfold Oper.wp
      have hx' : a.eval x = .slice none 0 0 := hx
      simp [execOp, ho, resolve, invoke, builtin, hs, hx', hrun, Result.andThen]
      exact h g c W hown' (World.grownBy.refl W _)
    | some p =>
      have hroom : l1.length + 0 ≤ c := by
        rcases hown.2 with ⟨e, _⟩ | ⟨g', cap', cur, e, _, _, hnc, _⟩
        · cases e
        · cases e; exact hnc
      refine step_append_room hgd s x 22 ho 3 i0 1 Tryz.underlying22 hi hz1 g 0 l1.length c hs p 0 cap [] hx (by simp) (by intro j u hu; simp at hu) (by simp) hroom (by intro j hj; simp at hj) ?_
      exact h g c W hown' (World.grownBy.refl W _)
  · rcases h3 with ⟨h4, _⟩ | ⟨b', off, rfl, hlt', hc⟩
    · exact absurd h4 h0
    · refine step_append_lies _ hgd s x 22 ho base 3 i0 _ 1 8 Tryz.underlying22 hi hz0 hz1 hz2 rfl (by decide) _ l1.length (l1.map (Value.int .i64)) hs hown ⟨b', off, none⟩ l2.length cap (l2.map (Value.int .i64)) hx hl (by intro j u hu; rw [Addr.add_lit]; exact hc j u hu) (ints_one l2) (by omega) (by unfold maxLen; omega) (by omega) (by omega) W.heap.size rfl ?_
      intro g' cap' w' r1 r2 r3 r4
      refine h g' cap' w' ?_ r2
      unfold OwnI
      rw [List.length_append, List.map_append]
      exact r1
theorem Srange_rd {W : World} {g : Nat} {L : List Int} (h : W.rangeAt g 0 (L.map (Value.int .i64))) (hg : g < W.heap.size) (off n c : Nat) (hn : off + n ≤ L.length) (hc : n ≤ c) (hl : n ≤ 1000) : Rd W (.slice (some ⟨g, off, none⟩) n c) ((L.drop off).take n) := by
  have e : ((L.drop off).take n).length = n := by simp; omega
  unfold Rd
  rw [e]
  refine ⟨by rw [List.length_map, e, Nat.mul_one], hl, some ⟨g, off, none⟩, c, rfl, hc, .inr ⟨g, off, rfl, hg, ?_⟩⟩
  intro j u hu
  rw [List.getElem?_map] at hu
  obtain ⟨z, hz, rfl⟩ := Option.map_eq_some_iff.1 hu
  have := h (off + j) (.int .i64 z) (by
    rw [List.getElem?_take] at hz
    split at hz
    · rw [List.getElem?_drop] at hz; rw [List.getElem?_map, hz]; rfl
    · cases hz)
  rwa [Nat.zero_add] at this
theorem range_cells {W : World} {g : Nat} {n q r : Int} (h : W.rangeAt g 0 ((hdQ n q r).map (Value.int .i64))) : W.cell? ⟨g, 0, none⟩ = some (.int .i64 7015) ∧ W.cell? ⟨g, 1, none⟩ = some (.int .i64 n) ∧ W.cell? ⟨g, 2, none⟩ = some (.int .i64 q) ∧ W.cell? ⟨g, 3, none⟩ = some (.int .i64 r) := by
  have h0 := h 0 _ rfl
  have h1 := h 1 _ rfl
  have h2 := h 2 _ rfl
  have h3 := h 3 _ rfl
  rw [Nat.zero_add] at h0 h1 h2 h3
  exact ⟨h0, h1, h2, h3⟩
theorem range_below {W W' : World} {g : Nat} {cs : List Value} (h : W.rangeAt g 0 cs) (hg : g < W.heap.size) (hb : Below W.heap.size W W') : W'.rangeAt g 0 cs := fun j v hv => (hb.cell (p := ⟨g, 0 + j, none⟩) hg).trans (h j v hv)
def HR (g : Nat) (n q r : Int) (W : World) : Prop := g < W.heap.size ∧ W.rangeAt g 0 ((hdQ n q r).map (Value.int .i64))
theorem HR.below {W W' : World} {g : Nat} {n q r : Int} (h : HR g n q r W) (hb : Below W.heap.size W W') : HR g n q r W' := ⟨Nat.lt_of_lt_of_le h.1 hb.size, range_below h.2 h.1 hb⟩
theorem HR.rest {W : World} {g : Nat} {n q r : Int} (h : HR g n q r W) : Rd W (.slice (some ⟨g, 4, none⟩) 12 12) [0, 0, 0, 0, 0, 0, 0, 0, 0, 0, 0, 0] := Srange_rd h.2 h.1 4 12 12 (Nat.le_refl 16) (Nat.le_refl _) (by omega)
set_option maxRecDepth 100000 in
set_option maxHeartbeats 2000000 in
theorem words_any (n r : Int) (w : World) : Calls Tryz.prog 35 #[.int .i64 n, .int .i64 r] w fun e w' => ∃ v, e = .returned (.tuple #[v, .int .i64 (wdE n r)]) ∧ Rd w' v (wdL n r) ∧ Below w.heap.size w w' := by
  cases hc : mbB n r with
  | false =>
    have H1 : Hid (wdE n r = 1) := (wd_no hc).2
    have H2 : Hid (wdL n r = []) := (wd_no hc).1
    go_enter Tryz.func35, Tryz.ntmps35
    go_wp2_with (go_at_call 52; refine (mayBe_any n r _).mono ?_; rintro e w1 ⟨rfl, hw⟩; rw [hw, hc]; clear hw w1)
    refine bodyPost_ret (results_tmp2 Tryz.results35 _ _ _) rfl ?_
    exact ⟨_, by rw [H1.out]; rfl, by rw [H2.out]; exact nil_rd _, Below.refl _ _⟩
  | true =>
    have H1 : Hid (wdE n r = 0) := (wd_yes hc).2
    have H2 : Hid (wdL n r = hdQ n (ckN n) r) := show _ = _ by rw [(wd_yes hc).1, hdW_eq]
    have k19 : Hid (∀ w, Calls Tryz.prog 53 #[.int .i64 n, .int .i64 r] w fun e w' => e = .returned (.agg ((hdQ n (ckN n) r).map (Value.int .i64)).toArray) ∧ Below w.heap.size w w') := fun w => by have := SheadOf_any n r w hc; rwa [hdW_eq] at this
    generalize ckN n = q at *
    obtain ⟨M, hM⟩ : ∃ M, M = hdQ n q r := ⟨_, rfl⟩
    rw [← hM] at k19
    have l16 : M.length = 16 := by rw [hM]; rfl
    have HM : Hid (M = hdQ n q r) := hM
    have hs1 := Shw_size l16
    have ho := hw_one M
    clear hM
    go_enter Tryz.func35, Tryz.ntmps35
    go_wp2_with (first
      | (go_at_call 52; refine (mayBe_any n r _).mono ?_; rintro e w1 ⟨rfl, hw⟩; rw [hw, hc]; clear hw w1)
      | (go_at_call 53; refine (k19.out _).mono ?_; rintro e w1 ⟨rfl, hb1⟩; have Z1 := Shw_new w1 zeros16; have ht := Z1.there; have hthere : (w1.alloc (.cells #[.int .i64 0, .int .i64 0, .int .i64 0, .int .i64 0, .int .i64 0, .int .i64 0, .int .i64 0, .int .i64 0, .int .i64 0, .int .i64 0, .int .i64 0, .int .i64 0, .int .i64 0, .int .i64 0, .int .i64 0, .int .i64 0] 83)).there w1.heap.size 0 (M.map (Value.int .i64)).toArray.size := (by have e : (M.map (Value.int .i64)).toArray.size = 16 := (by rw [List.size_toArray, List.length_map, l16]); rw [e]; exact ht))
      | (refine wpList_store_mid rfl 83 _ _ rfl w1.heap.size 0 (M.map (Value.int .i64)).toArray rfl rfl hthere hs1 ho ?_))
    have hlaid := Z1.laid M (by rw [l16]; rfl)
    have B1 : Below w.heap.size w ((w1.alloc (.cells #[.int .i64 0, .int .i64 0, .int .i64 0, .int .i64 0, .int .i64 0, .int .i64 0, .int .i64 0, .int .i64 0, .int .i64 0, .int .i64 0, .int .i64 0, .int .i64 0, .int .i64 0, .int .i64 0, .int .i64 0, .int .i64 0] 83)).setCells w1.heap.size 0 (M.map (Value.int .i64))) := Sm.below_setCells _ _ _ hb1.size (hb1.alloc hb1.size _)
    have hg : w1.heap.size < ((w1.alloc (.cells #[.int .i64 0, .int .i64 0, .int .i64 0, .int .i64 0, .int .i64 0, .int .i64 0, .int .i64 0, .int .i64 0, .int .i64 0, .int .i64 0, .int .i64 0, .int .i64 0, .int .i64 0, .int .i64 0, .int .i64 0, .int .i64 0] 83)).setCells w1.heap.size 0 (M.map (Value.int .i64))).heap.size := World.block_lt_of_cell? _ _ (hlaid 0 (.int .i64 7015) (by rw [HM.out]; rfl))
    have hz : w.heap.size ≤ w1.heap.size := hb1.size
    have HH : Hid (HR w1.heap.size n q r ((w1.alloc (.cells #[.int .i64 0, .int .i64 0, .int .i64 0, .int .i64 0, .int .i64 0, .int .i64 0, .int .i64 0, .int .i64 0, .int .i64 0, .int .i64 0, .int .i64 0, .int .i64 0, .int .i64 0, .int .i64 0, .int .i64 0, .int .i64 0] 83)).setCells w1.heap.size 0 (M.map (Value.int .i64)))) := show HR _ _ _ _ _ from ⟨hg, by rw [HM.out] at hlaid; rw [HM.out]; exact hlaid⟩
    clear Z1 ht hthere hlaid hg k19 hs1 ho l16
    generalize World.setCells _ _ _ _ = W at *
    generalize w1.heap.size = g at *
    clear HM hb1
    have B1 : Hid (Below w.heap.size w W) := B1
    go_region_held3 (fun W2 => W2.cell? ⟨g, 0, none⟩ = some (.int .i64 7015) ∧ W2.cell? ⟨g, 1, none⟩ = some (.int .i64 n) ∧ W2.cell? ⟨g, 2, none⟩ = some (.int .i64 q) ∧ W2.cell? ⟨g, 3, none⟩ = some (.int .i64 r))
      (first | exact range_cells (HH.out.below (Below.refl _ _).drew).2 | exact range_cells (HH.out.below ((Below.refl _ _).alloc (Nat.le_refl _) _).drew).2 | exact S2.out)
      (first | (refine step_ints1 rfl (.tmp 22) (.tmp 24) rfl W.heap.size W.heap.size 4 [7015, n, q, r] rfl (ownI_below (own_lit [7015, n, q, r] rfl (Nat.le_refl _) (by simp)) (Below.refl _ _).drew) (by simp) _ [0, 0, 0, 0, 0, 0, 0, 0, 0, 0, 0, 0] rfl (HH.out.below ((Below.refl _ _).alloc (Nat.le_refl _) _).drew).rest ?_; intro g' cap w2 o2 g2; have hb2 : Below W.heap.size W w2 := (((Below.refl W.heap.size W).alloc (Nat.le_refl _) _).drew).grown g2 (by simp) (fun k hk => (by cases hk; exact Nat.le_refl _)); have S2 : Hid (w2.cell? ⟨g, 0, none⟩ = some (.int .i64 7015) ∧ w2.cell? ⟨g, 1, none⟩ = some (.int .i64 n) ∧ w2.cell? ⟨g, 2, none⟩ = some (.int .i64 q) ∧ w2.cell? ⟨g, 3, none⟩ = some (.int .i64 r)) := range_cells (HH.out.below hb2).2))
    have o3 : OwnI w2 W.heap.size (.slice (some ⟨g', 0, none⟩) 16 cap) (hdQ n q r) := o2
    have B3 := bstep B1.out hb2
    clear S2 o2 g2 hb2 HH B1
    go_wp2
    refine bodyPost_ret (results_tmp2 Tryz.results35 _ _ _) rfl ?_
    exact ⟨_, by rw [H1.out]; rfl, by rw [H2.out]; exact o3.rd (show 16 ≤ 1000 by decide), B3⟩
end Go.Proofs.YtcgclhahonndbaaGreat
namespace Go.Proofs.YtcgclhahonndbaaGreat.Ky
open Go.RowKit Go.Shelf
attribute [local go_sem] Oper.semAt_some
/-- 'append', kept shut, so that a run's equation meets it. -/
def appS (ats : Array TypeId) (ty : TypeId) (args : Array Value) : Sem Value := Builtin.append_ ats ty args
theorem appS_eq (ats : Array TypeId) (ty : TypeId) (args : Array Value) : Builtin.append_ ats ty args = appS ats ty args := rfl
theorem Tryz.info3 : (Tryz.prog.info? 3).map (fun i => (i.zero, i.size, i.bytes)) = some (some (.int .i64 0), 1, 8) := by kernel_rfl
theorem Tryz.info5 : (Tryz.prog.info? 5).map (fun i => (i.zero, i.size, i.bytes)) = some (some (.int .u8 0), 1, 1) := by kernel_rfl
/-- 'make([]int, 0, c)'. -/
theorem make_ints (c : Nat) (h : c ≤ 1000) (w : World) : (Instr.makeSlice 22 (.int .i64 0) (.int .i64 (c : Int))).run Tryz.prog w = .ok (.slice (some ⟨w.heap.size, 0, none⟩) 0 c) (w.alloc (.cells (madeCells #[.int .i64 0] c) 3)) := by
  obtain ⟨i0, hi, hz0, hz1, hz2⟩ := info_parts Tryz.info3
  have := run_make (P := Tryz.prog) w 22 3 i0 (.int .i64 0) Tryz.underlying22 hi hz0 .i64 .i64 0 c (Int.le_refl _) (by omega) (by rw [hz2]; omega) (by omega)
  simpa [hz1, Value.cells] using this
attribute [local go_sem ↓] appS_eq
set_option maxRecDepth 100000 in
set_option maxHeartbeats 2000000 in
theorem words_own (s : ByteArray) (w : World) (hs : s.size ≤ 7000) :
    Calls Tryz.prog 56 #[.string s] w fun e w' => ∃ v, e = .returned v ∧ w'.ownsRow w.heap.size 3 1 v (nW s.size) ((wsl s.data.toList).map (Value.int .i64)) ∧ Below w.heap.size w w' := by
  obtain ⟨i0, hi, hz0, hz1, hz2⟩ := info_parts Tryz.info3
  have hn : nW s.size ≤ 1000 := by unfold nW; omega
  have hmk := make_ints (nW s.size) hn
  obtain ⟨n, hn5⟩ : ∃ n, 5 ≤ n := ⟨5, by omega⟩
  have hro : Fence.wide.round = none := rfl
  have h1 : 1 ≤ n := by omega
  have h2 : 1 ≤ n - 1 := by omega
  refine (callsIn_wide (n := n)).1 ?_
  refine callsIn_of_wp_marks Tryz.func56 rfl trivial ?_ rfl
  simp only [Tryz.ntmps56, List.size_toArray, List.length_cons, List.length_nil, Nat.reduceAdd, Nat.reduceSub, Array.replicate_succ, Array.replicate_zero, List.push_toArray, List.append_toArray, List.nil_append, List.cons_append]
  gi_wp2_with (first
    | (refine ⟨trivial, ?_⟩; gi_at_call 78; refine (callsIn_wide.2 (count_any _ _ (by omega) (by omega))).mono ?_; rintro e w' ⟨rfl, hw⟩; rw [hw]; clear hw w')
    | (refine ⟨trivial, ?_⟩; gi_at_call 79; refine (pieces_in _ _ trivial rfl _ _).mono ?_; rintro e w' ⟨rfl, rfl⟩))
  have bO := Boxed.new (w.alloc (.cells (madeCells #[.int .i64 0] (nW s.size)) 3)) 22 (.slice (some ⟨w.heap.size, 0, none⟩) 0 (nW s.size))
  have bN := Boxed.new ((w.alloc (.cells (madeCells #[.int .i64 0] (nW s.size)) 3)).alloc (.cells #[.slice (some ⟨w.heap.size, 0, none⟩) 0 (nW s.size)] 22)) 9 (.string s)
  have oR := World.ownsRow_made (base := w.heap.size) (e := 3) (size := 1) w (madeCells #[.int .i64 0] (nW s.size)) (nW s.size) (Nat.le_refl _) (by unfold maxLen; omega) (by rw [size_madeCells]; omega)
  rw [World.size_alloc] at bO
  rw [World.size_alloc, World.size_alloc] at bN
  have hB0 : Below w.heap.size w (((w.alloc (.cells (madeCells #[.int .i64 0] (nW s.size)) 3)).alloc (.cells #[.slice (some ⟨w.heap.size, 0, none⟩) 0 (nW s.size)] 22)).alloc (.cells #[.string s] 9)) := (((Below.refl _ w).alloc (Nat.le_refl _) _).alloc (by simp) _).alloc (by simp; omega) _
  refine wpIn_rangeFunc_ownG hro h1 (gf := 108) (lb := #[.pointer (some ⟨w.heap.size + 1 + 1, 0, none⟩)]) rfl trivial (enters_of Tryz.func108 (by kernel_rfl) rfl)
    (pieces_stops Fence.wide (n - 1) trivial hro (by omega) (w.heap.size + 1 + 1) w.heap.size s _ (by simp) bN.cell) belowK_t (belowK_b (by simp; omega)) (Below.refl _ _) (fun _ => rfl)
    (fun (pre : List ByteArray) W => (∃ v, Boxed W (w.heap.size + 1) 22 v ∧ W.ownsRow w.heap.size 3 1 v pre.length ((pre.map wP).map (Value.int .i64)) ∧ True) ∧ Below w.heap.size w W)
    (fun _ _ _ => False)
    (OwnFrom.and (Own.from (holdsRow_own w.heap.size (w.heap.size + 1) 22 3 1 (fun (pre : List ByteArray) => pre.length) (fun pre => (pre.map wP).map (Value.int .i64)) (fun _ _ => True)) _) (ownFrom_below (Nat.le_refl _) (by simp; omega)))
    (fun _ _ _ _ _ hs _ _ => hs)
    ⟨⟨_, bO.alloc _, (oR.alloc _).alloc _, trivial⟩, hB0⟩
    (fun x => { tmps := #[.string s, undef, .slice none 0 0, .pointer (some ⟨w.heap.size + 1, 0, none⟩), .string x, .string s, .int .i64 s.size, .int .i64 (nW s.size), .slice (some ⟨w.heap.size, 0, none⟩) 0 (nW s.size), .string s, .func (.func 108) #[] #[.pointer (some ⟨w.heap.size + 1 + 1, 0, none⟩)], .string x, undef, undef, undef, undef, undef, undef], defers := [] }) ?assign ?body ?done ?stop
  case assign =>
    intro l x W K hK
    gi_wp2
    exact hK
  case body =>
    rintro l pre x W ⟨⟨v, hv, hrow, _⟩, hB⟩ hlt
    have hc := hv.cell
    have hmx : Tryz.prog.follows .mixedOrders = true := by kernel_rfl
    have hd : 1 ≤ n - 1 - 1 := by omega
    have hrd : (W.alloc (.cells #[.int .i64 (wP x)] 3)).drew.ownsRow w.heap.size 3 1 v pre.length ((pre.map wP).map (Value.int .i64)) := hrow.alloc _
    obtain ⟨v', w1, hrun, hown', hgrow', _⟩ := run_append_own (P := Tryz.prog) (W.alloc (.cells #[.int .i64 (wP x)] 3)).drew w.heap.size 22 22 3 i0 (.int .i64 0) 1 8 Tryz.underlying22 hi hz0 hz1 hz2 rfl (by decide) v _ _ hrd
      ⟨W.heap.size, 0, none⟩ 1 1 [.int .i64 (wP x)] rfl (cell_one_new W _ _) (by simp [Value.oneCell']) (by unfold maxLen; omega) (by omega) (by have := hB.size; simp; omega)
    have hgrow : (W.alloc (.cells #[.int .i64 (wP x)] 3)).grownBy w1 v.ownBlock := ⟨hgrow'.os, hgrow'.tape, hgrow'.output, hgrow'.size, hgrow'.block⟩
    obtain ⟨g', cap', rfl⟩ := ownsRow_succ hown'
    obtain ⟨hv1, hv2, hr2, hk2, hb2⟩ := hv.appended (by decide) hrow hB.size (by omega) hown' hgrow
    have hc1 := hv1.cell
    have hf1 := hv1.frozen
    have hrunS : (appS #[22, 22] 22 #[v, .slice (some ⟨W.heap.size, 0, none⟩) 1 1]).run Tryz.prog (W.alloc (.cells #[.int .i64 (wP x)] 3)).drew = .ok (.slice (some ⟨g', 0, none⟩) (pre.length + 1) cap') w1 := hrun
    clear hrun
    have hlt' := hv.lt
    have hcA := (hv.alloc (.cells #[.int .i64 (wP x)] 3)).cell
    gi_wp2
    gi_region_with_o (refine ⟨trivial, ?_⟩; gi_at_call 80; refine (CallsIn.inRound l (callsIn_wide.2 (word_any _ _))).mono ?_; rintro e w' ⟨rfl, rfl⟩)
    all_goals gi_wp2
    all_goals exact ⟨hk2.from _, hb2, ⟨_, hv2, by simpa using hr2, trivial⟩, hB.trans hb2⟩
  case done =>
    rintro D ys W hD rfl ⟨⟨v, hv, hrow, _⟩, hB⟩ hK
    have hc := hv.cell
    gi_wp2
    refine ⟨by simp, .inl ⟨_, _, rfl, run_takeDeferred hK, ?_⟩⟩
    rw [words_pUp, pUp_length] at hrow
    exact ⟨_, results_tmp rfl _ _ _, v, rfl, ownsRow_putObj hrow _ hK rfl, hB.trans (belowK_b (w := w) (Nat.le_refl _) W D _ _ (by simp at hD; omega) hK rfl rfl)⟩
  case stop =>
    rintro D c pre W _ _ h _
    exact h.elim
end Go.Proofs.YtcgclhahonndbaaGreat.Ky
namespace Go.Proofs.YtcgclhahonndbaaGreat.Ky
open Go.RowKit
/-- What a call's own row holds is read. -/
theorem Rd.of_own {W : World} {base : Nat} {v : Value} {n : Nat} {zs : List Int} (h : W.ownsRow base 3 1 v n (zs.map (Value.int .i64))) (hb : ∀ z ∈ zs, -9223372036854775808 ≤ z ∧ z < 9223372036854775808) (hl : zs.length ≤ 1000) : Rd W v zs := by
  have hc := h
  have hn : zs.length = n := by simpa using h.1
  subst hn
  refine ⟨hb, hl, ?_⟩
  rcases h.2 with ⟨rfl, h0⟩ | ⟨g, cap, cur, rfl, _, hg, _⟩
  · have e : zs = [] := List.eq_nil_of_length_eq_zero h0
    subst e
    exact ⟨none, 0, rfl, .inl rfl⟩
  · refine ⟨some ⟨g, 0, none⟩, cap, rfl, .inr ⟨g, 0, rfl, (Array.getElem?_eq_some_iff.1 hg).1, ?_⟩⟩
    intro j hj
    have := hc.cells rfl j (.int .i64 (zs[j]?.getD 0)) (by simp [List.getElem?_eq_getElem hj])
    rwa [Addr.add_lit] at this
theorem wsl_bd (l : List UInt8) : ∀ z ∈ wsl l, -9223372036854775808 ≤ z ∧ z < 9223372036854775808 := by
  intro z hz
  have := wUp_bd l _ z hz
  omega
/-- The words of a text: a row of the call's own, and read. -/
theorem words_any (s : ByteArray) (w : World) (hs : s.size ≤ 7000) :
    Calls Tryz.prog 56 #[.string s] w fun e w' => ∃ v, e = .returned v ∧ w'.ownsRow w.heap.size 3 1 v (nW s.size) ((wsl s.data.toList).map (Value.int .i64)) ∧ Rd w' v (wsl s.data.toList) ∧ Below w.heap.size w w' := by
  refine (words_own s w hs).mono ?_
  rintro e w' ⟨v, rfl, hown, hb⟩
  exact ⟨v, rfl, hown, Rd.of_own hown (wsl_bd _) (by rw [wsl_length]; unfold nW; simp; omega), hb⟩
end Go.Proofs.YtcgclhahonndbaaGreat.Ky
