/- Set over from a lower layer: Nody. -/
import Derived.Test.YtcgclhahonndbaaGreatNNodp
import Derived.Test.YtcgclhahonndbaaGreatSSupa
import Derived.Test.YtcgclhahonndbaaGreatNNumz
import Derived.Test.YtcgclhahonndbaaGreatRRecz
import Derived.Test.YtcgclhahonndbaaGreatRKeywalkc
import Derived.Test.YtcgclhahonndbaaGreatBase
import Derived.Test.YtcgclhahonndbaaGreatXNNodx
import Derived.Test.YtcgclhahonndbaaGreatXNNoda
import Derived.Deep.AppendLies
import Derived.Deep.RegionLaw
import Derived.Lib.SliceRun
import Derived.Deep.RegionHeld3
import Derived.Laws.ResultCell
import Derived.Shelf.Abstract
import Derived.Deep.RegionWith
import Derived.Laws.CopyOwn
import Derived.RangeFuncBox
import Derived.RangeFuncNested
import Derived.RangeFuncBound
import Derived.RangeFuncCalls
import Derived.RangeFuncLeaves
import Derived.Shelf.RegionOpen
import Derived.OwnWalkIn
import Derived.TacticsInMore
import Derived.LoopNIn
import Derived.LoopIn
import Derived.Maps.AppendAt
import Derived.Shelf.SlSortCmp.QuietGrown
import Derived.Maps.OwnOps
import Derived.Laws.StructEq
import Derived.Deep.Strs
import Derived.Deep.Slices
import Derived.Deep.QuietTactic
import Derived.Lib.AppendZeros
namespace Go.Proofs.YtcgclhahonndbaaGreat
open Go.RowKit Go.Shelf
set_option linter.unusedVariables false
/-- One number, just laid, appended to a row of the call's own, as a step of a region that draws. -/
theorem step_one {ops : Array Oper} {o : Oper} {a : Act} {W w0 : World} {K : Act → World → Prop} {Q : Exit → Act → World → Prop} {E : Prop} (hgd : o.guard = none) (s x : Operand)
    (ho : o.op = .call { callee := .builtin .append, args := #[s, x], argTypes := #[22, 22] }) (base : Nat) (v : Value) (n : Nat) (zs : List Int) (z : Int)
    (hl : zs.length = n) (hown : OwnI w0 base v zs) (hn : n ≤ 1000) (hbase : base ≤ w0.heap.size)
    (hW : W = (w0.alloc (.cells #[.int .i64 z] 3)).drew) (hs : a.eval s = v) (hx : a.eval x = .slice (some ⟨w0.heap.size, 0, none⟩) 1 1)
    (h : ∀ g cap w', OwnI w' base (.slice (some ⟨g, 0, none⟩) (n + 1) cap) (zs ++ [z]) → w0.grownBy w' v.ownBlock → (v.ownBlock = some g ∨ w0.heap.size ≤ g) → g < w'.heap.size → K (a.put o.dst (.slice (some ⟨g, 0, none⟩) (n + 1) cap)) w') :
    if Region.wanted o (yielded ops a.tmps) = true then Oper.wp Tryz.prog o a W K Q else E := by
  obtain ⟨i0, hi, hz0, hz1, hz2⟩ := info_parts Tryz.info3
  subst hW
  subst hl
  have hown' : w0.ownsRow base 3 1 v zs.length (zs.map (Value.int .i64)) := hown
  refine step_append_lies _ hgd s x 22 ho base 3 i0 (.int .i64 0) 1 8 Tryz.underlying22 hi hz0 hz1 hz2 rfl (by decide) v zs.length _ hs (hown'.alloc _) ⟨w0.heap.size, 0, none⟩ 1 1 [.int .i64 z] hx rfl (cell_one_new w0 _ 3) (by simp [Value.oneCell']) (by omega) (by unfold maxLen; omega) (by omega) (by simp; omega) (w0.heap.size + 1) (by simp) ?_
  intro g cap w' h1 h2 h3 h4
  refine h g cap w' (by unfold OwnI; rw [List.length_append, List.map_append]; exact h1) ⟨h2.os, h2.tape, h2.output, ?_, fun j hj hne => (h2.block j (by simp; omega) hne).trans (Below.heap_alloc w0 _ j hj)⟩ (h3.imp id (by omega)) h4
  have := h2.size
  simp at this
  omega
theorem readR_start (r q x1 x2 : Int) (w W : World) (hW : W = ((w.alloc (.cells #[.int .i64 0, .int .i64 0, .int .i64 0, .int .i64 0, .slice none 0 0] 43)).alloc (.cells #[.int .i64 r, .int .i64 q, .int .i64 x1, .int .i64 x2, .slice none 0 0] 43)).drew) : Nb W (w.heap.size + 1) r q x1 x2 (.slice none 0 0) ∧ Nb W w.heap.size 0 0 0 0 (.slice none 0 0) ∧ Below w.heap.size w W := by
  subst hW
  refine ⟨?_, ?_, (((Below.refl _ w).alloc (Nat.le_refl _) _).alloc (by simp) _).drew⟩
  · have := nb_new (w.alloc (.cells #[.int .i64 0, .int .i64 0, .int .i64 0, .int .i64 0, .slice none 0 0] 43)) r q x1 x2 (.slice none 0 0)
    rw [show (w.alloc (.cells #[.int .i64 0, .int .i64 0, .int .i64 0, .int .i64 0, .slice none 0 0] 43)).heap.size = w.heap.size + 1 by simp] at this
    exact this.belowN (Below.refl _ _).drew this.lt
  · have := (nb_new w 0 0 0 0 (.slice none 0 0)).below ((Below.refl _ _).alloc (Nat.le_refl _) (.cells #[.int .i64 r, .int .i64 q, .int .i64 x1, .int .i64 x2, .slice none 0 0] 43))
    exact this.belowN (Below.refl _ _).drew this.lt
theorem Rd.atB {W W' : World} {b off n c : Nat} {zs : List Int} (h : Rd W (.slice (some ⟨b, off, none⟩) n c) zs) (hk : W'.heap[b]? = W.heap[b]?) : Rd W' (.slice (some ⟨b, off, none⟩) n c) zs := by
  obtain ⟨h1, h2, a, cap, e, h0, h3⟩ := h
  cases e
  refine ⟨h1, h2, _, _, rfl, h0, ?_⟩
  rcases h3 with h | ⟨b', off', e, hlt, hc⟩
  · exact .inl h
  · cases e
    refine .inr ⟨b, off, rfl, ?_, fun j u hu => (World.cell?_of_block hk).trans (hc j u hu)⟩
    rw [Array.getElem?_eq_getElem hlt] at hk
    exact (Array.getElem?_eq_some_iff.1 hk).1
theorem Nb.set4 {W : World} {g : Nat} {lv tu nx lo : Int} {v : Value} (h : Nb W g lv tu nx lo v) (u : Value) : Nb (W.setCell ⟨g, 4, none⟩ u) g lv tu nx lo u := by
  have h1 := heap_setCell_same W g 4 _ 43 u h
  unfold Nb
  rw [h1]
  simp
/-- Two words that are read late. -/
abbrev S2b (W : World) (b o : Nat) (x1 x2 : Int) : Prop := W.cell? ⟨b, o + 1, none⟩ = some (.int .i64 x1) ∧ W.cell? ⟨b, o + 2, none⟩ = some (.int .i64 x2)
theorem S2b.set {W : World} {b o : Nat} {x1 x2 : Int} (h : S2b W b o x1 x2) {g k : Nat} (hb : b < g) (u : Value) : S2b (W.setCell ⟨g, k, none⟩ u) b o x1 x2 := by
  have e := Below.heap_setCell W ⟨g, k, none⟩ u b (by show b ≠ g; omega)
  exact ⟨(World.cell?_of_block e).trans h.1, (World.cell?_of_block e).trans h.2⟩
theorem S2b.set5 {W : World} {b o g : Nat} {x1 x2 : Int} (h : S2b W b o x1 x2) (hb : b < g) (u0 u1 u2 u3 u4 : Value) : S2b (((((W.setCell ⟨g, 0, none⟩ u0).setCell ⟨g, 1, none⟩ u1).setCell ⟨g, 2, none⟩ u2).setCell ⟨g, 3, none⟩ u3).setCell ⟨g, 4, none⟩ u4) b o x1 x2 := ((((h.set hb u0).set hb u1).set hb u2).set hb u3).set hb u4
theorem while_ne_stop {S : List Int} {k : Nat} (hp : ∀ x ∈ S.take k, x ≠ 0) (hx : S[k]? = some 0) : S.takeWhile (fun x => decide (x ≠ 0)) = S.take k := by
  obtain ⟨hk, he⟩ := List.getElem?_eq_some_iff.1 hx
  have e : S = S.take k ++ S.drop k := (List.take_append_drop k S).symm
  rw [e, List.takeWhile_append_of_pos (fun x hx => decide_eq_true (hp x hx)), List.drop_eq_getElem_cons hk, he, List.takeWhile_cons, if_neg (by simp), List.append_nil, ← he, ← List.drop_eq_getElem_cons hk, List.take_append_drop]
theorem while_ne_all {S : List Int} (hp : ∀ x ∈ S, x ≠ 0) : S.takeWhile (fun x => decide (x ≠ 0)) = S := by
  have := List.takeWhile_append_of_pos (p := fun x : Int => decide (x ≠ 0)) (l₁ := S) (l₂ := []) (fun x hx => decide_eq_true (hp x hx))
  simpa using this
set_option maxRecDepth 100000 in
set_option maxHeartbeats 1000000 in
theorem readR_out (v : Value) (zs : List Int) (b : Int) (w : World) (hR : Rd w v zs) (hk : rnK zs b = false) : Calls Tryz.prog 43 #[v, .int .i64 b] w fun e w' => e = .returned (.tuple #[.agg #[.int .i64 0, .int .i64 0, .int .i64 0, .int .i64 0, .slice none 0 0], .int .i64 1]) ∧ Below w.heap.size w w' := by
  obtain ⟨hl, a, cap, rfl⟩ := hR.form
  have N0 : Hid (Nb (w.alloc (.cells #[.int .i64 0, .int .i64 0, .int .i64 0, .int .i64 0, .slice none 0 0] 43)) w.heap.size 0 0 0 0 (.slice none 0 0)) := nb_new w 0 0 0 0 _
  have B0 : Hid (Below w.heap.size w (w.alloc (.cells #[.int .i64 0, .int .i64 0, .int .i64 0, .int .i64 0, .slice none 0 0] 43))) := (Below.refl _ _).alloc (Nat.le_refl _) _
  by_cases h0 : b < 0
  · clear hR hk
    go_enter Tryz.func43, Tryz.ntmps43
    go_wp2
    exact bodyPost_ret (ret_nb2 (p := 4) (u := 5) (b := w.heap.size) Tryz.results43 rfl N0.out) rfl ⟨rfl, B0.out⟩
  · by_cases h2 : b ≥ 4096
    · clear hR hk
      go_enter Tryz.func43, Tryz.ntmps43
      go_wp2
      exact bodyPost_ret (ret_nb2 (p := 4) (u := 5) (b := w.heap.size) Tryz.results43 rfl N0.out) rfl ⟨rfl, B0.out⟩
    · have h1 : 16 * b + 16 > (zs.length : Int) := by
        by_cases h : b < (zs.length : Int) / 16
        · rw [rnK_iff.2 ⟨by omega, h⟩] at hk
          cases hk
        · omega
      clear hR hk
      go_enter Tryz.func43, Tryz.ntmps43
      go_wp2
      exact bodyPost_ret (ret_nb2 (p := 4) (u := 5) (b := w.heap.size) Tryz.results43 rfl N0.out) rfl ⟨rfl, B0.out⟩
set_option maxRecDepth 100000 in
set_option maxHeartbeats 2000000 in
theorem readR_neg (v : Value) (zs : List Int) (n : Nat) (w : World) (hR : Rd w v zs) (hn : 16 * n + 16 ≤ zs.length) (hs : ¬ (0 ≤ (bkL zs n).getD 0 0 ∧ 0 ≤ heI (bkL zs n))) : Calls Tryz.prog 43 #[v, .int .i64 (n : Int)] w fun e w' => ∃ v', e = .returned (.tuple #[.agg #[.int .i64 (rnN zs n).lv, .int .i64 (rnN zs n).tu, .int .i64 (rnN zs n).nx, .int .i64 (rnN zs n).lo, v'], .int .i64 (rnE zs n)]) ∧ Rd w' v' (rnN zs n).sl ∧ Below w.heap.size w w' := by
  obtain ⟨hl, a0, cap, rfl⟩ := hR.form
  have hK : rnK zs (n : Int) = true := rnK_iff.2 ⟨by omega, by omega⟩
  obtain ⟨b, off, rfl, hc⟩ := hR.base (by omega)
  have hcap : zs.length ≤ cap := by
    obtain ⟨_, _, _, _, e, h, _⟩ := hR
    cases e
    exact h
  have hRL : Rd w (.slice (some ⟨b, off + 16 * n, none⟩) 16 (cap - 16 * n)) (bkL zs n) := hR.part (16 * n) 16 (cap - 16 * n) (by omega) (by omega)
  have l16 : (bkL zs n).length = 16 := bkL_length hK
  have Y1 := fun h => rn_bad (zs := zs) (b := (n : Int)) hK h
  have Y2 := fun h => rn_ok (zs := zs) (b := (n : Int)) hK h
  obtain ⟨L, hL⟩ : ∃ L, bkL zs (n : Int) = L := ⟨_, rfl⟩
  rw [hL] at hRL l16 Y1 Y2
  rw [hL] at hs
  clear hL
  obtain ⟨x0, e0⟩ : ∃ x, L[0]? = some x := ⟨_, List.getElem?_eq_getElem (by omega)⟩
  obtain ⟨x1, e1⟩ : ∃ x, L[1]? = some x := ⟨_, List.getElem?_eq_getElem (by omega)⟩
  obtain ⟨x2, e2⟩ : ∃ x, L[2]? = some x := ⟨_, List.getElem?_eq_getElem (by omega)⟩
  obtain ⟨h, r, q, g1, g2, g3, g4, g5, g6, g7⟩ := he_parts L x0 e0
  have gh : heI L = h := by
    unfold heI
    rw [IntKind.wrap_i64, List.getD_eq_getElem?_getD, e0, ← g1]
    unfold wrap64
    rfl
  have gx : L.getD 0 0 = x0 := by rw [List.getD_eq_getElem?_getD, e0]; rfl
  have N0 : Hid (Nb (w.alloc (.cells #[.int .i64 0, .int .i64 0, .int .i64 0, .int .i64 0, .slice none 0 0] 43)) w.heap.size 0 0 0 0 (.slice none 0 0)) := nb_new w 0 0 0 0 _
  have B0 : Hid (Below w.heap.size w (w.alloc (.cells #[.int .i64 0, .int .i64 0, .int .i64 0, .int .i64 0, .slice none 0 0] 43))) := (Below.refl _ _).alloc (Nat.le_refl _) _
  have R0 := hRL.below B0.out
  have c0 : (w.alloc (.cells #[.int .i64 0, .int .i64 0, .int .i64 0, .int .i64 0, .slice none 0 0] 43)).cell? ⟨b, off + 16 * n, none⟩ = some (.int .i64 x0) := R0.cell e0
  have i1 : ¬ 16 * (n : Int) + 16 > (zs.length : Int) := by omega
  have i2 : (n : Int) < 4096 := by omega
  have i3 : (0 : Int) ≤ 16 * (n : Int) := by omega
  have i4 : 16 * (n : Int) + 16 ≤ (cap : Int) := by omega
  have i5 : (16 * (n : Int)).toNat = 16 * n := by omega
  have i6 : (16 * (n : Int) + 16).toNat = 16 * n + 16 := by omega
  have i7 : 16 * n + 16 - 16 * n = 16 := by omega
  have i8 : ¬ cap = 16 * n := by omega
  by_cases s0 : x0 < 0
  · have H : Hid (rnE zs (n : Int) = 90 ∧ rnN zs (n : Int) = nilN) := Y1 (by rw [← (ok_same L).1]; unfold okR; rw [gx, decide_eq_false (by omega), Bool.false_and])
    clear hs hR hRL Y1 Y2 e0 e1 e2 l16 g2 g3 g4 g5 g6 g7 gh gx R0 hc
    go_enter Tryz.func43, Tryz.ntmps43
    go_wp2
    exact bodyPost_ret (ret_nb2 (p := 4) (u := 5) (b := w.heap.size) Tryz.results43 rfl N0.out) rfl ⟨_, by rw [H.out.1, H.out.2]; rfl, by rw [H.out.2]; exact nil_rd _, B0.out⟩
  have s1 : h < 0 := by
    rw [gx, gh] at hs
    omega
  · have H : Hid (rnE zs (n : Int) = 90 ∧ rnN zs (n : Int) = nilN) := Y1 (by rw [← (ok_same L).1]; unfold okR; rw [gh, decide_eq_false (by omega), Bool.false_and])
    clear hs hR hRL Y1 Y2 e0 e1 e2 l16 g2 g3 g4 g5 g6 g7 gh gx R0 hc
    go_enter Tryz.func43, Tryz.ntmps43
    go_wp2
    exact bodyPost_ret (ret_nb2 (p := 4) (u := 5) (b := w.heap.size) Tryz.results43 rfl N0.out) rfl ⟨_, by rw [H.out.1, H.out.2]; rfl, by rw [H.out.2]; exact nil_rd _, B0.out⟩
set_option maxRecDepth 100000 in
set_option maxHeartbeats 2000000 in
theorem readR_pos (v : Value) (zs : List Int) (n : Nat) (w : World) (hR : Rd w v zs) (hn : 16 * n + 16 ≤ zs.length) (hs : 0 ≤ (bkL zs n).getD 0 0 ∧ 0 ≤ heI (bkL zs n)) : Calls Tryz.prog 43 #[v, .int .i64 (n : Int)] w fun e w' => ∃ v', e = .returned (.tuple #[.agg #[.int .i64 (rnN zs n).lv, .int .i64 (rnN zs n).tu, .int .i64 (rnN zs n).nx, .int .i64 (rnN zs n).lo, v'], .int .i64 (rnE zs n)]) ∧ Rd w' v' (rnN zs n).sl ∧ Below w.heap.size w w' := by
  obtain ⟨hl, a0, cap, rfl⟩ := hR.form
  have hK : rnK zs (n : Int) = true := rnK_iff.2 ⟨by omega, by omega⟩
  obtain ⟨b, off, rfl, hc⟩ := hR.base (by omega)
  have hcap : zs.length ≤ cap := by
    obtain ⟨_, _, _, _, e, h, _⟩ := hR
    cases e
    exact h
  have hRL : Rd w (.slice (some ⟨b, off + 16 * n, none⟩) 16 (cap - 16 * n)) (bkL zs n) := hR.part (16 * n) 16 (cap - 16 * n) (by omega) (by omega)
  have l16 : (bkL zs n).length = 16 := bkL_length hK
  have Y1 := fun h => rn_bad (zs := zs) (b := (n : Int)) hK h
  have Y2 := fun h => rn_ok (zs := zs) (b := (n : Int)) hK h
  obtain ⟨L, hL⟩ : ∃ L, bkL zs (n : Int) = L := ⟨_, rfl⟩
  rw [hL] at hRL l16 Y1 Y2
  rw [hL] at hs
  clear hL
  obtain ⟨x0, e0⟩ : ∃ x, L[0]? = some x := ⟨_, List.getElem?_eq_getElem (by omega)⟩
  obtain ⟨x1, e1⟩ : ∃ x, L[1]? = some x := ⟨_, List.getElem?_eq_getElem (by omega)⟩
  obtain ⟨x2, e2⟩ : ∃ x, L[2]? = some x := ⟨_, List.getElem?_eq_getElem (by omega)⟩
  obtain ⟨h, r, q, g1, g2, g3, g4, g5, g6, g7⟩ := he_parts L x0 e0
  have gh : heI L = h := by
    unfold heI
    rw [IntKind.wrap_i64, List.getD_eq_getElem?_getD, e0, ← g1]
    unfold wrap64
    rfl
  have gx : L.getD 0 0 = x0 := by rw [List.getD_eq_getElem?_getD, e0]; rfl
  have N0 : Hid (Nb (w.alloc (.cells #[.int .i64 0, .int .i64 0, .int .i64 0, .int .i64 0, .slice none 0 0] 43)) w.heap.size 0 0 0 0 (.slice none 0 0)) := nb_new w 0 0 0 0 _
  have B0 : Hid (Below w.heap.size w (w.alloc (.cells #[.int .i64 0, .int .i64 0, .int .i64 0, .int .i64 0, .slice none 0 0] 43))) := (Below.refl _ _).alloc (Nat.le_refl _) _
  have R0 := hRL.below B0.out
  have c0 : (w.alloc (.cells #[.int .i64 0, .int .i64 0, .int .i64 0, .int .i64 0, .slice none 0 0] 43)).cell? ⟨b, off + 16 * n, none⟩ = some (.int .i64 x0) := R0.cell e0
  have i1 : ¬ 16 * (n : Int) + 16 > (zs.length : Int) := by omega
  have i2 : (n : Int) < 4096 := by omega
  have i3 : (0 : Int) ≤ 16 * (n : Int) := by omega
  have i4 : 16 * (n : Int) + 16 ≤ (cap : Int) := by omega
  have i5 : (16 * (n : Int)).toNat = 16 * n := by omega
  have i6 : (16 * (n : Int) + 16).toNat = 16 * n + 16 := by omega
  have i7 : 16 * n + 16 - 16 * n = 16 := by omega
  have i8 : ¬ cap = 16 * n := by omega
  have Hp : Hid (0 ≤ L.getD 0 0 ∧ 0 ≤ heI L) := hs
  rw [gx, gh] at hs
  have s0 : ¬ x0 < 0 := by omega
  have s1 : ¬ h < 0 := by omega
  have j1 : decide ((n : Int) < 0) = false := decide_eq_false (by omega)
  have j2 : decide (4096 ≤ (n : Int)) = false := decide_eq_false (by omega)
  clear hs
  have g8 : L.getD 1 0 = x1 := by rw [List.getD_eq_getElem?_getD, e1]; rfl
  have g9 : L.getD 2 0 = x2 := by rw [List.getD_eq_getElem?_getD, e2]; rfl
  have YG : Hid (∀ T, (L.drop 3).takeWhile (fun x => decide (x ≠ 0)) = T → (⟨r, q, x1, x2, T⟩ : Nd) = geN L) := (by
    intro T hT
    show (⟨r, q, x1, x2, T⟩ : Nd) = ⟨(guN L).lv, (guN L).tu, L.getD 1 0, L.getD 2 0, (L.drop 3).takeWhile (fun x => decide (x ≠ 0))⟩
    rw [g6, g7, g8, g9, hT])
  have Y1 : Hid (okB L = false → rnE zs (n : Int) = 90 ∧ rnN zs (n : Int) = nilN) := Y1
  have Y2 : Hid (okB L = true → rnE zs (n : Int) = 0 ∧ rnN zs (n : Int) = guN L) := Y2
  have c1 : (w.alloc (.cells #[.int .i64 0, .int .i64 0, .int .i64 0, .int .i64 0, .slice none 0 0] 43)).cell? ⟨b, off + 16 * n + 1, none⟩ = some (.int .i64 x1) := R0.cell e1
  have c2 : (w.alloc (.cells #[.int .i64 0, .int .i64 0, .int .i64 0, .int .i64 0, .slice none 0 0] 43)).cell? ⟨b, off + 16 * n + 2, none⟩ = some (.int .i64 x2) := R0.cell e2
  have HRL : Hid (Rd w (.slice (some ⟨b, off + 16 * n, none⟩) 16 (cap - 16 * n)) L) := hRL
  have Hl16 : Hid (L.length = 16) := l16
  have hbw : b < w.heap.size + 1 := (by have := World.block_lt_of_cell? w _ (hRL.cell e1); show b < w.heap.size + 1; exact Nat.lt_succ_of_lt this)
  have RA := R0.below ((Below.refl _ _).alloc (Nat.le_refl _) (.cells #[.int .i64 0, .int .i64 0, .int .i64 0, .int .i64 0, .slice none 0 0] 43))
  have SA : Hid (S2b ((w.alloc (.cells #[.int .i64 0, .int .i64 0, .int .i64 0, .int .i64 0, .slice none 0 0] 43)).alloc (.cells #[.int .i64 0, .int .i64 0, .int .i64 0, .int .i64 0, .slice none 0 0] 43)).drew b (off + 16 * n) x1 x2) := ⟨RA.cell e1, RA.cell e2⟩
  have RB := R0.below ((Below.refl _ _).alloc (Nat.le_refl _) (.cells #[.int .i64 r, .int .i64 q, .int .i64 x1, .int .i64 x2, .slice none 0 0] 43))
  have SB : Hid (S2b ((w.alloc (.cells #[.int .i64 0, .int .i64 0, .int .i64 0, .int .i64 0, .slice none 0 0] 43)).alloc (.cells #[.int .i64 r, .int .i64 q, .int .i64 x1, .int .i64 x2, .slice none 0 0] 43)).drew b (off + 16 * n) x1 x2) := ⟨RB.cell e1, RB.cell e2⟩
  have S0 : Hid ((w.alloc (.cells #[.int .i64 0, .int .i64 0, .int .i64 0, .int .i64 0, .slice none 0 0] 43)).drew.cell? ⟨b, off + 16 * n + 1, none⟩ = some (.int .i64 x1) ∧ (w.alloc (.cells #[.int .i64 0, .int .i64 0, .int .i64 0, .int .i64 0, .slice none 0 0] 43)).drew.cell? ⟨b, off + 16 * n + 2, none⟩ = some (.int .i64 x2)) := ⟨c1, c2⟩
  clear RA RB hR hRL e0 e1 e2 l16 g6 g7 g8 g9 gh gx R0 hc
  go_enter Tryz.func43, Tryz.ntmps43
  go_wp2
  go_region_held3 (fun W2 => W2.cell? ⟨b, off + 16 * n + 1, none⟩ = some (.int .i64 x1) ∧ W2.cell? ⟨b, off + 16 * n + 2, none⟩ = some (.int .i64 x2)) (first | with_reducible exact S0.out | with_reducible exact SA.out | with_reducible exact SB.out) (fail)
  clear SA SB S0 N0 B0 c0 c1 c2
  generalize hW : World.drew _ = W at *
  obtain ⟨N1, R1, B1⟩ := readR_start r q x1 x2 w W hW.symm
  have HX : Hid (Nb W (w.heap.size + 1) r q x1 x2 (.slice none 0 0)) := N1
  have HR : Hid (Nb W w.heap.size 0 0 0 0 (.slice none 0 0)) := R1
  have HB : Hid (Below w.heap.size w W) := B1
  have hs0 : w.heap.size + 1 + 1 ≤ W.heap.size := N1.lt
  have HO : Hid (OwnI W (w.heap.size + 1 + 1) (.slice none 0 0) []) := own_nil _ _
  have HRL0 : Hid (Rd w (.slice (some ⟨b, off + 16 * n, none⟩) 16 (cap - 16 * n)) L) := HRL
  clear HRL
  have HRL : Hid (Rd W (.slice (some ⟨b, off + 16 * n, none⟩) 16 (cap - 16 * n)) L) := HRL0.out.below B1
  clear hW N1 R1 B1 HRL0
  go_wp2
  go_loopw [9] (fun i w3 => ∃ (k : Nat) (a : Option Addr) (c : Nat), k ≤ 13 ∧ i = .int .i64 ((k : Int) + 3) ∧ (∀ x ∈ (L.drop 3).take k, x ≠ 0) ∧ OwnI w3 (w.heap.size + 1 + 1) (.slice a k c) ((L.drop 3).take k) ∧ Nb w3 (w.heap.size + 1) r q x1 x2 (.slice a k c) ∧ Nb w3 w.heap.size 0 0 0 0 (.slice none 0 0) ∧ Below w.heap.size w w3 ∧ Rd w3 (.slice (some ⟨b, off + 16 * n, none⟩) 16 (cap - 16 * n)) L) (fun i _ => 16 - (Go.RowKit.intOf i).toNat)
  case atStart => exact ⟨0, none, 0, Nat.zero_le _, rfl, (fun x hx => by cases hx), HO.out, HX.out, HR.out, HB.out, HRL.out⟩
  case round =>
    clear HO HX HR HB HRL hs0
    obtain ⟨k, a, c, hk, rfl, hz, hO, hX, hR, hB, hL⟩ := hrel
    have HT0 : Hid (∀ x ∈ (L.drop 3).take k, x ≠ 0) := hz
    have HO : Hid (OwnI wr (w.heap.size + 1 + 1) (.slice a k c) ((L.drop 3).take k)) := hO
    have HX : Hid (Nb wr (w.heap.size + 1) r q x1 x2 (.slice a k c)) := hX
    have HR : Hid (Nb wr w.heap.size 0 0 0 0 (.slice none 0 0)) := hR
    have HB : Hid (Below w.heap.size w wr) := hB
    have HRL : Hid (Rd wr (.slice (some ⟨b, off + 16 * n, none⟩) 16 (cap - 16 * n)) L) := hL
    obtain ⟨x0', x1', x2', x3', x4'⟩ := hX.c
    have hs1 : w.heap.size + 1 + 1 ≤ wr.heap.size := hX.lt
    clear hz hO hX hR hB hL
    by_cases h13 : k < 13
    · have hk16 : (k : Int) + 3 < 16 := by omega
      have hk16' : (0 : Int) ≤ (k : Int) + 3 := by omega
      obtain ⟨x, hx⟩ : ∃ x, L[k + 3]? = some x := ⟨_, List.getElem?_eq_getElem (by rw [Hl16.out]; omega)⟩
      have Hx : Hid ((L.drop 3)[k]? = some x) := (by show _ = _; rw [List.getElem?_drop, Nat.add_comm]; exact hx)
      have ck : wr.cell? ⟨b, off + 16 * n + (k + 3), none⟩ = some (.int .i64 x) := HRL.out.cell hx
      have Hxx : Hid (L[k + 3]? = some x) := hx
      clear hx
      by_cases hx0 : x = 0
      · subst hx0
        have HT : Hid ((L.drop 3).takeWhile (fun x => decide (x ≠ 0)) = (L.drop 3).take k) := while_ne_stop HT0.out Hx.out
        have Hy : Hid ((⟨r, q, x1, x2, (L.drop 3).take k⟩ : Nd) = geN L) := (by show _ = _; exact YG.out _ HT.out)
        have k9 : Hid (∀ W, Rd W (.slice a k c) ((L.drop 3).take k) → Calls Tryz.prog 71 #[.agg #[.int .i64 r, .int .i64 q, .int .i64 x1, .int .i64 x2, .slice a k c]] W fun e w' => ∃ v', e = .returned (.tuple #[v', .int .i64 (wnE ⟨r, q, x1, x2, (L.drop 3).take k⟩)]) ∧ Rd w' v' (wnL ⟨r, q, x1, x2, (L.drop 3).take k⟩) ∧ Below W.heap.size W w') := fun W hR => wordsR_node ⟨r, q, x1, x2, (L.drop 3).take k⟩ _ W hR
        have hrd := HO.out.rd (by rw [List.length_take]; omega)
        cases hc : nnB ⟨r, q, x1, x2, (L.drop 3).take k⟩ with
        | false =>
          have H : Hid (rnE zs (n : Int) = 90 ∧ rnN zs (n : Int) = nilN) := Y1.out (by rw [← (ok_same L).1]; unfold okR; rw [← Hy.out, hc, Bool.false_and, Bool.and_false])
          rw [(wn_no hc).1, (wn_no hc).2] at k9
          clear hc Y1 Y2 YG
          go_wp2_with (first
            | (go_at_call 71; refine (k9.out _ hrd).mono ?_; rintro e w4 ⟨v4, rfl, r4, hb4⟩; have HR4 := HR.out.below hb4; have HB4 := bstep HB.out hb4; have HX4 := HX.out.below hb4; have HO4 := ownI_below HO.out hb4; have HRL4 := HRL.out.below hb4; obtain ⟨q0, q1, q2, q3, q4⟩ := HR4.c; have f0 := HR4.free 0; have f1 := HR4.free 1; have f2 := HR4.free 2; have f3 := HR4.free 3; have f4 := HR4.free 4; clear r4 hb4 hrd; clear x0' x1' x2' x3' x4'))
          have N5 := HR4.set5 (.int .i64 0) (.int .i64 0) (.int .i64 0) (.int .i64 0) (.slice none 0 0)
          have B5 := below_set5 HB4 (Nat.le_refl _) (.int .i64 0) (.int .i64 0) (.int .i64 0) (.int .i64 0) (.slice none 0 0)
          clear HR4 HB4 HX4 HO4 q0 q1 q2 q3 q4 f0 f1 f2 f3 f4
          generalize World.setCell _ _ _ = W5 at *
          exact bodyPost_ret (ret_nb2 (p := 4) (u := 5) (b := w.heap.size) Tryz.results43 rfl N5) rfl ⟨_, by rw [H.out.1, H.out.2]; rfl, by rw [H.out.2]; exact nil_rd _, B5⟩
        | true =>
          have hm := nnB_iff.1 hc
          have l2 := imN_length hm.len
          rw [(wn_yes hc).1, (wn_yes hc).2] at k9
          have YA : Hid (imN ⟨r, q, x1, x2, (L.drop 3).take k⟩ = L → rnE zs (n : Int) = 0 ∧ rnN zs (n : Int) = ⟨r, q, x1, x2, (L.drop 3).take k⟩) := fun h => by
            have ho : okB L = true := by rw [← (ok_same L).1]; unfold okR; rw [← Hy.out, hc, decide_eq_true h, decide_eq_true Hp.out]; rfl
            have := Y2.out ho
            rw [← (ok_same L).2 ho, ← Hy.out] at this
            exact this
          have YB : Hid (imN ⟨r, q, x1, x2, (L.drop 3).take k⟩ ≠ L → rnE zs (n : Int) = 90 ∧ rnN zs (n : Int) = nilN) := fun h => Y1.out (by rw [← (ok_same L).1]; unfold okR; rw [← Hy.out, decide_eq_false h, Bool.and_false, Bool.and_false])
          generalize imN ⟨r, q, x1, x2, (L.drop 3).take k⟩ = J at k9 YA YB l2
          clear hc hm Y1 Y2 YG
          by_cases he : J = L
          · have H := (show Hid (rnE zs (n : Int) = 0 ∧ rnN zs (n : Int) = ⟨r, q, x1, x2, (L.drop 3).take k⟩) from YA.out he)
            have hd : decide (J = L) = true := decide_eq_true he
            clear he YA YB
            go_wp2_with (first
              | (go_at_call 71; refine (k9.out _ hrd).mono ?_; rintro e w3 ⟨v3, rfl, r3, hb3⟩; have R3 : Hid (Rd w3 v3 J) := r3; have hb3' : Hid (Below wr.heap.size wr w3) := hb3; clear r3 hb3 hrd; clear x0' x1' x2' x3' x4')
              | (go_at_call 72; refine (numbers_any _ _ J L _ R3.out (HRL.out.below hb3'.out)).mono ?_; rintro e w4 ⟨rfl, hb4⟩; rw [hd]; have hb4 := bstep hb3'.out hb4; have HR4 := HR.out.below hb4; have HB4 := bstep HB.out hb4; have HX4 := HX.out.below hb4; have HO4 := ownI_below HO.out hb4; have HRL4 := HRL.out.below hb4; obtain ⟨q0, q1, q2, q3, q4⟩ := HR4.c; have f0 := HR4.free 0; have f1 := HR4.free 1; have f2 := HR4.free 2; have f3 := HR4.free 3; have f4 := HR4.free 4; clear hb4; obtain ⟨z0, z1, z2, z3, z4⟩ := HX4.c))
            have N5 := HR4.set5 (.int .i64 r) (.int .i64 q) (.int .i64 x1) (.int .i64 x2) (.slice a k c)
            have B5 := below_set5 HB4 (Nat.le_refl _) (.int .i64 r) (.int .i64 q) (.int .i64 x1) (.int .i64 x2) (.slice a k c)
            have O5 := (own_set5 HO4 (show w.heap.size < w.heap.size + 1 + 1 by omega) (.int .i64 r) (.int .i64 q) (.int .i64 x1) (.int .i64 x2) (.slice a k c)).rd (by rw [List.length_take]; omega)
            clear HR4 HB4 HX4 HO4 q0 q1 q2 q3 q4 f0 f1 f2 f3 f4
            generalize World.setCell _ _ _ = W5 at *
            exact bodyPost_ret (ret_nb2 (p := 4) (u := 5) (b := w.heap.size) Tryz.results43 rfl N5) rfl ⟨_, by rw [H.out.1, H.out.2]; rfl, by rw [H.out.2]; exact O5, B5⟩
          · have H := (show Hid (rnE zs (n : Int) = 90 ∧ rnN zs (n : Int) = nilN) from YB.out he)
            have hd : decide (J = L) = false := decide_eq_false he
            clear he YA YB
            go_wp2_with (first
              | (go_at_call 71; refine (k9.out _ hrd).mono ?_; rintro e w3 ⟨v3, rfl, r3, hb3⟩; have R3 : Hid (Rd w3 v3 J) := r3; have hb3' : Hid (Below wr.heap.size wr w3) := hb3; clear r3 hb3 hrd; clear x0' x1' x2' x3' x4')
              | (go_at_call 72; refine (numbers_any _ _ J L _ R3.out (HRL.out.below hb3'.out)).mono ?_; rintro e w4 ⟨rfl, hb4⟩; rw [hd]; have hb4 := bstep hb3'.out hb4; have HR4 := HR.out.below hb4; have HB4 := bstep HB.out hb4; have HX4 := HX.out.below hb4; have HO4 := ownI_below HO.out hb4; have HRL4 := HRL.out.below hb4; obtain ⟨q0, q1, q2, q3, q4⟩ := HR4.c; have f0 := HR4.free 0; have f1 := HR4.free 1; have f2 := HR4.free 2; have f3 := HR4.free 3; have f4 := HR4.free 4; clear hb4))
            have N5 := HR4.set5 (.int .i64 0) (.int .i64 0) (.int .i64 0) (.int .i64 0) (.slice none 0 0)
            have B5 := below_set5 HB4 (Nat.le_refl _) (.int .i64 0) (.int .i64 0) (.int .i64 0) (.int .i64 0) (.slice none 0 0)
            clear HR4 HB4 HX4 HO4 q0 q1 q2 q3 q4 f0 f1 f2 f3 f4
            generalize World.setCell _ _ _ = W5 at *
            exact bodyPost_ret (ret_nb2 (p := 4) (u := 5) (b := w.heap.size) Tryz.results43 rfl N5) rfl ⟨_, by rw [H.out.1, H.out.2]; rfl, by rw [H.out.2]; exact nil_rd _, B5⟩
      · have hxb : (x != 0) = true := by simpa using hx0
        have Hn : Hid ((L.drop 3).take (k + 1) = (L.drop 3).take k ++ [x]) := take_next Hx.out
        have HN0 : Hid (∀ y ∈ (L.drop 3).take (k + 1), y ≠ 0) := (by
          show ∀ y ∈ _, _
          rw [Hn.out]
          intro y hy
          rcases List.mem_append.1 hy with h | h
          · exact HT0.out y h
          · rw [List.mem_singleton.1 h]; exact hx0)
        have hlk : ((L.drop 3).take k).length = k := (by rw [List.length_take, List.length_drop, Hl16.out]; omega)
        have Hlk : Hid (((L.drop 3).take k).length = k) := hlk
        have hbr := (HRL.out.below ((Below.refl _ _).alloc (Nat.le_refl _) (.cells #[.int .i64 x] 3)))
        have za4 : (wr.alloc (.cells #[.int .i64 x] 3)).cell? ⟨w.heap.size + 1, 4, none⟩ = some (.slice a k c) := (HX.out.below ((Below.refl _ _).alloc (Nat.le_refl _) _)).c.2.2.2.2
        have ckn : wr.cell? ⟨b, off + 16 * n + ((k : Int) + 3).toNat, none⟩ = some (.int .i64 x) := (by rw [show ((k : Int) + 3).toNat = k + 3 by omega]; exact ck)
        have cka : (wr.alloc (.cells #[.int .i64 x] 3)).cell? ⟨b, off + 16 * n + ((k : Int) + 3).toNat, none⟩ = some (.int .i64 x) := (by rw [show ((k : Int) + 3).toNat = k + 3 by omega]; exact hbr.cell (show L[k + 3]? = some x from Hxx.out))
        clear hlk hx0 hbr
        go_wp2
        go_region_law (refine step_one rfl (.tmp 70) (.tmp 75) rfl (w.heap.size + 1 + 1) (.slice a k c) k _ x Hlk.out HO.out (by omega) hs1 rfl rfl rfl ?_; intro g cap4 w4 o4 g4 at4 lt4; have b4 : Hid (Below (w.heap.size + 1 + 1) wr w4) := (Below.refl _ wr).grown g4 hs1 (fun q hq => (World.ownsRow.lt HO.out q hq).1); have X4 : Hid (Nb w4 (w.heap.size + 1) r q x1 x2 (.slice a k c)) := HX.out.belowN b4.out (Nat.lt_succ_self _); have O4 : Hid (OwnI w4 (w.heap.size + 1 + 1) (.slice (some ⟨g, 0, none⟩) (k + 1) cap4) ((L.drop 3).take (k + 1))) := (by have := o4; rwa [← Hn.out] at this); obtain ⟨z0, z1, z2, z3, z4⟩ := X4.out.c; have f4 := X4.out.free 4; clear o4 g4 at4 lt4)
        all_goals
          go_wp2
          have gB : w.heap.size ≤ w.heap.size + 1 := Nat.le_succ _
          refine ⟨⟨k + 1, some ⟨g, 0, none⟩, cap4, by omega, by go_num, HN0.out, O4.out.setOther (Nat.lt_succ_self _) _, X4.out.set4 _, ((HR.out.belowN b4.out (by omega)).other (Nat.ne_of_lt (Nat.lt_succ_self _)) _), (HB.out.trans (b4.out.mono (by omega))).setCell (p := ⟨w.heap.size + 1, 4, none⟩) gB _, (HRL.out.atB ((Below.heap_setCell w4 ⟨w.heap.size + 1, 4, none⟩ _ b (by show b ≠ w.heap.size + 1; omega)).trans (b4.out.block b (by omega))))⟩, by simp [Go.RowKit.intOf]; omega⟩
    · have hk13 : k = 13 := by omega
      subst hk13
      have HT : Hid ((L.drop 3).takeWhile (fun x => decide (x ≠ 0)) = (L.drop 3).take 13) := (by
        show _ = _
        have e : (L.drop 3).take 13 = L.drop 3 := List.take_of_length_le (by rw [List.length_drop, Hl16.out]; omega)
        have := HT0.out
        rw [e] at this ⊢
        exact while_ne_all this)
      have Hy : Hid ((⟨r, q, x1, x2, (L.drop 3).take 13⟩ : Nd) = geN L) := (by show _ = _; exact YG.out _ HT.out)
      have k9 : Hid (∀ W, Rd W (.slice a 13 c) ((L.drop 3).take 13) → Calls Tryz.prog 71 #[.agg #[.int .i64 r, .int .i64 q, .int .i64 x1, .int .i64 x2, .slice a 13 c]] W fun e w' => ∃ v', e = .returned (.tuple #[v', .int .i64 (wnE ⟨r, q, x1, x2, (L.drop 3).take 13⟩)]) ∧ Rd w' v' (wnL ⟨r, q, x1, x2, (L.drop 3).take 13⟩) ∧ Below W.heap.size W w') := fun W hR => wordsR_node ⟨r, q, x1, x2, (L.drop 3).take 13⟩ _ W hR
      have hrd := HO.out.rd (by rw [List.length_take]; omega)
      cases hc : nnB ⟨r, q, x1, x2, (L.drop 3).take 13⟩ with
      | false =>
        have H : Hid (rnE zs (n : Int) = 90 ∧ rnN zs (n : Int) = nilN) := Y1.out (by rw [← (ok_same L).1]; unfold okR; rw [← Hy.out, hc, Bool.false_and, Bool.and_false])
        rw [(wn_no hc).1, (wn_no hc).2] at k9
        clear hc Y1 Y2 YG
        go_wp2_with (first
          | (go_at_call 71; refine (k9.out _ hrd).mono ?_; rintro e w4 ⟨v4, rfl, r4, hb4⟩; have HR4 := HR.out.below hb4; have HB4 := bstep HB.out hb4; have HX4 := HX.out.below hb4; have HO4 := ownI_below HO.out hb4; have HRL4 := HRL.out.below hb4; obtain ⟨q0, q1, q2, q3, q4⟩ := HR4.c; have f0 := HR4.free 0; have f1 := HR4.free 1; have f2 := HR4.free 2; have f3 := HR4.free 3; have f4 := HR4.free 4; clear r4 hb4 hrd; clear x0' x1' x2' x3' x4'))
        have N5 := HR4.set5 (.int .i64 0) (.int .i64 0) (.int .i64 0) (.int .i64 0) (.slice none 0 0)
        have B5 := below_set5 HB4 (Nat.le_refl _) (.int .i64 0) (.int .i64 0) (.int .i64 0) (.int .i64 0) (.slice none 0 0)
        clear HR4 HB4 HX4 HO4 q0 q1 q2 q3 q4 f0 f1 f2 f3 f4
        generalize World.setCell _ _ _ = W5 at *
        exact bodyPost_ret (ret_nb2 (p := 4) (u := 5) (b := w.heap.size) Tryz.results43 rfl N5) rfl ⟨_, by rw [H.out.1, H.out.2]; rfl, by rw [H.out.2]; exact nil_rd _, B5⟩
      | true =>
        have hm := nnB_iff.1 hc
        have l2 := imN_length hm.len
        rw [(wn_yes hc).1, (wn_yes hc).2] at k9
        have YA : Hid (imN ⟨r, q, x1, x2, (L.drop 3).take 13⟩ = L → rnE zs (n : Int) = 0 ∧ rnN zs (n : Int) = ⟨r, q, x1, x2, (L.drop 3).take 13⟩) := fun h => by
          have ho : okB L = true := by rw [← (ok_same L).1]; unfold okR; rw [← Hy.out, hc, decide_eq_true h, decide_eq_true Hp.out]; rfl
          have := Y2.out ho
          rw [← (ok_same L).2 ho, ← Hy.out] at this
          exact this
        have YB : Hid (imN ⟨r, q, x1, x2, (L.drop 3).take 13⟩ ≠ L → rnE zs (n : Int) = 90 ∧ rnN zs (n : Int) = nilN) := fun h => Y1.out (by rw [← (ok_same L).1]; unfold okR; rw [← Hy.out, decide_eq_false h, Bool.and_false, Bool.and_false])
        generalize imN ⟨r, q, x1, x2, (L.drop 3).take 13⟩ = J at k9 YA YB l2
        clear hc hm Y1 Y2 YG
        by_cases he : J = L
        · have H := (show Hid (rnE zs (n : Int) = 0 ∧ rnN zs (n : Int) = ⟨r, q, x1, x2, (L.drop 3).take 13⟩) from YA.out he)
          have hd : decide (J = L) = true := decide_eq_true he
          clear he YA YB
          go_wp2_with (first
            | (go_at_call 71; refine (k9.out _ hrd).mono ?_; rintro e w3 ⟨v3, rfl, r3, hb3⟩; have R3 : Hid (Rd w3 v3 J) := r3; have hb3' : Hid (Below wr.heap.size wr w3) := hb3; clear r3 hb3 hrd; clear x0' x1' x2' x3' x4')
            | (go_at_call 72; refine (numbers_any _ _ J L _ R3.out (HRL.out.below hb3'.out)).mono ?_; rintro e w4 ⟨rfl, hb4⟩; rw [hd]; have hb4 := bstep hb3'.out hb4; have HR4 := HR.out.below hb4; have HB4 := bstep HB.out hb4; have HX4 := HX.out.below hb4; have HO4 := ownI_below HO.out hb4; have HRL4 := HRL.out.below hb4; obtain ⟨q0, q1, q2, q3, q4⟩ := HR4.c; have f0 := HR4.free 0; have f1 := HR4.free 1; have f2 := HR4.free 2; have f3 := HR4.free 3; have f4 := HR4.free 4; clear hb4; obtain ⟨z0, z1, z2, z3, z4⟩ := HX4.c))
          have N5 := HR4.set5 (.int .i64 r) (.int .i64 q) (.int .i64 x1) (.int .i64 x2) (.slice a 13 c)
          have B5 := below_set5 HB4 (Nat.le_refl _) (.int .i64 r) (.int .i64 q) (.int .i64 x1) (.int .i64 x2) (.slice a 13 c)
          have O5 := (own_set5 HO4 (show w.heap.size < w.heap.size + 1 + 1 by omega) (.int .i64 r) (.int .i64 q) (.int .i64 x1) (.int .i64 x2) (.slice a 13 c)).rd (by rw [List.length_take]; omega)
          clear HR4 HB4 HX4 HO4 q0 q1 q2 q3 q4 f0 f1 f2 f3 f4
          generalize World.setCell _ _ _ = W5 at *
          exact bodyPost_ret (ret_nb2 (p := 4) (u := 5) (b := w.heap.size) Tryz.results43 rfl N5) rfl ⟨_, by rw [H.out.1, H.out.2]; rfl, by rw [H.out.2]; exact O5, B5⟩
        · have H := (show Hid (rnE zs (n : Int) = 90 ∧ rnN zs (n : Int) = nilN) from YB.out he)
          have hd : decide (J = L) = false := decide_eq_false he
          clear he YA YB
          go_wp2_with (first
            | (go_at_call 71; refine (k9.out _ hrd).mono ?_; rintro e w3 ⟨v3, rfl, r3, hb3⟩; have R3 : Hid (Rd w3 v3 J) := r3; have hb3' : Hid (Below wr.heap.size wr w3) := hb3; clear r3 hb3 hrd; clear x0' x1' x2' x3' x4')
            | (go_at_call 72; refine (numbers_any _ _ J L _ R3.out (HRL.out.below hb3'.out)).mono ?_; rintro e w4 ⟨rfl, hb4⟩; rw [hd]; have hb4 := bstep hb3'.out hb4; have HR4 := HR.out.below hb4; have HB4 := bstep HB.out hb4; have HX4 := HX.out.below hb4; have HO4 := ownI_below HO.out hb4; have HRL4 := HRL.out.below hb4; obtain ⟨q0, q1, q2, q3, q4⟩ := HR4.c; have f0 := HR4.free 0; have f1 := HR4.free 1; have f2 := HR4.free 2; have f3 := HR4.free 3; have f4 := HR4.free 4; clear hb4))
          have N5 := HR4.set5 (.int .i64 0) (.int .i64 0) (.int .i64 0) (.int .i64 0) (.slice none 0 0)
          have B5 := below_set5 HB4 (Nat.le_refl _) (.int .i64 0) (.int .i64 0) (.int .i64 0) (.int .i64 0) (.slice none 0 0)
          clear HR4 HB4 HX4 HO4 q0 q1 q2 q3 q4 f0 f1 f2 f3 f4
          generalize World.setCell _ _ _ = W5 at *
          exact bodyPost_ret (ret_nb2 (p := 4) (u := 5) (b := w.heap.size) Tryz.results43 rfl N5) rfl ⟨_, by rw [H.out.1, H.out.2]; rfl, by rw [H.out.2]; exact nil_rd _, B5⟩
/-- What the document's Read tells of any words, at any number. -/
theorem readR_any (v : Value) (zs : List Int) (b : Int) (w : World) (hR : Rd w v zs) : Calls Tryz.prog 43 #[v, .int .i64 b] w fun e w' => ∃ v', e = .returned (.tuple #[.agg #[.int .i64 (rnN zs b).lv, .int .i64 (rnN zs b).tu, .int .i64 (rnN zs b).nx, .int .i64 (rnN zs b).lo, v'], .int .i64 (rnE zs b)]) ∧ Rd w' v' (rnN zs b).sl ∧ Below w.heap.size w w' := by
  cases hk : rnK zs b with
  | false =>
    obtain ⟨e1, e2⟩ := rn_out hk
    rw [e1, e2]
    refine (readR_out v zs b w hR hk).mono ?_
    rintro e w' ⟨rfl, hb⟩
    exact ⟨_, rfl, nil_rd _, hb⟩
  | true =>
    obtain ⟨h0, h1⟩ := rnK_iff.1 hk
    obtain ⟨n, rfl⟩ : ∃ n : Nat, b = (n : Int) := ⟨b.toNat, by omega⟩
    by_cases hs : 0 ≤ (bkL zs n).getD 0 0 ∧ 0 ≤ heI (bkL zs n)
    · exact readR_pos v zs n w hR (by omega) hs
    · exact readR_neg v zs n w hR (by omega) hs
end Go.Proofs.YtcgclhahonndbaaGreat
