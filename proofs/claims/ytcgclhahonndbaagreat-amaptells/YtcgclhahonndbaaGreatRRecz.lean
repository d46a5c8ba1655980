/- Set over from a lower layer: RRecz. -/
import Derived.Test.YtcgclhahonndbaaGreatRKeywalka
import Derived.Test.YtcgclhahonndbaaGreatRReca
import Derived.Test.YtcgclhahonndbaaGreatBase
import Derived.Test.YtcgclhahonndbaaGreatNNumz
import Derived.Test.YtcgclhahonndbaaGreatSSumz
import Derived.Lib.AppendZeros
import Derived.Deep.RegionLaw
import Derived.Deep.RegionHeld3
import Derived.Laws.CopyOwn
namespace Go.Proofs.YtcgclhahonndbaaGreat
open Go.RowKit Go.Shelf
set_option linter.unusedVariables false
theorem txS_size (l : List Int) (h : Ky.okT l 21 = true) : (Ky.txS l 21).size = 21 := by
  rw [← Ky.txS_yes h]
  have h1 := (of_decide_eq_true h).2.1
  rw [← ba_list]
  show (Ky.txL l 21).length = 21
  rw [Ky.txL_length]
  have : Ky.nW 21 = 3 := rfl
  have h2 : Ky.nW (21 : Int).toNat = 3 := rfl
  rw [h2] at h1
  omega
set_option maxRecDepth 100000 in
set_option maxHeartbeats 1000000 in
theorem beg_any (v : Value) (l : List Int) (n : Int) (w : World) (hR : Rd w v l) (hF : Fits l) : Calls Tryz.prog 124 #[v, .int .i64 21, .int .i64 n] w fun e w' => e = .returned (.string (begS l n)) ∧ Below w.heap.size w w' := by
  have hK := hR.ky hF
  cases ho : Ky.okT l 21 with
  | false =>
    have H : Hid (begS l n = ByteArray.empty) := show _ = _ by unfold begS; rw [ho]; rfl
    have hE : Ky.txE l 21 = 20 := (Ky.txE_no ho).symm
    go_enter Tryz.func124, Tryz.ntmps124
    go_wp2_with (go_at_call 127; refine (Ky.text_any _ _ _ _ hK (by decide)).mono ?_; rintro e w1 ⟨rfl, hb1⟩)
    go_ret
    exact ⟨by rw [H.out]; rfl, hb1⟩
  | true =>
    have hE : Ky.txE l 21 = 0 := (Ky.txE_yes ho).symm
    have hS := txS_size l ho
    by_cases h0 : n < 0
    · have H : Hid (begS l n = ByteArray.empty) := show _ = _ by unfold begS; rw [if_neg (by omega)]
      go_enter Tryz.func124, Tryz.ntmps124
      go_wp2_with (go_at_call 127; refine (Ky.text_any _ _ _ _ hK (by decide)).mono ?_; rintro e w1 ⟨rfl, hb1⟩)
      go_ret
      exact ⟨by rw [H.out]; rfl, hb1⟩
    · by_cases h1 : n > 21
      · have H : Hid (begS l n = ByteArray.empty) := show _ = _ by unfold begS; rw [if_neg (by omega)]
        go_enter Tryz.func124, Tryz.ntmps124
        go_wp2_with (go_at_call 127; refine (Ky.text_any _ _ _ _ hK (by decide)).mono ?_; rintro e w1 ⟨rfl, hb1⟩)
        go_ret
        exact ⟨by rw [H.out]; rfl, hb1⟩
      · have H : Hid (begS l n = (Ky.txS l 21).extract 0 n.toNat) := show _ = _ by unfold begS; rw [if_pos ⟨ho, by omega, by omega⟩]
        go_enter Tryz.func124, Tryz.ntmps124
        go_wp2_with (go_at_call 127; refine (Ky.text_any _ _ _ _ hK (by decide)).mono ?_; rintro e w1 ⟨rfl, hb1⟩)
        go_ret
        exact ⟨by rw [H.out]; rfl, hb1⟩
/-- slices.Grow of no slice. -/
theorem zeros_run (n : Nat) (h0 : 0 < n) (hn : n ≤ 1000) (ty : TypeId) (w : World) : (Builtin.append_ #[22, 3] ty #[.slice none 0 0, .int .i64 n]).run Tryz.prog w =
    .ok (.slice (some ⟨w.heap.size, 0, none⟩) n (grownCap w n 0 3)) (w.drew.alloc (.cells (Builtin.zeroCells (Value.int .i64 0).cells n ++ Builtin.zeroCells (Value.int .i64 0).cells (grownCap w n 0 3 - n)) 3)) := by
  obtain ⟨i0, hi, hz0, hz1, hz2⟩ := info_parts Tryz.info3
  exact Lib.run_append_nil_zeros w 22 3 ty 3 i0 (.int .i64 0) .i64 .i64 Tryz.underlying22 Tryz.underlying3 hi hz0 n h0 (by omega) (by omega) (by rw [hz2]; omega)
set_option maxRecDepth 100000 in
set_option maxHeartbeats 1000000 in
theorem grow_any (n : Nat) (w : World) (h0 : 0 < n) (hn : n ≤ 1000) : Calls Tryz.prog 83 #[.slice none 0 0, .int .i64 n] w fun e w' => ∃ v, e = .returned v ∧ OwnI w' w.heap.size v [] ∧ Below w.heap.size w w' := by
  have hrz := fun ty => zeros_run n h0 hn ty w
  have hge := grownCap_ge w n 0 3
  have hle := grownCap_le_maxLen w n 0 3 (by unfold maxLen; omega)
  have hsz : (Builtin.zeroCells (Value.int .i64 0).cells n ++ Builtin.zeroCells (Value.int .i64 0).cells (grownCap w n 0 3 - n)).size = grownCap w n 0 3 * 1 := by
    simp [Builtin.zeroCells, Value.cells]
    omega
  generalize grownCap w n 0 3 = G at hrz hge hle hsz
  generalize Builtin.zeroCells (Value.int .i64 0).cells n ++ Builtin.zeroCells (Value.int .i64 0).cells (G - n) = C at hrz hsz
  have hown := World.ownsRow_made (base := w.heap.size) (e := 3) (size := 1) w.drew C G (by simp) hle hsz
  have hbel : Below w.heap.size w (w.drew.alloc (.cells C 3)) := (Below.refl _ w).drew.alloc (by simp) _
  have hG63 : G ≤ 9223372036854775807 := by unfold maxLen at hle; omega
  have h1 : ¬ ((n : Int) < 0) := by omega
  have h4 : (n : Int) > 0 := by omega
  have hown' : Hid (OwnI (w.drew.alloc (.cells C 3)) w.heap.size (.slice (some ⟨w.heap.size, 0, none⟩) 0 G) []) := show OwnI _ _ _ _ by simpa [OwnI] using hown
  clear hown hsz hle
  go_enter Tryz.func83, Tryz.ntmps83
  go_wp2_with (at_builtin; refine Lib.wpList_append_run _ rfl _ _ _ _ rfl _ _ rfl rfl _ _ (hrz _) ?_)
  all_goals (go_ret; exact ⟨_, rfl, hown'.out, hbel⟩)
end Go.Proofs.YtcgclhahonndbaaGreat
namespace Go.Proofs.YtcgclhahonndbaaGreat
open Go.RowKit Go.Shelf
set_option linter.unusedVariables false
/-- A box of two slices. -/
def Two (W : World) (B : Nat) (v1 v2 : Value) : Prop := W.heap[B]? = some (.cells #[v1, v2] 22)
theorem Two.lt {W : World} {B : Nat} {v1 v2 : Value} (h : Two W B v1 v2) : B < W.heap.size := (Array.getElem?_eq_some_iff.1 h).1
theorem Two.below {W W' : World} {B : Nat} {v1 v2 : Value} (h : Two W B v1 v2) (hb : Below W.heap.size W W') : Two W' B v1 v2 := (hb.block B h.lt).trans h
theorem Two.c0 {W : World} {B : Nat} {v1 v2 : Value} (h : Two W B v1 v2) : W.cell? ⟨B, 0, none⟩ = some v1 := by simp [World.cell?, show W.heap[B]? = _ from h]
theorem Two.c1 {W : World} {B : Nat} {v1 v2 : Value} (h : Two W B v1 v2) : W.cell? ⟨B, 1, none⟩ = some v2 := by simp [World.cell?, show W.heap[B]? = _ from h]
theorem grow_z (z : Int) (n : Nat) (w : World) (hz : z = (n : Int)) (h0 : 0 < n) (hn : n ≤ 1000) : Calls Tryz.prog 83 #[.slice none 0 0, .int .i64 z] w fun e w' => ∃ v, e = .returned v ∧ OwnI w' w.heap.size v [] ∧ Below w.heap.size w w' := by
  rw [hz]
  exact grow_any n w h0 hn
set_option maxRecDepth 100000 in
set_option maxHeartbeats 2000000 in
theorem concat_any (B : Nat) (v1 v2 : Value) (l1 l2 : List Int) (w : World) (h1 : Rd w v1 l1) (h2 : Rd w v2 l2) (hB : Two w B v1 v2) (h0 : 0 < l1.length + l2.length) (h9 : l1.length + l2.length ≤ 1000) :
    Calls Tryz.prog 58 #[.slice (some ⟨B, 0, none⟩) 2 2] w fun e w' => ∃ v, e = .returned v ∧ OwnI w' w.heap.size v (l1 ++ l2) ∧ Below w.heap.size w w' := by
  have h1' := h1
  have h2' := h2
  obtain ⟨_, a1, c1, rfl⟩ := h1.form
  obtain ⟨_, a2, c2, rfl⟩ := h2.form
  have b0 := hB.c0
  have b1 := hB.c1
  go_enter Tryz.func58, Tryz.ntmps58
  go_wp2
  refine wp_loop_rounds 3 ?_
  rw [rounds_succ]; go_wp2
  rw [rounds_succ]; go_wp2
  have hz : (l1.length : Int) + (l2.length : Int) = ((l1.length + l2.length : Nat) : Int) := by omega
  have hZ : Hid ((l1.length : Int) + (l2.length : Int) = ((l1.length + l2.length : Nat) : Int)) := hz
  clear hz
  rw [rounds_succ]
  go_wp2_with (go_at_call 83; refine (grow_z _ (l1.length + l2.length) _ (by first | exact hZ.out | omega) h0 h9).mono ?_; rintro e w1 ⟨v, rfl, o1, hb1⟩; obtain ⟨ao, co, rfl⟩ := o1.form; have b0 := (hB.below hb1).c0; have b1 := (hB.below hb1).c1; have hR1 := h1'.below hb1; have hR2 := h2'.below hb1; have hs1 := hb1.size)
  refine wp_loop_rounds 3 ?_
  rw [rounds_succ]
  go_wp2_with (at_builtin; refine append_rdc rfl _ _ 22 rfl w.heap.size 3 1 _ 8 Tryz.underlying22 Tryz.info3 rfl (by decide) (by decide) _ 0 [] rfl o1 _ l1.length _ rfl hR1 (ints_one l1) (by omega) hs1 ?_; intro v2 w2 o2 g2; have B2 : Below w.heap.size w w2 := hb1.grown g2 hs1 (by intro q hq; exact (World.ownsRow.lt o1 q hq).1); have b0 := (hB.below B2).c0; have b1 := (hB.below B2).c1; have hR2 := h2'.below B2; have hs2 := B2.size)
  rw [rounds_succ]
  go_wp2_with (at_builtin; refine append_rdc rfl _ _ 22 rfl w.heap.size 3 1 _ 8 Tryz.underlying22 Tryz.info3 rfl (by decide) (by decide) _ _ _ rfl o2 _ l2.length _ rfl hR2 (ints_one l2) (by omega) hs2 ?_; intro v3 w3 o3 g3; have B3 : Below w.heap.size w w3 := B2.grown g3 hs2 (by intro q hq; exact (World.ownsRow.lt o2 q hq).1))
  rw [rounds_succ]
  go_wp2
  go_ret
  refine ⟨_, rfl, ?_, B3⟩
  unfold OwnI
  simpa using o3
end Go.Proofs.YtcgclhahonndbaaGreat
namespace Go.Proofs.YtcgclhahonndbaaGreat
open Go.RowKit Go.Shelf
set_option linter.unusedVariables false
/-- An image in a block of its own: sixteen words. -/
def Im (W : World) (g : Nat) (L : List Int) : Prop := W.heap[g]? = some (.cells (L.map (Value.int .i64)).toArray 61 (0, 0))
theorem Im.lt {W : World} {g : Nat} {L : List Int} (h : Im W g L) : g < W.heap.size := (Array.getElem?_eq_some_iff.1 h).1
theorem Im.belowN {W W' : World} {g n : Nat} {L : List Int} (h : Im W g L) (hb : Below n W W') (hg : g < n) : Im W' g L := (hb.block g hg).trans h
theorem Im.below {W W' : World} {g : Nat} {L : List Int} (h : Im W g L) (hb : Below W.heap.size W W') : Im W' g L := h.belowN hb h.lt
theorem Im.cell {W : World} {g : Nat} {L : List Int} (h : Im W g L) {k : Nat} {z : Int} (hk : L[k]? = some z) : W.cell? ⟨g, k, none⟩ = some (.int .i64 z) := by
  simp [World.cell?, show W.heap[g]? = _ from h, hk]
theorem Im.range {W : World} {g : Nat} {L : List Int} (h : Im W g L) : W.rangeAt g 0 (L.map (Value.int .i64)) := by
  intro j v hv
  rw [List.getElem?_map] at hv
  obtain ⟨z, hz, rfl⟩ := Option.map_eq_some_iff.1 hv
  rw [Nat.zero_add]
  exact h.cell hz
theorem Im.frozen {W : World} {g : Nat} {L : List Int} (h : Im W g L) (k : Nat) : W.frozen? ⟨g, k, none⟩ = false := by
  simp [World.frozen?, show W.heap[g]? = _ from h]
theorem Im.there {W : World} {g : Nat} {L : List Int} (h : Im W g L) : W.there g 0 L.length := by
  intro j hj
  rw [Nat.zero_add, h.cell (List.getElem?_eq_getElem hj)]
  exact ⟨rfl, h.frozen j⟩
theorem Im.rd {W : World} {g : Nat} {L : List Int} (h : Im W g L) (off n c : Nat) (hn : off + n ≤ L.length) (hc : n ≤ c) (hl : n ≤ 1000) : Rd W (.slice (some ⟨g, off, none⟩) n c) ((L.drop off).take n) := by
  have e : ((L.drop off).take n).length = n := by simp; omega
  unfold Rd
  rw [e]
  refine ⟨by rw [List.length_map, e, Nat.mul_one], hl, some ⟨g, off, none⟩, c, rfl, hc, .inr ⟨g, off, rfl, h.lt, ?_⟩⟩
  intro j u hu
  rw [List.getElem?_map] at hu
  obtain ⟨z, hz, rfl⟩ := Option.map_eq_some_iff.1 hu
  refine h.cell ?_
  rw [List.getElem?_take] at hz
  split at hz
  · rw [List.getElem?_drop] at hz; exact hz
  · cases hz
theorem Im.set {W : World} {g : Nat} {L : List Int} (h : Im W g L) (k : Nat) (z : Int) : Im (W.setCell ⟨g, k, none⟩ (.int .i64 z)) g (L.set k z) := by
  have := heap_setCell_same W g k _ 61 (.int .i64 z) h
  unfold Im
  rw [this]
  simp
/-- A record in a box. -/
def RcAt (W : World) (b : Nat) (x : Rc) : Prop := W.heap[b]? = some (.cells #[.int .i64 x.k, .string x.key, .string x.val, .int .i64 x.ch] 40)
theorem RcAt.lt {W : World} {b : Nat} {x : Rc} (h : RcAt W b x) : b < W.heap.size := (Array.getElem?_eq_some_iff.1 h).1
theorem RcAt.belowN {W W' : World} {b n : Nat} {x : Rc} (h : RcAt W b x) (hb : Below n W W') (hg : b < n) : RcAt W' b x := (hb.block b hg).trans h
theorem RcAt.below {W W' : World} {b : Nat} {x : Rc} (h : RcAt W b x) (hb : Below W.heap.size W W') : RcAt W' b x := h.belowN hb h.lt
theorem RcAt.c {W : World} {b : Nat} {x : Rc} (h : RcAt W b x) : W.cell? ⟨b, 0, none⟩ = some (.int .i64 x.k) ∧ W.cell? ⟨b, 1, none⟩ = some (.string x.key) ∧ W.cell? ⟨b, 2, none⟩ = some (.string x.val) ∧ W.cell? ⟨b, 3, none⟩ = some (.int .i64 x.ch) := by
  simp [World.cell?, show W.heap[b]? = _ from h]
theorem RcAt.other {W : World} {b g k : Nat} {x : Rc} (h : RcAt W b x) (hn : b ≠ g) (u : Value) : RcAt (W.setCell ⟨g, k, none⟩ u) b x := (Below.heap_setCell _ _ _ b hn).trans h
theorem Im.other {W : World} {b g k : Nat} {L : List Int} (h : Im W b L) (hn : b ≠ g) (u : Value) : Im (W.setCell ⟨g, k, none⟩ u) b L := (Below.heap_setCell _ _ _ b hn).trans h
/-- 'copy(w[off:off+n], l)', as one step of a region that draws. -/
theorem step_img {ops : Array Oper} {o : Oper} {a : Act} {w : World} {K : Act → World → Prop} {Q : Exit → Act → World → Prop} {E : Prop} (hgd : o.guard = none) (d s : Operand)
    (ho : o.op = .call { callee := .builtin .copy, args := #[d, s], argTypes := #[22, 22] }) (g off n c : Nat) (zs L : List Int) (v : Value) (hd : a.eval d = .slice (some ⟨g, off, none⟩) n c) (hs : a.eval s = v)
    (hR : Rl w v zs) (hI : Im w g L) (hL : off + n ≤ L.length)
    (h : ∀ w', Im w' g (splice L off (zs.take n)) → Below g w w' → K (a.put o.dst (goInt (zs.take n).length)) w') :
    if Region.wanted o (yielded ops a.tmps) = true then Oper.wp Tryz.prog o a w K Q else E := by
  have hsz : (Tryz.prog.info? 3).map (·.size) = some 1 := by
    obtain ⟨i0, hi, _, hz1, _⟩ := info_parts Tryz.info3
    rw [hi]; simp [hz1]
  obtain ⟨hk, ad, cap, rfl, hcap, h3⟩ := hR
  refine step_copy_splice hgd d s 22 22 ho 3 Tryz.underlying22 hsz _ _ n c zs.length cap hd hs g off (L.map (Value.int .i64)) 61 hI ((zs.take n).map (Value.int .i64)) (by simp; exact Nat.min_comm _ _) ?_ (by simp; omega) (ints_one _) g w (Below.refl _ _) (Nat.le_refl _) ?_
  · intro h0
    refine ⟨rfl, ?_⟩
    rcases h3 with ⟨hz, _⟩ | ⟨b, o', rfl, _, hc⟩
    · simp [hz] at h0
    · refine ⟨_, rfl, fun j v hv => ?_⟩
      rw [Addr.add_lit]
      refine hc j v ?_
      rw [List.map_take, List.getElem?_take] at hv
      split at hv
      · exact hv
      · cases hv
  · intro w' h1 h2
    have e : splice (L.map (Value.int .i64)) off ((zs.take n).map (Value.int .i64)) = (splice L off (zs.take n)).map (Value.int .i64) := by simp [splice]
    rw [e] at h1
    have := h w' h1.out h2
    rwa [List.length_map]
end Go.Proofs.YtcgclhahonndbaaGreat
