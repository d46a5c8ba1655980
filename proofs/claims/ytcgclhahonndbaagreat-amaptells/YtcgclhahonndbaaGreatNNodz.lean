/- Set over from a lower layer: NNodz. -/
import Derived.Test.YtcgclhahonndbaaGreatBase
import Derived.Test.YtcgclhahonndbaaGreatNNumz
import Derived.Deep.RegionLaw
import Derived.Deep.RegionHeld3
import Derived.Laws.CopyOwn
import Derived.Lib.AppendZeros
import Derived.Maps.OwnOps
import Derived.Laws.StructEq
import Derived.Deep.Strs
import Derived.Deep.Slices
namespace Go.Proofs.YtcgclhahonndbaaGreat
open Go.RowKit Go.Shelf Classical
set_option linter.unusedVariables false
theorem all_range_int : ∀ (xs ys : List Int), xs.length = ys.length → ((List.range xs.length).all fun i => xs.getD i 0 == ys.getD i 0) = (xs == ys)
  | [], [], _ => rfl
  | x :: xs, y :: ys, h => by
    have ih := all_range_int xs ys (by simpa using h)
    rw [List.length_cons, List.range_succ_eq_map, List.all_cons, List.all_map]
    simp only [List.getD_cons_zero, Function.comp_def, List.getD_cons_succ, ih]
    simp [List.cons_beq_cons]
  | [], _ :: _, h => by simp at h
  | _ :: _, [], h => by simp at h
theorem Rl.base {W : World} {a : Option Addr} {n c : Nat} {zs : List Int} (h : Rl W (.slice a n c) zs) (h0 : 0 < zs.length) : ∃ b off, a = some ⟨b, off, none⟩ ∧ ∀ k z, zs[k]? = some z → W.cell? ⟨b, off + k, none⟩ = some (.int .i64 z) := by
  obtain ⟨_, a', cap', e, _, h3⟩ := h
  cases e
  rcases h3 with ⟨h, _⟩ | ⟨b, off, rfl, _, hc⟩
  · omega
  · exact ⟨b, off, rfl, fun k z hz => hc k _ (by simp [hz])⟩
theorem Rl.cell {W : World} {b off n c : Nat} {zs : List Int} (h : Rl W (.slice (some ⟨b, off, none⟩) n c) zs) {k : Nat} {z : Int} (hz : zs[k]? = some z) : W.cell? ⟨b, off + k, none⟩ = some (.int .i64 z) := by
  obtain ⟨hk, _⟩ := List.getElem?_eq_some_iff.1 hz
  obtain ⟨b', off', e, hc⟩ := h.base (by omega)
  cases e
  exact hc k z hz
theorem Rl.take {W : World} {b off n c : Nat} {zs : List Int} (h : Rl W (.slice (some ⟨b, off, none⟩) n c) zs) (k : Nat) (hk : k ≤ zs.length) (hk2 : k ≤ 1000) : Rd W (.slice (some ⟨b, off, none⟩) k c) (zs.take k) := by
  obtain ⟨h2, a, cap, e, h0, h3⟩ := h
  cases e
  have hlen : (zs.take k).length = k := by simp; omega
  unfold Rd
  rw [hlen]
  rcases h3 with ⟨hz, h⟩ | ⟨b', off', e, hlt, hc⟩
  · exact ⟨by simp; omega, by omega, some ⟨b, off, none⟩, c, rfl, by omega, .inl ⟨by omega, fun h => by cases h⟩⟩
  · cases e
    refine ⟨by simp; omega, by omega, some ⟨b, off, none⟩, c, rfl, by omega, .inr ⟨b, off, rfl, hlt, ?_⟩⟩
    intro j u hu
    refine hc j u ?_
    rw [List.map_take, List.getElem?_take] at hu
    split at hu
    · exact hu
    · cases hu
theorem Rl.drop {W : World} {b off n c : Nat} {zs : List Int} (h : Rl W (.slice (some ⟨b, off, none⟩) n c) zs) (k : Nat) (hk : k ≤ zs.length) : Rl W (.slice (some ⟨b, off + k, none⟩) (n - k) (c - k)) (zs.drop k) := by
  obtain ⟨h2, a, cap, e, h0, h3⟩ := h
  cases e
  have hlen : (zs.drop k).length = zs.length - k := by simp
  unfold Rl
  rw [hlen]
  rcases h3 with ⟨hz, h⟩ | ⟨b', off', e, hlt, hc⟩
  · exact ⟨by omega, some ⟨b, off + k, none⟩, c - k, rfl, by omega, .inl ⟨by omega, fun h => by cases h⟩⟩
  · cases e
    refine ⟨by omega, some ⟨b, off + k, none⟩, c - k, rfl, by omega, .inr ⟨b, off + k, rfl, hlt, ?_⟩⟩
    intro j u hu
    rw [Nat.add_assoc]
    refine hc (k + j) u ?_
    rw [← hu, List.map_drop, List.getElem?_drop]
/-- A head in a block of its own: sixteen words. -/
def Hw (W : World) (g : Nat) (L : List Int) : Prop := W.heap[g]? = some (.cells (L.map (Value.int .i64)).toArray 64 (0, 0))
theorem Hw.lt {W : World} {g : Nat} {L : List Int} (h : Hw W g L) : g < W.heap.size := (Array.getElem?_eq_some_iff.1 h).1
theorem Hw.belowN {W W' : World} {g n : Nat} {L : List Int} (h : Hw W g L) (hb : Below n W W') (hg : g < n) : Hw W' g L := (hb.block g hg).trans h
theorem Hw.below {W W' : World} {g : Nat} {L : List Int} (h : Hw W g L) (hb : Below W.heap.size W W') : Hw W' g L := h.belowN hb h.lt
theorem Hw.cell {W : World} {g : Nat} {L : List Int} (h : Hw W g L) {k : Nat} {z : Int} (hk : L[k]? = some z) : W.cell? ⟨g, k, none⟩ = some (.int .i64 z) := by
  simp [World.cell?, show W.heap[g]? = _ from h, hk]
theorem Hw.range {W : World} {g : Nat} {L : List Int} (h : Hw W g L) : W.rangeAt g 0 (L.map (Value.int .i64)) := by
  intro j v hv
  rw [List.getElem?_map] at hv
  obtain ⟨z, hz, rfl⟩ := Option.map_eq_some_iff.1 hv
  rw [Nat.zero_add]
  exact h.cell hz
theorem Hw.frozen {W : World} {g : Nat} {L : List Int} (h : Hw W g L) (k : Nat) : W.frozen? ⟨g, k, none⟩ = false := by
  simp [World.frozen?, show W.heap[g]? = _ from h]
theorem Hw.there {W : World} {g : Nat} {L : List Int} (h : Hw W g L) : W.there g 0 L.length := by
  intro j hj
  rw [Nat.zero_add, h.cell (List.getElem?_eq_getElem hj)]
  exact ⟨rfl, h.frozen j⟩
theorem Hw.rd {W : World} {g : Nat} {L : List Int} (h : Hw W g L) (off n c : Nat) (hn : off + n ≤ L.length) (hc : n ≤ c) (hl : n ≤ 1000) : Rd W (.slice (some ⟨g, off, none⟩) n c) ((L.drop off).take n) := by
  have e : ((L.drop off).take n).length = n := by simp; omega
  unfold Rd
  rw [e]
  refine ⟨by rw [List.length_map, e, Nat.mul_one], hl, some ⟨g, off, none⟩, c, rfl, hc, .inr ⟨g, off, rfl, h.lt, ?_⟩⟩
  intro j u hu
  rw [List.getElem?_map] at hu
  obtain ⟨z, hz, rfl⟩ := Option.map_eq_some_iff.1 hu
  refine h.cell ?_
  rw [List.getElem?_take] at hz
  split at hz
  · rw [List.getElem?_drop] at hz; exact hz
  · cases hz
theorem Hw.set {W : World} {g : Nat} {L : List Int} (h : Hw W g L) (k : Nat) (z : Int) : Hw (W.setCell ⟨g, k, none⟩ (.int .i64 z)) g (L.set k z) := by
  have := heap_setCell_same W g k _ 64 (.int .i64 z) h
  unfold Hw
  rw [this]
  simp
theorem Hw.other {W : World} {b g k : Nat} {L : List Int} (h : Hw W b L) (hn : b ≠ g) (u : Value) : Hw (W.setCell ⟨g, k, none⟩ u) b L := (Below.heap_setCell _ _ _ b hn).trans h
theorem Tryz.size64 : (Tryz.prog.info? 64).map (·.size) = some 16 := by kernel_rfl
theorem hw_size {L : List Int} (h : L.length = 16) : (Tryz.prog.info? 64).map (·.size) = some (L.map (Value.int .i64)).toArray.size := by rw [Tryz.size64]; simp [h]
theorem hw_sizeL {L : List Int} (h : L.length = 16) : (Tryz.prog.info? 64).map (·.size) = some (L.map (Value.int .i64)).length := by rw [Tryz.size64]; simp [h]
theorem hw_one (L : List Int) : (L.map (Value.int .i64)).toArray.all (·.oneCell') = true := all_oneCell_toArray (ints_one L)
theorem Hw.laid {W : World} {g : Nat} {L : List Int} (h : Hw W g L) (M : List Int) (hM : M.length = L.length) : (W.setCells g 0 (M.map (Value.int .i64))).rangeAt g 0 (M.map (Value.int .i64)) := World.rangeAt_setCells_same W g 0 _ (by rw [List.length_map, hM]; exact h.there)
def zeros16 : List Int := List.replicate 16 0
/-- 'copy(h.rest[:], l)', as one step of a region that draws. -/
theorem step_hw {ops : Array Oper} {o : Oper} {a : Act} {w : World} {K : Act → World → Prop} {Q : Exit → Act → World → Prop} {E : Prop} (hgd : o.guard = none) (d s : Operand)
    (ho : o.op = .call { callee := .builtin .copy, args := #[d, s], argTypes := #[22, 22] }) (g off n c : Nat) (zs L : List Int) (v : Value) (hd : a.eval d = .slice (some ⟨g, off, none⟩) n c) (hs : a.eval s = v)
    (hR : Rl w v zs) (hI : Hw w g L) (hL : off + n ≤ L.length)
    (h : ∀ w', Hw w' g (splice L off (zs.take n)) → Below g w w' → K (a.put o.dst (goInt (zs.take n).length)) w') :
    if Region.wanted o (yielded ops a.tmps) = true then Oper.wp Tryz.prog o a w K Q else E := by
  have hsz : (Tryz.prog.info? 3).map (·.size) = some 1 := by
    obtain ⟨i0, hi, _, hz1, _⟩ := info_parts Tryz.info3
    rw [hi]; simp [hz1]
  obtain ⟨hk, ad, cap, rfl, hcap, h3⟩ := hR
  refine step_copy_splice hgd d s 22 22 ho 3 Tryz.underlying22 hsz _ _ n c zs.length cap hd hs g off (L.map (Value.int .i64)) 64 hI ((zs.take n).map (Value.int .i64)) (by simp; exact Nat.min_comm _ _) ?_ (by simp; omega) (ints_one _) g w (Below.refl _ _) (Nat.le_refl _) ?_
  · intro h0
    refine ⟨rfl, ?_⟩
    rcases h3 with ⟨hz, _⟩ | ⟨b, o', rfl, _, hc⟩
    · simp [hz] at h0
    · refine ⟨_, rfl, fun j v hv => ?_⟩
      rw [Addr.add_lit]
      refine hc j v ?_
      rw [List.map_take, List.getElem?_take] at hv
      split at hv
      · exact hv
      · cases hv
  · intro w' h1 h2
    have e : splice (L.map (Value.int .i64)) off ((zs.take n).map (Value.int .i64)) = (splice L off (zs.take n)).map (Value.int .i64) := by simp [splice]
    rw [e] at h1
    have := h w' h1.out h2
    rwa [List.length_map]
/-- A part of a list that is read. -/
theorem RdC.part {W : World} {size : Nat} {b off n cap : Nat} {xs : List Value} (h : RdC W size (.slice (some ⟨b, off, none⟩) n cap) n xs) (i k c : Nat) (hi : i + k ≤ n) (hc : k ≤ c) : RdC W size (.slice (some ⟨b, off + i * size, none⟩) k c) k ((xs.drop (i * size)).take (k * size)) := by
  obtain ⟨h1, h2, a', cap', e, h3, h4⟩ := h
  cases e
  have hle : i * size + k * size ≤ n * size := by rw [← Nat.add_mul]; exact Nat.mul_le_mul_right _ hi
  refine ⟨by rw [List.length_take, List.length_drop]; omega, by omega, _, _, rfl, hc, ?_⟩
  rcases h4 with ⟨h0, _⟩ | ⟨b', off', e, hlt, hcell⟩
  · exact .inl ⟨by omega, fun h => by cases h⟩
  · cases e
    refine .inr ⟨_, _, rfl, hlt, fun j u hj => ?_⟩
    rw [List.getElem?_take] at hj
    split at hj
    · rw [List.getElem?_drop] at hj
      have := hcell _ _ hj
      rwa [← Nat.add_assoc] at this
    · cases hj
theorem Rd.part {W : World} {b off n cap : Nat} {zs : List Int} (h : Rd W (.slice (some ⟨b, off, none⟩) n cap) zs) (i k c : Nat) (hi : i + k ≤ zs.length) (hc : k ≤ c) : Rd W (.slice (some ⟨b, off + i, none⟩) k c) ((zs.drop i).take k) := by
  obtain ⟨_, _, e⟩ := h.form.2
  cases e
  have hl : ((zs.drop i).take k).length = k := by rw [List.length_take, List.length_drop]; omega
  have := RdC.part h i k c hi hc
  unfold Rd
  rw [hl, List.map_take, List.map_drop]
  simpa using this
end Go.Proofs.YtcgclhahonndbaaGreat
namespace Go.Proofs.YtcgclhahonndbaaGreat
open Go.RowKit Go.Shelf
set_option linter.unusedVariables false
set_option maxRecDepth 100000 in
theorem mayBe0_any (x : Int) (w : World) : Calls Tryz.prog 60 #[.int .i64 0, .int .i64 x] w fun e w' => e = .returned (.bool (lvB x)) ∧ w' = w := by
  by_cases h1 : x ≥ 0
  · by_cases h2 : x ≤ 9
    · have H : Hid (lvB x = true) := decide_eq_true ⟨h1, h2⟩
      go_enter Tryz.func60, Tryz.ntmps60
      go_wp2
      go_ret
      exact ⟨ret_bool H.out.symm, rfl⟩
    · have H : Hid (lvB x = false) := decide_eq_false (by omega)
      go_enter Tryz.func60, Tryz.ntmps60
      go_wp2
      go_ret
      exact ⟨ret_bool H.out.symm, rfl⟩
  · have H : Hid (lvB x = false) := decide_eq_false (by omega)
    go_enter Tryz.func60, Tryz.ntmps60
    go_wp2
    go_ret
    exact ⟨ret_bool H.out.symm, rfl⟩
set_option maxRecDepth 100000 in
theorem mayBe1_any (x : Int) (w : World) : Calls Tryz.prog 60 #[.int .i64 1, .int .i64 x] w fun e w' => e = .returned (.bool (tuB x)) ∧ w' = w := by
  by_cases h1 : x ≥ 0
  · by_cases h2 : x ≤ 1099511627776
    · have H : Hid (tuB x = true) := decide_eq_true ⟨h1, h2⟩
      go_enter Tryz.func60, Tryz.ntmps60
      go_wp2
      go_ret
      exact ⟨ret_bool H.out.symm, rfl⟩
    · have H : Hid (tuB x = false) := decide_eq_false (by omega)
      go_enter Tryz.func60, Tryz.ntmps60
      go_wp2
      go_ret
      exact ⟨ret_bool H.out.symm, rfl⟩
  · have H : Hid (tuB x = false) := decide_eq_false (by omega)
    go_enter Tryz.func60, Tryz.ntmps60
    go_wp2
    go_ret
    exact ⟨ret_bool H.out.symm, rfl⟩
set_option maxRecDepth 100000 in
theorem mayBe2_any (x : Int) (w : World) : Calls Tryz.prog 60 #[.int .i64 2, .int .i64 x] w fun e w' => e = .returned (.bool (lkB x)) ∧ w' = w := by
  by_cases h1 : x ≥ 0
  · by_cases h2 : x ≤ 255
    · have H : Hid (lkB x = true) := decide_eq_true ⟨h1, h2⟩
      go_enter Tryz.func60, Tryz.ntmps60
      go_wp2
      go_ret
      exact ⟨ret_bool H.out.symm, rfl⟩
    · have H : Hid (lkB x = false) := decide_eq_false (by omega)
      go_enter Tryz.func60, Tryz.ntmps60
      go_wp2
      go_ret
      exact ⟨ret_bool H.out.symm, rfl⟩
  · have H : Hid (lkB x = false) := decide_eq_false (by omega)
    go_enter Tryz.func60, Tryz.ntmps60
    go_wp2
    go_ret
    exact ⟨ret_bool H.out.symm, rfl⟩
set_option maxRecDepth 100000 in
theorem mayBe3_any (x : Int) (w : World) : Calls Tryz.prog 60 #[.int .i64 3, .int .i64 x] w fun e w' => e = .returned (.bool (slB x)) ∧ w' = w := by
  by_cases h1 : x ≥ 1
  · by_cases h2 : x ≤ 255
    · have H : Hid (slB x = true) := decide_eq_true ⟨h1, h2⟩
      go_enter Tryz.func60, Tryz.ntmps60
      go_wp2
      go_ret
      exact ⟨ret_bool H.out.symm, rfl⟩
    · have H : Hid (slB x = false) := decide_eq_false (by omega)
      go_enter Tryz.func60, Tryz.ntmps60
      go_wp2
      go_ret
      exact ⟨ret_bool H.out.symm, rfl⟩
  · have H : Hid (slB x = false) := decide_eq_false (by omega)
    go_enter Tryz.func60, Tryz.ntmps60
    go_wp2
    go_ret
    exact ⟨ret_bool H.out.symm, rfl⟩
set_option maxRecDepth 100000 in
theorem headOf_any (lv tu nx lo : Int) (v : Value) (w : World) (h0 : 0 ≤ lv) (h1 : lv ≤ 9) (h2 : 0 ≤ tu) (h3 : tu ≤ 1099511627776) : Calls Tryz.prog 61 #[.agg #[.int .i64 lv, .int .i64 tu, .int .i64 nx, .int .i64 lo, v]] w fun e w' => e = .returned (.int .i64 (hdI tu lv)) ∧ Below w.heap.size w w' := by
  go_enter Tryz.func61, Tryz.ntmps61
  go_wp2
  go_ret
  exact ⟨ret_int rfl, (Below.refl _ _).alloc (Nat.le_refl _) _⟩
end Go.Proofs.YtcgclhahonndbaaGreat
namespace Go.Proofs.YtcgclhahonndbaaGreat
open Go.RowKit Go.Shelf
set_option linter.unusedVariables false
/-- A bool in a block of its own. -/
def Bb (W : World) (g : Nat) (s : Bool) : Prop := W.heap[g]? = some (.cells #[.bool s] 4 (0, 0))
theorem Bb.lt {W : World} {g : Nat} {s : Bool} (h : Bb W g s) : g < W.heap.size := (Array.getElem?_eq_some_iff.1 h).1
theorem Bb.belowN {W W' : World} {g n : Nat} {s : Bool} (h : Bb W g s) (hb : Below n W W') (hg : g < n) : Bb W' g s := (hb.block g hg).trans h
theorem Bb.cell {W : World} {g : Nat} {s : Bool} (h : Bb W g s) : W.cell? ⟨g, 0, none⟩ = some (.bool s) ∧ W.frozen? ⟨g, 0, none⟩ = false := by
  constructor
  · simp [World.cell?, show W.heap[g]? = _ from h]
  · simp [World.frozen?, show W.heap[g]? = _ from h]
theorem Bb.set {W : World} {g : Nat} {s : Bool} (h : Bb W g s) (t : Bool) : Bb (W.setCell ⟨g, 0, none⟩ (.bool t)) g t := by
  have := heap_setCell_same W g 0 _ 4 (.bool t) h
  unfold Bb
  rw [this]
  simp
/-- Numbers that are read do not lie in it. -/
theorem Rd.bb {W W' : World} {g : Nat} {s : Bool} {v : Value} {zs : List Int} (h : Rd W v zs) (hB : Bb W g s) (hb : Below g W W') (ho : ∀ b, b < W.heap.size → b ≠ g → W'.heap[b]? = W.heap[b]?) : Rd W' v zs := by
  obtain ⟨h1, h2, a, cap, rfl, h0, h3⟩ := h
  refine ⟨h1, h2, a, cap, rfl, h0, ?_⟩
  rcases h3 with h | ⟨b, off, rfl, hlt, hc⟩
  · exact .inl h
  · by_cases he : zs.length = 0
    · exact .inl ⟨he, fun h => by cases h⟩
    · have hbg : b ≠ g := by
        rintro rfl
        obtain ⟨u, hu⟩ : ∃ u, (zs.map (Value.int .i64))[0]? = some u := ⟨_, List.getElem?_eq_getElem (by simp; omega)⟩
        have := hc 0 u hu
        rw [Nat.add_zero] at this
        simp only [World.cell?, show W.heap[b]? = _ from hB] at this
        rw [List.getElem?_map] at hu
        obtain ⟨z, _, rfl⟩ := Option.map_eq_some_iff.1 hu
        match off, this with
        | 0, h => simp at h
        | n + 1, h => simp at h
      have hheap := ho b hlt hbg
      have hsz : b < W'.heap.size := by
        have := hb.size
        omega
      exact .inr ⟨b, off, rfl, hsz, fun j u hu => (World.cell?_of_block hheap).trans (hc j u hu)⟩
theorem all_next {l : List Int} {f : Int → Bool} {k : Nat} {x : Int} (hx : l[k]? = some x) : (l.take (k + 1)).all f = ((l.take k).all f && f x) := by
  rw [take_next hx, List.all_append]
  simp
theorem enter59 : ∀ args w, (callFunc 59 args).run Tryz.prog w = .ok (.enter 59 args) w := enters_of Tryz.func59 rfl rfl
set_option maxRecDepth 100000 in
set_option maxHeartbeats 1000000 in
/-- The closure: what stands there, and all of these may be. -/
theorem ask_any (p : Int) (f : Int → Bool) (v : Value) (zs : List Int) (g : Nat) (s : Bool) (w : World) (hf : ∀ x w, Calls Tryz.prog 60 #[.int .i64 p, .int .i64 x] w fun e w' => e = .returned (.bool (f x)) ∧ w' = w)
    (hR : Rd w v zs) (hB : Bb w g s) : Calls Tryz.prog 59 #[.int .i64 p, v, .pointer (some ⟨g, 0, none⟩)] w fun e w' => e = .returned (.tuple #[]) ∧ Bb w' g (s && zs.all f) ∧ Below g w w' ∧ ∀ b, b < w.heap.size → b ≠ g → w'.heap[b]? = w.heap[b]? := by
  obtain ⟨hl, a, cap, rfl⟩ := hR.form
  have HR : Hid (Rd w (.slice a zs.length cap) zs) := hR
  have HBw : Hid (Bb w g s) := hB
  clear hR hB
  go_enter Tryz.func59, Tryz.ntmps59
  go_wp2
  go_loopw [9] (fun i w1 => ∃ k : Nat, k ≤ zs.length ∧ i = .int .i64 (k : Int) ∧ Bb w1 g (s && (zs.take k).all f) ∧ Below g w w1 ∧ ∀ b, b < w.heap.size → b ≠ g → w1.heap[b]? = w.heap[b]?) (fun i _ => zs.length - (intOf i).toNat)
  case atStart => exact ⟨0, Nat.zero_le _, rfl, by simpa using HBw.out, Below.refl _ _, fun _ _ _ => rfl⟩
  case round =>
    obtain ⟨k, hk, rfl, hB, hb, ho⟩ := hrel
    have HB : Hid (Bb wr g (s && (zs.take k).all f)) := hB
    have Hb : Hid (Below g w wr) := hb
    have Ho : Hid (∀ b, b < w.heap.size → b ≠ g → wr.heap[b]? = w.heap[b]?) := ho
    have hR := HR.out.bb HBw.out hb ho
    clear hB hb ho
    by_cases hlt : k < zs.length
    · have hltI : (k : Int) < (zs.length : Int) := by omega
      have Hx : Hid (zs[k]? = some zs[k]) := List.getElem?_eq_getElem hlt
      obtain ⟨b, off, rfl, hc⟩ := hR.at k hlt
      clear hR
      generalize zs[k] = x at *
      obtain ⟨c0, f0⟩ := HB.out.cell
      have Hn : Hid ((s && (zs.take (k + 1)).all f) = ((s && (zs.take k).all f) && f x)) := by (show _ = _; rw [all_next Hx.out, Bool.and_assoc])
      cases e1 : (s && (zs.take k).all f) with
      | true =>
        rw [e1] at c0
        go_wp2_with (first
          | (go_at_call 60; refine (hf x _).mono ?_; rintro e w' ⟨rfl, hw⟩; rw [hw]; clear hw w'))
        go_roundw
        case rel => exact ⟨k + 1, by omega, by go_num, by rw [Hn.out, e1, Bool.true_and]; exact HB.out.set _, Hb.out.setCell (p := ⟨g, 0, none⟩) (Nat.le_refl _) _, fun b h1 h2 => (Below.heap_setCell _ _ _ b h2).trans (Ho.out b h1 h2)⟩
        case measure => simp [intOf]; omega
      | false =>
        rw [e1] at c0
        go_wp2
        go_roundw
        case rel => exact ⟨k + 1, by omega, by go_num, by rw [Hn.out, e1, Bool.false_and]; exact HB.out.set _, Hb.out.setCell (p := ⟨g, 0, none⟩) (Nat.le_refl _) _, fun b h1 h2 => (Below.heap_setCell _ _ _ b h2).trans (Ho.out b h1 h2)⟩
        case measure => simp [intOf]; omega
    · have hge : ¬ (k : Int) < (zs.length : Int) := by omega
      have Hn : Hid (zs.take k = zs) := List.take_of_length_le (by omega)
      clear hR
      go_wp2
      go_end0
      exact ⟨rfl, by have := HB.out; rwa [Hn.out] at this, Hb.out, Ho.out⟩
end Go.Proofs.YtcgclhahonndbaaGreat
