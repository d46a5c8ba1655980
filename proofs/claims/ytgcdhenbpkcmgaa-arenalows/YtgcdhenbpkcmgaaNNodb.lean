/- Set over from a lower layer: Nodb. -/
import Derived.Test.YtgcdhenbpkcmgaaBase
import Derived.Test.YtgcdhenbpkcmgaaQuietb
import Derived.Test.YtgcdhenbpkcmgaaNNoda
namespace Go.Proofs.Ytgcdhenbpkcmgaa
open Go.RowKit Go.Shelf
set_option linter.unusedVariables false
/-- A bool in a block of its own. -/
def Bb (W : World) (g : Nat) (s : Bool) : Prop := W.heap[g]? = some (.cells #[.bool s] 4 (0, 0))
theorem Bb.lt {W : World} {g : Nat} {s : Bool} (h : Bb W g s) : g < W.heap.size := (Array.getElem?_eq_some_iff.1 h).1
theorem Bb.belowN {W W' : World} {g n : Nat} {s : Bool} (h : Bb W g s) (hb : Below n W W') (hg : g < n) : Bb W' g s := (hb.block g hg).trans h
theorem Bb.cell {W : World} {g : Nat} {s : Bool} (h : Bb W g s) : W.cell? ⟨g, 0, none⟩ = some (.bool s) ∧ W.frozen? ⟨g, 0, none⟩ = false := by
  constructor
  · simp [World.cell?, show W.heap[g]? = _ from h]
  · simp [World.frozen?, show W.heap[g]? = _ from h]
theorem Bb.set {W : World} {g : Nat} {s : Bool} (h : Bb W g s) (t : Bool) : Bb (W.setCell ⟨g, 0, none⟩ (.bool t)) g t := by
  have := heap_setCell_same W g 0 _ 4 (.bool t) h
  unfold Bb
  rw [this]
  simp
/-- Numbers that are read do not lie in it. -/
theorem Rd.bb {W W' : World} {g : Nat} {s : Bool} {v : Value} {zs : List Int} (h : Rd W v zs) (hB : Bb W g s) (hb : Below g W W') (ho : ∀ b, b < W.heap.size → b ≠ g → W'.heap[b]? = W.heap[b]?) : Rd W' v zs := by
  obtain ⟨h1, h2, a, cap, rfl, h0, h3⟩ := h
  refine ⟨h1, h2, a, cap, rfl, h0, ?_⟩
  rcases h3 with h | ⟨b, off, rfl, hlt, hc⟩
  · exact .inl h
  · by_cases he : zs.length = 0
    · exact .inl ⟨he, fun h => by cases h⟩
    · have hbg : b ≠ g := by
        rintro rfl
        obtain ⟨u, hu⟩ : ∃ u, (zs.map (Value.int .i64))[0]? = some u := ⟨_, List.getElem?_eq_getElem (by simp; omega)⟩
        have := hc 0 u hu
        rw [Nat.add_zero] at this
        simp only [World.cell?, show W.heap[b]? = _ from hB] at this
        rw [List.getElem?_map] at hu
        obtain ⟨z, _, rfl⟩ := Option.map_eq_some_iff.1 hu
        match off, this with
        | 0, h => simp at h
        | n + 1, h => simp at h
      have hheap := ho b hlt hbg
      have hsz : b < W'.heap.size := by
        have := hb.size
        omega
      exact .inr ⟨b, off, rfl, hsz, fun j u hu => (World.cell?_of_block hheap).trans (hc j u hu)⟩
theorem all_next {l : List Int} {f : Int → Bool} {k : Nat} {x : Int} (hx : l[k]? = some x) : (l.take (k + 1)).all f = ((l.take k).all f && f x) := by
  rw [take_next hx, List.all_append]
  simp
theorem enter53 : ∀ args w, (callFunc 53 args).run Try.prog w = .ok (.enter 53 args) w := enters_of Try.func53 rfl rfl
set_option maxRecDepth 100000 in
set_option maxHeartbeats 1000000 in
/-- The closure: what stands there, and all of these may be. -/
theorem ask_any (p : Int) (f : Int → Bool) (v : Value) (zs : List Int) (g : Nat) (s : Bool) (w : World) (hf : ∀ x w, Calls Try.prog 54 #[.int .i64 p, .int .i64 x] w fun e w' => e = .returned (.bool (f x)) ∧ w' = w)
    (hR : Rd w v zs) (hB : Bb w g s) : Calls Try.prog 53 #[.int .i64 p, v, .pointer (some ⟨g, 0, none⟩)] w fun e w' => e = .returned (.tuple #[]) ∧ Bb w' g (s && zs.all f) ∧ Below g w w' ∧ ∀ b, b < w.heap.size → b ≠ g → w'.heap[b]? = w.heap[b]? := by
  obtain ⟨hl, a, cap, rfl⟩ := hR.form
  have HR : Hid (Rd w (.slice a zs.length cap) zs) := hR
  have HBw : Hid (Bb w g s) := hB
  clear hR hB
  go_enter Try.func53, Try.ntmps53
  go_wp2
  go_loopw [9] (fun i w1 => ∃ k : Nat, k ≤ zs.length ∧ i = .int .i64 (k : Int) ∧ Bb w1 g (s && (zs.take k).all f) ∧ Below g w w1 ∧ ∀ b, b < w.heap.size → b ≠ g → w1.heap[b]? = w.heap[b]?) (fun i _ => zs.length - (intOf i).toNat)
  case atStart => exact ⟨0, Nat.zero_le _, rfl, by simpa using HBw.out, Below.refl _ _, fun _ _ _ => rfl⟩
  case round =>
    obtain ⟨k, hk, rfl, hB, hb, ho⟩ := hrel
    have HB : Hid (Bb wr g (s && (zs.take k).all f)) := hB
    have Hb : Hid (Below g w wr) := hb
    have Ho : Hid (∀ b, b < w.heap.size → b ≠ g → wr.heap[b]? = w.heap[b]?) := ho
    have hR := HR.out.bb HBw.out hb ho
    clear hB hb ho
    by_cases hlt : k < zs.length
    · have hltI : (k : Int) < (zs.length : Int) := by omega
      have Hx : Hid (zs[k]? = some zs[k]) := List.getElem?_eq_getElem hlt
      obtain ⟨b, off, rfl, hc⟩ := hR.at k hlt
      clear hR
      generalize zs[k] = x at *
      obtain ⟨c0, f0⟩ := HB.out.cell
      have Hn : Hid ((s && (zs.take (k + 1)).all f) = ((s && (zs.take k).all f) && f x)) := by (show _ = _; rw [all_next Hx.out, Bool.and_assoc])
      cases e1 : (s && (zs.take k).all f) with
      | true =>
        rw [e1] at c0
        go_wp2_with (first
          | (go_at_call 54; refine (hf x _).mono ?_; rintro e w' ⟨rfl, hw⟩; rw [hw]; clear hw w'))
        go_roundw
        case rel => exact ⟨k + 1, by omega, by go_num, by rw [Hn.out, e1, Bool.true_and]; exact HB.out.set _, Hb.out.setCell (p := ⟨g, 0, none⟩) (Nat.le_refl _) _, fun b h1 h2 => (Below.heap_setCell _ _ _ b h2).trans (Ho.out b h1 h2)⟩
        case measure => simp [intOf]; omega
      | false =>
        rw [e1] at c0
        go_wp2
        go_roundw
        case rel => exact ⟨k + 1, by omega, by go_num, by rw [Hn.out, e1, Bool.false_and]; exact HB.out.set _, Hb.out.setCell (p := ⟨g, 0, none⟩) (Nat.le_refl _) _, fun b h1 h2 => (Below.heap_setCell _ _ _ b h2).trans (Ho.out b h1 h2)⟩
        case measure => simp [intOf]; omega
    · have hge : ¬ (k : Int) < (zs.length : Int) := by omega
      have Hn : Hid (zs.take k = zs) := List.take_of_length_le (by omega)
      clear hR
      go_wp2
      go_end0
      exact ⟨rfl, by have := HB.out; rwa [Hn.out] at this, Hb.out, Ho.out⟩
end Go.Proofs.Ytgcdhenbpkcmgaa
