/- Set over from a lower layer: Recc. -/
import Derived.Test.YtgcdhenbpkcmgaaBase
import Derived.Test.YtgcdhenbpkcmgaaNStepc
import Derived.Test.YtgcdhenbpkcmgaaQuietb
import Derived.Test.YtgcdhenbpkcmgaaRRecb
namespace Go.Proofs.Ytgcdhenbpkcmgaa
open Go.RowKit Go.Shelf
set_option linter.unusedVariables false
/-- A box of two slices. -/
def Two (W : World) (B : Nat) (v1 v2 : Value) : Prop := W.heap[B]? = some (.cells #[v1, v2] 23)
theorem Two.lt {W : World} {B : Nat} {v1 v2 : Value} (h : Two W B v1 v2) : B < W.heap.size := (Array.getElem?_eq_some_iff.1 h).1
theorem Two.below {W W' : World} {B : Nat} {v1 v2 : Value} (h : Two W B v1 v2) (hb : Below W.heap.size W W') : Two W' B v1 v2 := (hb.block B h.lt).trans h
theorem Two.c0 {W : World} {B : Nat} {v1 v2 : Value} (h : Two W B v1 v2) : W.cell? ⟨B, 0, none⟩ = some v1 := by simp [World.cell?, show W.heap[B]? = _ from h]
theorem Two.c1 {W : World} {B : Nat} {v1 v2 : Value} (h : Two W B v1 v2) : W.cell? ⟨B, 1, none⟩ = some v2 := by simp [World.cell?, show W.heap[B]? = _ from h]
theorem grow_z (z : Int) (n : Nat) (w : World) (hz : z = (n : Int)) (h0 : 0 < n) (hn : n ≤ 1000) : Calls Try.prog 98 #[.slice none 0 0, .int .i64 z] w fun e w' => ∃ v, e = .returned v ∧ OwnI w' w.heap.size v [] ∧ Below w.heap.size w w' := by
  rw [hz]
  exact grow_any n w h0 hn
set_option maxRecDepth 100000 in
set_option maxHeartbeats 2000000 in
theorem concat_any (B : Nat) (v1 v2 : Value) (l1 l2 : List Int) (w : World) (h1 : Rd w v1 l1) (h2 : Rd w v2 l2) (hB : Two w B v1 v2) (h0 : 0 < l1.length + l2.length) (h9 : l1.length + l2.length ≤ 1000) :
    Calls Try.prog 82 #[.slice (some ⟨B, 0, none⟩) 2 2] w fun e w' => ∃ v, e = .returned v ∧ OwnI w' w.heap.size v (l1 ++ l2) ∧ Below w.heap.size w w' := by
  have h1' := h1
  have h2' := h2
  obtain ⟨_, a1, c1, rfl⟩ := h1.form
  obtain ⟨_, a2, c2, rfl⟩ := h2.form
  have b0 := hB.c0
  have b1 := hB.c1
  go_enter Try.func82, Try.ntmps82
  go_wp2
  refine wp_loop_rounds 3 ?_
  rw [rounds_succ]; go_wp2
  rw [rounds_succ]; go_wp2
  have hz : (l1.length : Int) + (l2.length : Int) = ((l1.length + l2.length : Nat) : Int) := by omega
  have hZ : Hid ((l1.length : Int) + (l2.length : Int) = ((l1.length + l2.length : Nat) : Int)) := hz
  clear hz
  rw [rounds_succ]
  go_wp2_with (go_at_call 98; refine (grow_z _ (l1.length + l2.length) _ (by first | exact hZ.out | omega) h0 h9).mono ?_; rintro e w1 ⟨v, rfl, o1, hb1⟩; obtain ⟨ao, co, rfl⟩ := o1.form; have b0 := (hB.below hb1).c0; have b1 := (hB.below hb1).c1; have hR1 := h1'.below hb1; have hR2 := h2'.below hb1; have hs1 := hb1.size)
  refine wp_loop_rounds 3 ?_
  rw [rounds_succ]
  go_wp2_with (at_builtin; refine append_rdc rfl _ _ 23 rfl w.heap.size 3 1 _ 8 Try.underlying23 Try.info3 rfl (by decide) (by decide) _ 0 [] rfl o1 _ l1.length _ rfl hR1 (ints_one l1) (by omega) hs1 ?_; intro v2 w2 o2 g2; have B2 : Below w.heap.size w w2 := hb1.grown g2 hs1 (by intro q hq; exact (World.ownsRow.lt o1 q hq).1); have b0 := (hB.below B2).c0; have b1 := (hB.below B2).c1; have hR2 := h2'.below B2; have hs2 := B2.size)
  rw [rounds_succ]
  go_wp2_with (at_builtin; refine append_rdc rfl _ _ 23 rfl w.heap.size 3 1 _ 8 Try.underlying23 Try.info3 rfl (by decide) (by decide) _ _ _ rfl o2 _ l2.length _ rfl hR2 (ints_one l2) (by omega) hs2 ?_; intro v3 w3 o3 g3; have B3 : Below w.heap.size w w3 := B2.grown g3 hs2 (by intro q hq; exact (World.ownsRow.lt o2 q hq).1))
  rw [rounds_succ]
  go_wp2
  go_ret
  refine ⟨_, rfl, ?_, B3⟩
  unfold OwnI
  simpa using o3
end Go.Proofs.Ytgcdhenbpkcmgaa
