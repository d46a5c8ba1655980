/- Walks of layer 4: the document's own answers: one word changed; what may be. -/
import Derived.Test.YthibgmndgkhfiaaMemin
namespace Go.Proofs.Ythibgmndgkhfiaa
open Go.RowKit Go.Shelf
set_option linter.unusedVariables false

theorem own_zy {W : World} {base : Nat} {v : Value} {zs : List Int} (h : W.ownsRow base 3 1 v (0 + zs.length) ([] ++ zs.map (Value.int .i64))) : OwnI W base v zs := by
  rw [Nat.zero_add] at h
  exact h

set_option maxRecDepth 100000 in
set_option maxHeartbeats 1000000 in
theorem setR_any (v : Value) (zs : List Int) (k : Nat) (y : Int) (w : World) (hR : Rd w v zs) (hk : k < zs.length) : Calls Try.prog 39 #[v, .int .i64 (k : Int), .int .i64 y] w fun e w' => ∃ v', e = .returned v' ∧ OwnI w' w.heap.size v' (zs.set k y) ∧ Below w.heap.size w w' := by
  have hR' := hR
  obtain ⟨hl, a, cap, rfl⟩ := hR.form
  have hkI : (k : Int) < (zs.length : Int) := by omega
  go_enter Try.func39, Try.ntmps39
  go_wp2_with (first | (at_builtin; refine append_rdc rfl _ _ 22 rfl w.heap.size 3 1 _ 8 Try.underlying22 Try.info3 rfl (by decide) (by decide) _ 0 [] rfl (World.ownsRow_made (base := w.heap.size) (e := 3) (size := 1) w #[] 0 (Nat.le_refl _) (by omega) rfl) _ zs.length _ rfl (hR'.below ((Below.refl _ w).alloc (Nat.le_refl _) _)) (ints_one zs) (by omega) (by simp) ?_; intro v2 w2 o2 g2; have B2 : Below w.heap.size w w2 := ((Below.refl _ w).alloc (Nat.le_refl _) _).grown g2 (by simp) (by intro q hq; cases hq; exact Nat.le_refl _); have O2 : OwnI w2 w.heap.size v2 zs := own_zy o2; obtain ⟨a2, c2, rfl⟩ := O2.form; obtain ⟨g, rfl, hbg, hgl, ⟨hc, hf⟩, hset⟩ := O2.put hk; have HS : Hid (OwnI _ _ _ (zs.set k y)) := hset y; have HB : Hid (Below w.heap.size w (w2.setCell ⟨g, k, none⟩ (.int .i64 y))) := B2.setCell (p := ⟨g, k, none⟩) hbg _; clear hset O2 o2 g2))
  go_ret
  exact ⟨_, rfl, HS.out, HB.out⟩
end Go.Proofs.Ythibgmndgkhfiaa
