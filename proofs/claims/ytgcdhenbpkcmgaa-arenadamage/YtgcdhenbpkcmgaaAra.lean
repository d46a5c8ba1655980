/- Layer 11: what is demanded; sets; what a look is told by. -/
import Derived.Test.YtgcdhenbpkcmgaaBase
import Derived.Recover
import Derived.Maps.OwnSet
namespace Go.Proofs.Ytgcdhenbpkcmgaa
open Go.RowKit
set_option linter.unusedVariables false

/-- What a look ends with. -/
def unS : PanicEntry := { v := .iface 71 (.agg #[]), recovered := false }
theorem demand_yes (w : World) : Calls Try.prog 39 #[.bool true] w fun e w' => e = .returned (.tuple #[]) ∧ w' = w := by
  go_enter Try.func39, Try.ntmps39
  go_wp2
  exact ⟨rfl, _, results_none rfl _ _ _, rfl, rfl⟩
theorem demand_no (w : World) : Calls Try.prog 39 #[.bool false] w fun e w' => e = .panicked [unS] ∧ w' = w := by
  go_enter Try.func39, Try.ntmps39
  go_wp2
  exact ⟨rfl, rfl, rfl⟩

/-- A cell of a kind of its own in a block of its own. -/
def Cl (W : World) (g : Nat) (x : Value) (T : TypeId) : Prop := W.heap[g]? = some (.cells #[x] T (0, 0))
theorem Cl.lt {W : World} {g : Nat} {x : Value} {T : TypeId} (h : Cl W g x T) : g < W.heap.size := (Array.getElem?_eq_some_iff.1 h).1
theorem Cl.belowN {W W' : World} {g n : Nat} {x : Value} {T : TypeId} (h : Cl W g x T) (hb : Below n W W') (hg : g < n) : Cl W' g x T := (hb.block g hg).trans h
theorem Cl.below {W W' : World} {g : Nat} {x : Value} {T : TypeId} (h : Cl W g x T) (hb : Below W.heap.size W W') : Cl W' g x T := h.belowN hb h.lt
theorem Cl.cell {W : World} {g : Nat} {x : Value} {T : TypeId} (h : Cl W g x T) : W.cell? ⟨g, 0, none⟩ = some x := by simp [World.cell?, show W.heap[g]? = _ from h]
theorem Cl.free {W : World} {g : Nat} {x : Value} {T : TypeId} (h : Cl W g x T) : W.frozen? ⟨g, 0, none⟩ = false := by simp [World.frozen?, show W.heap[g]? = _ from h]
theorem cl_new (W : World) (x : Value) (T : TypeId) : Cl (W.alloc (.cells #[x] T)) W.heap.size x T := Go.heap_alloc_new _ _
theorem Cl.set {W : World} {g : Nat} {x : Value} {T : TypeId} (h : Cl W g x T) (u : Value) : Cl (W.setCell ⟨g, 0, none⟩ u) g u T := by
  have := heap_setCell_same W g 0 _ T u h
  unfold Cl
  rw [this]
  simp

/-- The deferred look at what a look ended with: it ended so, or it did not. -/
theorem catch37_bad (g : Nat) (w : World) (hc : Cl w g (.int .i64 0) 24) : CallsD Try.prog 37 #[.pointer (some ⟨g, 0, none⟩)] (.panicking [unS]) w fun e u' w' =>
    e = .returned (.tuple #[]) ∧ u' = .panicking [{ v := .iface 71 (.agg #[]), recovered := true }] ∧ Cl w' g (.int .i64 110) 24 ∧ Below g w w' := by
  have hta : ∀ w, (Instr.typeAssert (.iface 71 (.agg #[])) 20 71 true).run Try.prog w = .ok (.tuple #[.agg #[], .bool true]) w := fun w => by kernel_rfl
  have heq : ∀ w, (binOp .eql 20 (.iface 71 (.agg #[])) .nilIface).run Try.prog w = .ok (.bool false) w := fun w => by kernel_rfl
  refine callsD_of_wpS Try.func37 rfl fun c₀ cs hu => ?_
  have hb : Below w.heap.size w (w.alloc (.cells #[] 71)) := (Below.refl _ _).alloc (Nat.le_refl _) _
  have hN : Hid (Cl ((w.alloc (.cells #[] 71)).setCell ⟨g, 0, none⟩ (.int .i64 110)) g (.int .i64 110) 24 ∧ Below g w ((w.alloc (.cells #[] 71)).setCell ⟨g, 0, none⟩ (.int .i64 110))) := (show _ ∧ _ from ⟨(hc.below hb).set _, (hb.mono (Nat.le_of_lt hc.lt)).setCell (p := ⟨g, 0, none⟩) (Nat.le_refl _) _⟩)
  have hcc := (hc.below hb).cell
  have hcf := (hc.below hb).free
  apply wpS_seq
  apply wpS_region
  simp [wpOpsS, go_sem, recoverD, hu, Try.ntmps37, Exit.thenS, unS]
  refine wpS_of_wp ?_
  go_wp2
  exact ⟨rfl, _, rfl, .tuple #[], by simp [results, Try.results37], rfl, rfl, hN.out.1, hN.out.2⟩
theorem catch37_ok (g : Nat) (w : World) : CallsD Try.prog 37 #[.pointer (some ⟨g, 0, none⟩)] .returning w fun e u' w' => e = .returned (.tuple #[]) ∧ u' = .returning ∧ w' = w := by
  have heq : ∀ w, (binOp .eql 20 .nilIface .nilIface).run Try.prog w = .ok (.bool true) w := fun w => by kernel_rfl
  refine callsD_of_wpS Try.func37 rfl fun c₀ cs hu => ?_
  apply wpS_seq
  apply wpS_region
  simp [wpOpsS, go_sem, recoverD, hu, Try.ntmps37, Exit.thenS]
  refine wpS_of_wp ?_
  go_wp2
  exact ⟨rfl, .returning, by cases c₀; simp_all, .tuple #[], by simp [results, Try.results37], rfl, rfl, rfl⟩
theorem catch48_bad (g : Nat) (w : World) (hc : Cl w g (.int .i64 0) 24) : CallsD Try.prog 48 #[.pointer (some ⟨g, 0, none⟩)] (.panicking [unS]) w fun e u' w' =>
    e = .returned (.tuple #[]) ∧ u' = .panicking [{ v := .iface 71 (.agg #[]), recovered := true }] ∧ Cl w' g (.int .i64 110) 24 ∧ Below g w w' := by
  have hta : ∀ w, (Instr.typeAssert (.iface 71 (.agg #[])) 20 71 true).run Try.prog w = .ok (.tuple #[.agg #[], .bool true]) w := fun w => by kernel_rfl
  have heq : ∀ w, (binOp .eql 20 (.iface 71 (.agg #[])) .nilIface).run Try.prog w = .ok (.bool false) w := fun w => by kernel_rfl
  refine callsD_of_wpS Try.func48 rfl fun c₀ cs hu => ?_
  have hb : Below w.heap.size w (w.alloc (.cells #[] 71)) := (Below.refl _ _).alloc (Nat.le_refl _) _
  have hN : Hid (Cl ((w.alloc (.cells #[] 71)).setCell ⟨g, 0, none⟩ (.int .i64 110)) g (.int .i64 110) 24 ∧ Below g w ((w.alloc (.cells #[] 71)).setCell ⟨g, 0, none⟩ (.int .i64 110))) := (show _ ∧ _ from ⟨(hc.below hb).set _, (hb.mono (Nat.le_of_lt hc.lt)).setCell (p := ⟨g, 0, none⟩) (Nat.le_refl _) _⟩)
  have hcc := (hc.below hb).cell
  have hcf := (hc.below hb).free
  apply wpS_seq
  apply wpS_region
  simp [wpOpsS, go_sem, recoverD, hu, Try.ntmps48, Exit.thenS, unS]
  refine wpS_of_wp ?_
  go_wp2
  exact ⟨rfl, _, rfl, .tuple #[], by simp [results, Try.results48], rfl, rfl, hN.out.1, hN.out.2⟩
theorem catch48_ok (g : Nat) (w : World) : CallsD Try.prog 48 #[.pointer (some ⟨g, 0, none⟩)] .returning w fun e u' w' => e = .returned (.tuple #[]) ∧ u' = .returning ∧ w' = w := by
  have heq : ∀ w, (binOp .eql 20 .nilIface .nilIface).run Try.prog w = .ok (.bool true) w := fun w => by kernel_rfl
  refine callsD_of_wpS Try.func48 rfl fun c₀ cs hu => ?_
  apply wpS_seq
  apply wpS_region
  simp [wpOpsS, go_sem, recoverD, hu, Try.ntmps48, Exit.thenS]
  refine wpS_of_wp ?_
  go_wp2
  exact ⟨rfl, .returning, by cases c₀; simp_all, .tuple #[], by simp [results, Try.results48], rfl, rfl, rfl⟩
theorem catch50_bad (g : Nat) (w : World) (hc : Cl w g (.int .i64 0) 24) : CallsD Try.prog 50 #[.pointer (some ⟨g, 0, none⟩)] (.panicking [unS]) w fun e u' w' =>
    e = .returned (.tuple #[]) ∧ u' = .panicking [{ v := .iface 71 (.agg #[]), recovered := true }] ∧ Cl w' g (.int .i64 110) 24 ∧ Below g w w' := by
  have hta : ∀ w, (Instr.typeAssert (.iface 71 (.agg #[])) 20 71 true).run Try.prog w = .ok (.tuple #[.agg #[], .bool true]) w := fun w => by kernel_rfl
  have heq : ∀ w, (binOp .eql 20 (.iface 71 (.agg #[])) .nilIface).run Try.prog w = .ok (.bool false) w := fun w => by kernel_rfl
  refine callsD_of_wpS Try.func50 rfl fun c₀ cs hu => ?_
  have hb : Below w.heap.size w (w.alloc (.cells #[] 71)) := (Below.refl _ _).alloc (Nat.le_refl _) _
  have hN : Hid (Cl ((w.alloc (.cells #[] 71)).setCell ⟨g, 0, none⟩ (.int .i64 110)) g (.int .i64 110) 24 ∧ Below g w ((w.alloc (.cells #[] 71)).setCell ⟨g, 0, none⟩ (.int .i64 110))) := (show _ ∧ _ from ⟨(hc.below hb).set _, (hb.mono (Nat.le_of_lt hc.lt)).setCell (p := ⟨g, 0, none⟩) (Nat.le_refl _) _⟩)
  have hcc := (hc.below hb).cell
  have hcf := (hc.below hb).free
  apply wpS_seq
  apply wpS_region
  simp [wpOpsS, go_sem, recoverD, hu, Try.ntmps50, Exit.thenS, unS]
  refine wpS_of_wp ?_
  go_wp2
  exact ⟨rfl, _, rfl, .tuple #[], by simp [results, Try.results50], rfl, rfl, hN.out.1, hN.out.2⟩
theorem catch50_ok (g : Nat) (w : World) : CallsD Try.prog 50 #[.pointer (some ⟨g, 0, none⟩)] .returning w fun e u' w' => e = .returned (.tuple #[]) ∧ u' = .returning ∧ w' = w := by
  have heq : ∀ w, (binOp .eql 20 .nilIface .nilIface).run Try.prog w = .ok (.bool true) w := fun w => by kernel_rfl
  refine callsD_of_wpS Try.func50 rfl fun c₀ cs hu => ?_
  apply wpS_seq
  apply wpS_region
  simp [wpOpsS, go_sem, recoverD, hu, Try.ntmps50, Exit.thenS]
  refine wpS_of_wp ?_
  go_wp2
  exact ⟨rfl, .returning, by cases c₀; simp_all, .tuple #[], by simp [results, Try.results50], rfl, rfl, rfl⟩
end Go.Proofs.Ytgcdhenbpkcmgaa
