/- Set over from a lower layer: Ara. · Set over from a lower layer: Arb. -/
import Derived.Test.YtcgclhahonndbaaBase
import Derived.Recover
import Derived.Maps.OwnSet
import Derived.Shelf.Abstract
namespace Go.Proofs.Ytcgclhahonndbaa
open Go.RowKit
set_option linter.unusedVariables false
/-- What a look ends with. -/
def unS : PanicEntry := { v := .iface 85 (.agg #[]), recovered := false }
theorem demand_yes (w : World) : Calls Try.prog 49 #[.bool true] w fun e w' => e = .returned (.tuple #[]) ∧ w' = w := by
  go_enter Try.func49, Try.ntmps49
  go_wp2
  exact ⟨rfl, _, results_none rfl _ _ _, rfl, rfl⟩
theorem demand_no (w : World) : Calls Try.prog 49 #[.bool false] w fun e w' => e = .panicked [unS] ∧ w' = w := by
  go_enter Try.func49, Try.ntmps49
  go_wp2
  exact ⟨rfl, rfl, rfl⟩
/-- A cell of a kind of its own in a block of its own. -/
def Cl (W : World) (g : Nat) (x : Value) (T : TypeId) : Prop := W.heap[g]? = some (.cells #[x] T (0, 0))
theorem Cl.lt {W : World} {g : Nat} {x : Value} {T : TypeId} (h : Cl W g x T) : g < W.heap.size := (Array.getElem?_eq_some_iff.1 h).1
theorem Cl.belowN {W W' : World} {g n : Nat} {x : Value} {T : TypeId} (h : Cl W g x T) (hb : Below n W W') (hg : g < n) : Cl W' g x T := (hb.block g hg).trans h
theorem Cl.below {W W' : World} {g : Nat} {x : Value} {T : TypeId} (h : Cl W g x T) (hb : Below W.heap.size W W') : Cl W' g x T := h.belowN hb h.lt
theorem Cl.cell {W : World} {g : Nat} {x : Value} {T : TypeId} (h : Cl W g x T) : W.cell? ⟨g, 0, none⟩ = some x := by simp [World.cell?, show W.heap[g]? = _ from h]
theorem Cl.free {W : World} {g : Nat} {x : Value} {T : TypeId} (h : Cl W g x T) : W.frozen? ⟨g, 0, none⟩ = false := by simp [World.frozen?, show W.heap[g]? = _ from h]
theorem cl_new (W : World) (x : Value) (T : TypeId) : Cl (W.alloc (.cells #[x] T)) W.heap.size x T := Go.heap_alloc_new _ _
theorem Cl.set {W : World} {g : Nat} {x : Value} {T : TypeId} (h : Cl W g x T) (u : Value) : Cl (W.setCell ⟨g, 0, none⟩ u) g u T := by
  have := heap_setCell_same W g 0 _ T u h
  unfold Cl
  rw [this]
  simp
/-- The deferred look at what a look ended with: it ended so, or it did not. -/
theorem catch37_bad (g : Nat) (w : World) (hc : Cl w g (.int .i64 0) 25) : CallsD Try.prog 51 #[.pointer (some ⟨g, 0, none⟩)] (.panicking [unS]) w fun e u' w' =>
    e = .returned (.tuple #[]) ∧ u' = .panicking [{ v := .iface 85 (.agg #[]), recovered := true }] ∧ Cl w' g (.int .i64 110) 25 ∧ Below g w w' := by
  have hta : ∀ w, (Instr.typeAssert (.iface 85 (.agg #[])) 20 85 true).run Try.prog w = .ok (.tuple #[.agg #[], .bool true]) w := fun w => by kernel_rfl
  have heq : ∀ w, (binOp .eql 20 (.iface 85 (.agg #[])) .nilIface).run Try.prog w = .ok (.bool false) w := fun w => by kernel_rfl
  refine callsD_of_wpS Try.func51 rfl fun c₀ cs hu => ?_
  have hb : Below w.heap.size w (w.alloc (.cells #[] 85)) := (Below.refl _ _).alloc (Nat.le_refl _) _
  have hN : Hid (Cl ((w.alloc (.cells #[] 85)).setCell ⟨g, 0, none⟩ (.int .i64 110)) g (.int .i64 110) 25 ∧ Below g w ((w.alloc (.cells #[] 85)).setCell ⟨g, 0, none⟩ (.int .i64 110))) := (show _ ∧ _ from ⟨(hc.below hb).set _, (hb.mono (Nat.le_of_lt hc.lt)).setCell (p := ⟨g, 0, none⟩) (Nat.le_refl _) _⟩)
  have hcc := (hc.below hb).cell
  have hcf := (hc.below hb).free
  apply wpS_seq
  apply wpS_region
  simp [wpOpsS, go_sem, recoverD, hu, Try.ntmps51, Exit.thenS, unS]
  refine wpS_of_wp ?_
  go_wp2
  exact ⟨rfl, _, rfl, .tuple #[], by simp [results, Try.results51], rfl, rfl, hN.out.1, hN.out.2⟩
theorem catch37_ok (g : Nat) (w : World) : CallsD Try.prog 51 #[.pointer (some ⟨g, 0, none⟩)] .returning w fun e u' w' => e = .returned (.tuple #[]) ∧ u' = .returning ∧ w' = w := by
  have heq : ∀ w, (binOp .eql 20 .nilIface .nilIface).run Try.prog w = .ok (.bool true) w := fun w => by kernel_rfl
  refine callsD_of_wpS Try.func51 rfl fun c₀ cs hu => ?_
  apply wpS_seq
  apply wpS_region
  simp [wpOpsS, go_sem, recoverD, hu, Try.ntmps51, Exit.thenS]
  refine wpS_of_wp ?_
  go_wp2
  exact ⟨rfl, .returning, by cases c₀; simp_all, .tuple #[], by simp [results, Try.results51], rfl, rfl, rfl⟩
theorem catch48_bad (g : Nat) (w : World) (hc : Cl w g (.int .i64 0) 25) : CallsD Try.prog 48 #[.pointer (some ⟨g, 0, none⟩)] (.panicking [unS]) w fun e u' w' =>
    e = .returned (.tuple #[]) ∧ u' = .panicking [{ v := .iface 85 (.agg #[]), recovered := true }] ∧ Cl w' g (.int .i64 110) 25 ∧ Below g w w' := by
  have hta : ∀ w, (Instr.typeAssert (.iface 85 (.agg #[])) 20 85 true).run Try.prog w = .ok (.tuple #[.agg #[], .bool true]) w := fun w => by kernel_rfl
  have heq : ∀ w, (binOp .eql 20 (.iface 85 (.agg #[])) .nilIface).run Try.prog w = .ok (.bool false) w := fun w => by kernel_rfl
  refine callsD_of_wpS Try.func48 rfl fun c₀ cs hu => ?_
  have hb : Below w.heap.size w (w.alloc (.cells #[] 85)) := (Below.refl _ _).alloc (Nat.le_refl _) _
  have hN : Hid (Cl ((w.alloc (.cells #[] 85)).setCell ⟨g, 0, none⟩ (.int .i64 110)) g (.int .i64 110) 25 ∧ Below g w ((w.alloc (.cells #[] 85)).setCell ⟨g, 0, none⟩ (.int .i64 110))) := (show _ ∧ _ from ⟨(hc.below hb).set _, (hb.mono (Nat.le_of_lt hc.lt)).setCell (p := ⟨g, 0, none⟩) (Nat.le_refl _) _⟩)
  have hcc := (hc.below hb).cell
  have hcf := (hc.below hb).free
  apply wpS_seq
  apply wpS_region
  simp [wpOpsS, go_sem, recoverD, hu, Try.ntmps48, Exit.thenS, unS]
  refine wpS_of_wp ?_
  go_wp2
  exact ⟨rfl, _, rfl, .tuple #[], by simp [results, Try.results48], rfl, rfl, hN.out.1, hN.out.2⟩
theorem catch48_ok (g : Nat) (w : World) : CallsD Try.prog 48 #[.pointer (some ⟨g, 0, none⟩)] .returning w fun e u' w' => e = .returned (.tuple #[]) ∧ u' = .returning ∧ w' = w := by
  have heq : ∀ w, (binOp .eql 20 .nilIface .nilIface).run Try.prog w = .ok (.bool true) w := fun w => by kernel_rfl
  refine callsD_of_wpS Try.func48 rfl fun c₀ cs hu => ?_
  apply wpS_seq
  apply wpS_region
  simp [wpOpsS, go_sem, recoverD, hu, Try.ntmps48, Exit.thenS]
  refine wpS_of_wp ?_
  go_wp2
  exact ⟨rfl, .returning, by cases c₀; simp_all, .tuple #[], by simp [results, Try.results48], rfl, rfl, rfl⟩
theorem catch50_bad (g : Nat) (w : World) (hc : Cl w g (.int .i64 0) 25) : CallsD Try.prog 55 #[.pointer (some ⟨g, 0, none⟩)] (.panicking [unS]) w fun e u' w' =>
    e = .returned (.tuple #[]) ∧ u' = .panicking [{ v := .iface 85 (.agg #[]), recovered := true }] ∧ Cl w' g (.int .i64 110) 25 ∧ Below g w w' := by
  have hta : ∀ w, (Instr.typeAssert (.iface 85 (.agg #[])) 20 85 true).run Try.prog w = .ok (.tuple #[.agg #[], .bool true]) w := fun w => by kernel_rfl
  have heq : ∀ w, (binOp .eql 20 (.iface 85 (.agg #[])) .nilIface).run Try.prog w = .ok (.bool false) w := fun w => by kernel_rfl
  refine callsD_of_wpS Try.func55 rfl fun c₀ cs hu => ?_
  have hb : Below w.heap.size w (w.alloc (.cells #[] 85)) := (Below.refl _ _).alloc (Nat.le_refl _) _
  have hN : Hid (Cl ((w.alloc (.cells #[] 85)).setCell ⟨g, 0, none⟩ (.int .i64 110)) g (.int .i64 110) 25 ∧ Below g w ((w.alloc (.cells #[] 85)).setCell ⟨g, 0, none⟩ (.int .i64 110))) := (show _ ∧ _ from ⟨(hc.below hb).set _, (hb.mono (Nat.le_of_lt hc.lt)).setCell (p := ⟨g, 0, none⟩) (Nat.le_refl _) _⟩)
  have hcc := (hc.below hb).cell
  have hcf := (hc.below hb).free
  apply wpS_seq
  apply wpS_region
  simp [wpOpsS, go_sem, recoverD, hu, Try.ntmps55, Exit.thenS, unS]
  refine wpS_of_wp ?_
  go_wp2
  exact ⟨rfl, _, rfl, .tuple #[], by simp [results, Try.results55], rfl, rfl, hN.out.1, hN.out.2⟩
theorem catch50_ok (g : Nat) (w : World) : CallsD Try.prog 55 #[.pointer (some ⟨g, 0, none⟩)] .returning w fun e u' w' => e = .returned (.tuple #[]) ∧ u' = .returning ∧ w' = w := by
  have heq : ∀ w, (binOp .eql 20 .nilIface .nilIface).run Try.prog w = .ok (.bool true) w := fun w => by kernel_rfl
  refine callsD_of_wpS Try.func55 rfl fun c₀ cs hu => ?_
  apply wpS_seq
  apply wpS_region
  simp [wpOpsS, go_sem, recoverD, hu, Try.ntmps55, Exit.thenS]
  refine wpS_of_wp ?_
  go_wp2
  exact ⟨rfl, .returning, by cases c₀; simp_all, .tuple #[], by simp [results, Try.results55], rfl, rfl, rfl⟩
end Go.Proofs.Ytcgclhahonndbaa
namespace Go.Proofs.Ytcgclhahonndbaa
open Go.RowKit
set_option linter.unusedVariables false
theorem told20_ok (f : FuncId) (cap : Value) (R : Value → World → Prop) (w : World) (hen : ∀ args w, (callFunc f args).run Try.prog w = .ok (.enter f args) w)
    (h : Calls Try.prog f #[cap] (w.alloc (.cells #[.int .i64 0] 25)) fun e w' => ∃ v, e = .returned v ∧ R v w' ∧ Below (w.heap.size + 1) (w.alloc (.cells #[.int .i64 0] 25)) w') :
    Calls Try.prog 26 #[.func (.func f) #[] #[cap]] w fun e w' => ∃ v w1, e = .returned (.tuple #[v, .int .i64 0]) ∧ R v w1 ∧ w' = w1.setCell ⟨w.heap.size, 0, none⟩ (.int .i64 0) ∧ Below (w.heap.size + 1) (w.alloc (.cells #[.int .i64 0] 25)) w1 ∧ Below w.heap.size w w' := by
  have hmf : ∀ (fn : Fn) (first cap : Array Value) (w : World), (Instr.makeFunc fn first cap).run Try.prog w = .ok (.func fn first cap) w := fun _ _ _ _ => rfl
  have H : Hid (Calls Try.prog f #[cap] (w.alloc (.cells #[.int .i64 0] 25)) fun e w' => ∃ v, e = .returned v ∧ R v w' ∧ Below (w.heap.size + 1) (w.alloc (.cells #[.int .i64 0] 25)) w') := h
  clear h
  have hC : Hid (Cl (w.alloc (.cells #[.int .i64 0] 25)) w.heap.size (.int .i64 0) 25) := cl_new w _ 25
  go_enter_defers Try.func26, Try.ntmps26
  go_wp2_with (go_at_fn f; refine H.out.mono ?_; rintro e w1 ⟨v, rfl, hR, hb⟩; have hC1 := hC.out.belowN hb (Nat.lt_succ_self _); have hcc := hC1.cell; have hcf := hC1.free)
  refine leaves_cons (f := 51) (args := #[.pointer (some ⟨w.heap.size, 0, none⟩)]) (by simp) (by simp [go_sem]) ?_
  refine (catch37_ok w.heap.size _).mono ?_
  rintro e u' w'' ⟨rfl, rfl, rfl⟩
  have hb0 : Below w.heap.size w w1 := ((Below.refl w.heap.size w).alloc (Nat.le_refl _) (.cells #[.int .i64 0] 25)).trans (hb.mono (Nat.le_succ _))
  have hc2 := (hC1.set (.int .i64 0)).cell
  exact ⟨_, by simp [results, Try.results26, go_sem, hc2], v, w1, rfl, hR, rfl, hb, hb0.setCell (p := ⟨w.heap.size, 0, none⟩) (Nat.le_refl _) _⟩
theorem told20_bad (f : FuncId) (cap : Value) (w : World) (hen : ∀ args w, (callFunc f args).run Try.prog w = .ok (.enter f args) w)
    (h : Calls Try.prog f #[cap] (w.alloc (.cells #[.int .i64 0] 25)) fun e w' => e = .panicked [unS] ∧ Below (w.heap.size + 1) (w.alloc (.cells #[.int .i64 0] 25)) w') :
    Calls Try.prog 26 #[.func (.func f) #[] #[cap]] w fun e w' => e = .returned (.tuple #[.slice none 0 0, .int .i64 110]) ∧ Below w.heap.size w w' := by
  have hmf : ∀ (fn : Fn) (first cap : Array Value) (w : World), (Instr.makeFunc fn first cap).run Try.prog w = .ok (.func fn first cap) w := fun _ _ _ _ => rfl
  have H : Hid (Calls Try.prog f #[cap] (w.alloc (.cells #[.int .i64 0] 25)) fun e w' => e = .panicked [unS] ∧ Below (w.heap.size + 1) (w.alloc (.cells #[.int .i64 0] 25)) w') := h
  clear h
  have hC : Hid (Cl (w.alloc (.cells #[.int .i64 0] 25)) w.heap.size (.int .i64 0) 25) := cl_new w _ 25
  go_enter_defers Try.func26, Try.ntmps26
  go_wp2_with (go_at_fn f; refine H.out.mono ?_; rintro e w1 ⟨rfl, hb⟩)
  have hC1 := hC.out.belowN hb (Nat.lt_succ_self _)
  have hb0 : Below w.heap.size w w1 := ((Below.refl w.heap.size w).alloc (Nat.le_refl _) (.cells #[.int .i64 0] 25)).trans (hb.mono (Nat.le_succ _))
  refine leaves_cons (f := 51) (args := #[.pointer (some ⟨w.heap.size, 0, none⟩)]) (by simp) (by simp [go_sem]) ?_
  refine (catch37_bad w.heap.size _ hC1).mono ?_
  rintro e u' w'' ⟨rfl, rfl, hC2, hb2⟩
  have hc2 := hC2.cell
  exact ⟨_, by simp [results, Try.results26, go_sem, hc2], rfl, hb0.trans hb2⟩
theorem told25_ok (f : FuncId) (cap : Value) (R : Value → World → Prop) (w : World) (hen : ∀ args w, (callFunc f args).run Try.prog w = .ok (.enter f args) w)
    (h : Calls Try.prog f #[cap] (w.alloc (.cells #[.int .i64 0] 25)) fun e w' => ∃ v, e = .returned v ∧ R v w' ∧ Below (w.heap.size + 1) (w.alloc (.cells #[.int .i64 0] 25)) w') :
    Calls Try.prog 23 #[.func (.func f) #[] #[cap]] w fun e w' => ∃ v w1, e = .returned (.tuple #[v, .int .i64 0]) ∧ R v w1 ∧ w' = w1.setCell ⟨w.heap.size, 0, none⟩ (.int .i64 0) ∧ Below (w.heap.size + 1) (w.alloc (.cells #[.int .i64 0] 25)) w1 ∧ Below w.heap.size w w' := by
  have hmf : ∀ (fn : Fn) (first cap : Array Value) (w : World), (Instr.makeFunc fn first cap).run Try.prog w = .ok (.func fn first cap) w := fun _ _ _ _ => rfl
  have H : Hid (Calls Try.prog f #[cap] (w.alloc (.cells #[.int .i64 0] 25)) fun e w' => ∃ v, e = .returned v ∧ R v w' ∧ Below (w.heap.size + 1) (w.alloc (.cells #[.int .i64 0] 25)) w') := h
  clear h
  have hC : Hid (Cl (w.alloc (.cells #[.int .i64 0] 25)) w.heap.size (.int .i64 0) 25) := cl_new w _ 25
  go_enter_defers Try.func23, Try.ntmps23
  go_wp2_with (go_at_fn f; refine H.out.mono ?_; rintro e w1 ⟨v, rfl, hR, hb⟩; have hC1 := hC.out.belowN hb (Nat.lt_succ_self _); have hcc := hC1.cell; have hcf := hC1.free)
  refine leaves_cons (f := 48) (args := #[.pointer (some ⟨w.heap.size, 0, none⟩)]) (by simp) (by simp [go_sem]) ?_
  refine (catch48_ok w.heap.size _).mono ?_
  rintro e u' w'' ⟨rfl, rfl, rfl⟩
  have hb0 : Below w.heap.size w w1 := ((Below.refl w.heap.size w).alloc (Nat.le_refl _) (.cells #[.int .i64 0] 25)).trans (hb.mono (Nat.le_succ _))
  have hc2 := (hC1.set (.int .i64 0)).cell
  exact ⟨_, by simp [results, Try.results23, go_sem, hc2], v, w1, rfl, hR, rfl, hb, hb0.setCell (p := ⟨w.heap.size, 0, none⟩) (Nat.le_refl _) _⟩
theorem told25_bad (f : FuncId) (cap : Value) (w : World) (hen : ∀ args w, (callFunc f args).run Try.prog w = .ok (.enter f args) w)
    (h : Calls Try.prog f #[cap] (w.alloc (.cells #[.int .i64 0] 25)) fun e w' => e = .panicked [unS] ∧ Below (w.heap.size + 1) (w.alloc (.cells #[.int .i64 0] 25)) w') :
    Calls Try.prog 23 #[.func (.func f) #[] #[cap]] w fun e w' => e = .returned (.tuple #[.slice none 0 0, .int .i64 110]) ∧ Below w.heap.size w w' := by
  have hmf : ∀ (fn : Fn) (first cap : Array Value) (w : World), (Instr.makeFunc fn first cap).run Try.prog w = .ok (.func fn first cap) w := fun _ _ _ _ => rfl
  have H : Hid (Calls Try.prog f #[cap] (w.alloc (.cells #[.int .i64 0] 25)) fun e w' => e = .panicked [unS] ∧ Below (w.heap.size + 1) (w.alloc (.cells #[.int .i64 0] 25)) w') := h
  clear h
  have hC : Hid (Cl (w.alloc (.cells #[.int .i64 0] 25)) w.heap.size (.int .i64 0) 25) := cl_new w _ 25
  go_enter_defers Try.func23, Try.ntmps23
  go_wp2_with (go_at_fn f; refine H.out.mono ?_; rintro e w1 ⟨rfl, hb⟩)
  have hC1 := hC.out.belowN hb (Nat.lt_succ_self _)
  have hb0 : Below w.heap.size w w1 := ((Below.refl w.heap.size w).alloc (Nat.le_refl _) (.cells #[.int .i64 0] 25)).trans (hb.mono (Nat.le_succ _))
  refine leaves_cons (f := 48) (args := #[.pointer (some ⟨w.heap.size, 0, none⟩)]) (by simp) (by simp [go_sem]) ?_
  refine (catch48_bad w.heap.size _ hC1).mono ?_
  rintro e u' w'' ⟨rfl, rfl, hC2, hb2⟩
  have hc2 := hC2.cell
  exact ⟨_, by simp [results, Try.results23, go_sem, hc2], rfl, hb0.trans hb2⟩
theorem told28_ok (f : FuncId) (cap cap2 : Value) (R : Value → World → Prop) (w : World) (hen : ∀ args w, (callFunc f args).run Try.prog w = .ok (.enter f args) w)
    (h : Calls Try.prog f #[cap, cap2] (w.alloc (.cells #[.int .i64 0] 25)) fun e w' => ∃ v, e = .returned v ∧ R v w' ∧ Below (w.heap.size + 1) (w.alloc (.cells #[.int .i64 0] 25)) w') :
    Calls Try.prog 31 #[.func (.func f) #[] #[cap, cap2]] w fun e w' => ∃ v w1, e = .returned (.tuple #[v, .int .i64 0]) ∧ R v w1 ∧ w' = w1.setCell ⟨w.heap.size, 0, none⟩ (.int .i64 0) ∧ Below (w.heap.size + 1) (w.alloc (.cells #[.int .i64 0] 25)) w1 ∧ Below w.heap.size w w' := by
  have hmf : ∀ (fn : Fn) (first cap : Array Value) (w : World), (Instr.makeFunc fn first cap).run Try.prog w = .ok (.func fn first cap) w := fun _ _ _ _ => rfl
  have H : Hid (Calls Try.prog f #[cap, cap2] (w.alloc (.cells #[.int .i64 0] 25)) fun e w' => ∃ v, e = .returned v ∧ R v w' ∧ Below (w.heap.size + 1) (w.alloc (.cells #[.int .i64 0] 25)) w') := h
  clear h
  have hC : Hid (Cl (w.alloc (.cells #[.int .i64 0] 25)) w.heap.size (.int .i64 0) 25) := cl_new w _ 25
  go_enter_defers Try.func31, Try.ntmps31
  go_wp2_with (go_at_fn f; refine H.out.mono ?_; rintro e w1 ⟨v, rfl, hR, hb⟩; have hC1 := hC.out.belowN hb (Nat.lt_succ_self _); have hcc := hC1.cell; have hcf := hC1.free)
  refine leaves_cons (f := 55) (args := #[.pointer (some ⟨w.heap.size, 0, none⟩)]) (by simp) (by simp [go_sem]) ?_
  refine (catch50_ok w.heap.size _).mono ?_
  rintro e u' w'' ⟨rfl, rfl, rfl⟩
  have hb0 : Below w.heap.size w w1 := ((Below.refl w.heap.size w).alloc (Nat.le_refl _) (.cells #[.int .i64 0] 25)).trans (hb.mono (Nat.le_succ _))
  have hc2 := (hC1.set (.int .i64 0)).cell
  exact ⟨_, by simp [results, Try.results31, go_sem, hc2], v, w1, rfl, hR, rfl, hb, hb0.setCell (p := ⟨w.heap.size, 0, none⟩) (Nat.le_refl _) _⟩
theorem told28_bad (f : FuncId) (cap cap2 : Value) (w : World) (hen : ∀ args w, (callFunc f args).run Try.prog w = .ok (.enter f args) w)
    (h : Calls Try.prog f #[cap, cap2] (w.alloc (.cells #[.int .i64 0] 25)) fun e w' => e = .panicked [unS] ∧ Below (w.heap.size + 1) (w.alloc (.cells #[.int .i64 0] 25)) w') :
    Calls Try.prog 31 #[.func (.func f) #[] #[cap, cap2]] w fun e w' => e = .returned (.tuple #[.string ⟨#[]⟩, .int .i64 110]) ∧ Below w.heap.size w w' := by
  have hmf : ∀ (fn : Fn) (first cap : Array Value) (w : World), (Instr.makeFunc fn first cap).run Try.prog w = .ok (.func fn first cap) w := fun _ _ _ _ => rfl
  have H : Hid (Calls Try.prog f #[cap, cap2] (w.alloc (.cells #[.int .i64 0] 25)) fun e w' => e = .panicked [unS] ∧ Below (w.heap.size + 1) (w.alloc (.cells #[.int .i64 0] 25)) w') := h
  clear h
  have hC : Hid (Cl (w.alloc (.cells #[.int .i64 0] 25)) w.heap.size (.int .i64 0) 25) := cl_new w _ 25
  go_enter_defers Try.func31, Try.ntmps31
  go_wp2_with (go_at_fn f; refine H.out.mono ?_; rintro e w1 ⟨rfl, hb⟩)
  have hC1 := hC.out.belowN hb (Nat.lt_succ_self _)
  have hb0 : Below w.heap.size w w1 := ((Below.refl w.heap.size w).alloc (Nat.le_refl _) (.cells #[.int .i64 0] 25)).trans (hb.mono (Nat.le_succ _))
  refine leaves_cons (f := 55) (args := #[.pointer (some ⟨w.heap.size, 0, none⟩)]) (by simp) (by simp [go_sem]) ?_
  refine (catch50_bad w.heap.size _ hC1).mono ?_
  rintro e u' w'' ⟨rfl, rfl, hC2, hb2⟩
  have hc2 := hC2.cell
  exact ⟨_, by simp [results, Try.results31, go_sem, hc2], rfl, hb0.trans hb2⟩
end Go.Proofs.Ytcgclhahonndbaa
