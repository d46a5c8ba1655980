/- Layer 11: what is told of a look. -/
import Derived.Test.YtgcdhenbpkcmgaaAra
import Derived.Shelf.Abstract
namespace Go.Proofs.Ytgcdhenbpkcmgaa
open Go.RowKit
set_option linter.unusedVariables false

theorem told20_ok (f : FuncId) (cap : Value) (R : Value → World → Prop) (w : World) (hen : ∀ args w, (callFunc f args).run Try.prog w = .ok (.enter f args) w)
    (h : Calls Try.prog f #[cap] (w.alloc (.cells #[.int .i64 0] 24)) fun e w' => ∃ v, e = .returned v ∧ R v w' ∧ Below (w.heap.size + 1) (w.alloc (.cells #[.int .i64 0] 24)) w') :
    Calls Try.prog 20 #[.func (.func f) #[] #[cap]] w fun e w' => ∃ v w1, e = .returned (.tuple #[v, .int .i64 0]) ∧ R v w1 ∧ w' = w1.setCell ⟨w.heap.size, 0, none⟩ (.int .i64 0) ∧ Below (w.heap.size + 1) (w.alloc (.cells #[.int .i64 0] 24)) w1 ∧ Below w.heap.size w w' := by
  have hmf : ∀ (fn : Fn) (first cap : Array Value) (w : World), (Instr.makeFunc fn first cap).run Try.prog w = .ok (.func fn first cap) w := fun _ _ _ _ => rfl
  have H : Hid (Calls Try.prog f #[cap] (w.alloc (.cells #[.int .i64 0] 24)) fun e w' => ∃ v, e = .returned v ∧ R v w' ∧ Below (w.heap.size + 1) (w.alloc (.cells #[.int .i64 0] 24)) w') := h
  clear h
  have hC : Hid (Cl (w.alloc (.cells #[.int .i64 0] 24)) w.heap.size (.int .i64 0) 24) := cl_new w _ 24
  go_enter_defers Try.func20, Try.ntmps20
  go_wp2_with (go_at_fn f; refine H.out.mono ?_; rintro e w1 ⟨v, rfl, hR, hb⟩; have hC1 := hC.out.belowN hb (Nat.lt_succ_self _); have hcc := hC1.cell; have hcf := hC1.free)
  refine leaves_cons (f := 37) (args := #[.pointer (some ⟨w.heap.size, 0, none⟩)]) (by simp) (by simp [go_sem]) ?_
  refine (catch37_ok w.heap.size _).mono ?_
  rintro e u' w'' ⟨rfl, rfl, rfl⟩
  have hb0 : Below w.heap.size w w1 := ((Below.refl w.heap.size w).alloc (Nat.le_refl _) (.cells #[.int .i64 0] 24)).trans (hb.mono (Nat.le_succ _))
  have hc2 := (hC1.set (.int .i64 0)).cell
  exact ⟨_, by simp [results, Try.results20, go_sem, hc2], v, w1, rfl, hR, rfl, hb, hb0.setCell (p := ⟨w.heap.size, 0, none⟩) (Nat.le_refl _) _⟩
theorem told20_bad (f : FuncId) (cap : Value) (w : World) (hen : ∀ args w, (callFunc f args).run Try.prog w = .ok (.enter f args) w)
    (h : Calls Try.prog f #[cap] (w.alloc (.cells #[.int .i64 0] 24)) fun e w' => e = .panicked [unS] ∧ Below (w.heap.size + 1) (w.alloc (.cells #[.int .i64 0] 24)) w') :
    Calls Try.prog 20 #[.func (.func f) #[] #[cap]] w fun e w' => e = .returned (.tuple #[.slice none 0 0, .int .i64 110]) ∧ Below w.heap.size w w' := by
  have hmf : ∀ (fn : Fn) (first cap : Array Value) (w : World), (Instr.makeFunc fn first cap).run Try.prog w = .ok (.func fn first cap) w := fun _ _ _ _ => rfl
  have H : Hid (Calls Try.prog f #[cap] (w.alloc (.cells #[.int .i64 0] 24)) fun e w' => e = .panicked [unS] ∧ Below (w.heap.size + 1) (w.alloc (.cells #[.int .i64 0] 24)) w') := h
  clear h
  have hC : Hid (Cl (w.alloc (.cells #[.int .i64 0] 24)) w.heap.size (.int .i64 0) 24) := cl_new w _ 24
  go_enter_defers Try.func20, Try.ntmps20
  go_wp2_with (go_at_fn f; refine H.out.mono ?_; rintro e w1 ⟨rfl, hb⟩)
  have hC1 := hC.out.belowN hb (Nat.lt_succ_self _)
  have hb0 : Below w.heap.size w w1 := ((Below.refl w.heap.size w).alloc (Nat.le_refl _) (.cells #[.int .i64 0] 24)).trans (hb.mono (Nat.le_succ _))
  refine leaves_cons (f := 37) (args := #[.pointer (some ⟨w.heap.size, 0, none⟩)]) (by simp) (by simp [go_sem]) ?_
  refine (catch37_bad w.heap.size _ hC1).mono ?_
  rintro e u' w'' ⟨rfl, rfl, hC2, hb2⟩
  have hc2 := hC2.cell
  exact ⟨_, by simp [results, Try.results20, go_sem, hc2], rfl, hb0.trans hb2⟩

theorem told25_ok (f : FuncId) (cap : Value) (R : Value → World → Prop) (w : World) (hen : ∀ args w, (callFunc f args).run Try.prog w = .ok (.enter f args) w)
    (h : Calls Try.prog f #[cap] (w.alloc (.cells #[.int .i64 0] 24)) fun e w' => ∃ v, e = .returned v ∧ R v w' ∧ Below (w.heap.size + 1) (w.alloc (.cells #[.int .i64 0] 24)) w') :
    Calls Try.prog 25 #[.func (.func f) #[] #[cap]] w fun e w' => ∃ v w1, e = .returned (.tuple #[v, .int .i64 0]) ∧ R v w1 ∧ w' = w1.setCell ⟨w.heap.size, 0, none⟩ (.int .i64 0) ∧ Below (w.heap.size + 1) (w.alloc (.cells #[.int .i64 0] 24)) w1 ∧ Below w.heap.size w w' := by
  have hmf : ∀ (fn : Fn) (first cap : Array Value) (w : World), (Instr.makeFunc fn first cap).run Try.prog w = .ok (.func fn first cap) w := fun _ _ _ _ => rfl
  have H : Hid (Calls Try.prog f #[cap] (w.alloc (.cells #[.int .i64 0] 24)) fun e w' => ∃ v, e = .returned v ∧ R v w' ∧ Below (w.heap.size + 1) (w.alloc (.cells #[.int .i64 0] 24)) w') := h
  clear h
  have hC : Hid (Cl (w.alloc (.cells #[.int .i64 0] 24)) w.heap.size (.int .i64 0) 24) := cl_new w _ 24
  go_enter_defers Try.func25, Try.ntmps25
  go_wp2_with (go_at_fn f; refine H.out.mono ?_; rintro e w1 ⟨v, rfl, hR, hb⟩; have hC1 := hC.out.belowN hb (Nat.lt_succ_self _); have hcc := hC1.cell; have hcf := hC1.free)
  refine leaves_cons (f := 48) (args := #[.pointer (some ⟨w.heap.size, 0, none⟩)]) (by simp) (by simp [go_sem]) ?_
  refine (catch48_ok w.heap.size _).mono ?_
  rintro e u' w'' ⟨rfl, rfl, rfl⟩
  have hb0 : Below w.heap.size w w1 := ((Below.refl w.heap.size w).alloc (Nat.le_refl _) (.cells #[.int .i64 0] 24)).trans (hb.mono (Nat.le_succ _))
  have hc2 := (hC1.set (.int .i64 0)).cell
  exact ⟨_, by simp [results, Try.results25, go_sem, hc2], v, w1, rfl, hR, rfl, hb, hb0.setCell (p := ⟨w.heap.size, 0, none⟩) (Nat.le_refl _) _⟩
theorem told25_bad (f : FuncId) (cap : Value) (w : World) (hen : ∀ args w, (callFunc f args).run Try.prog w = .ok (.enter f args) w)
    (h : Calls Try.prog f #[cap] (w.alloc (.cells #[.int .i64 0] 24)) fun e w' => e = .panicked [unS] ∧ Below (w.heap.size + 1) (w.alloc (.cells #[.int .i64 0] 24)) w') :
    Calls Try.prog 25 #[.func (.func f) #[] #[cap]] w fun e w' => e = .returned (.tuple #[.slice none 0 0, .int .i64 110]) ∧ Below w.heap.size w w' := by
  have hmf : ∀ (fn : Fn) (first cap : Array Value) (w : World), (Instr.makeFunc fn first cap).run Try.prog w = .ok (.func fn first cap) w := fun _ _ _ _ => rfl
  have H : Hid (Calls Try.prog f #[cap] (w.alloc (.cells #[.int .i64 0] 24)) fun e w' => e = .panicked [unS] ∧ Below (w.heap.size + 1) (w.alloc (.cells #[.int .i64 0] 24)) w') := h
  clear h
  have hC : Hid (Cl (w.alloc (.cells #[.int .i64 0] 24)) w.heap.size (.int .i64 0) 24) := cl_new w _ 24
  go_enter_defers Try.func25, Try.ntmps25
  go_wp2_with (go_at_fn f; refine H.out.mono ?_; rintro e w1 ⟨rfl, hb⟩)
  have hC1 := hC.out.belowN hb (Nat.lt_succ_self _)
  have hb0 : Below w.heap.size w w1 := ((Below.refl w.heap.size w).alloc (Nat.le_refl _) (.cells #[.int .i64 0] 24)).trans (hb.mono (Nat.le_succ _))
  refine leaves_cons (f := 48) (args := #[.pointer (some ⟨w.heap.size, 0, none⟩)]) (by simp) (by simp [go_sem]) ?_
  refine (catch48_bad w.heap.size _ hC1).mono ?_
  rintro e u' w'' ⟨rfl, rfl, hC2, hb2⟩
  have hc2 := hC2.cell
  exact ⟨_, by simp [results, Try.results25, go_sem, hc2], rfl, hb0.trans hb2⟩

theorem told28_ok (f : FuncId) (cap cap2 : Value) (R : Value → World → Prop) (w : World) (hen : ∀ args w, (callFunc f args).run Try.prog w = .ok (.enter f args) w)
    (h : Calls Try.prog f #[cap, cap2] (w.alloc (.cells #[.int .i64 0] 24)) fun e w' => ∃ v, e = .returned v ∧ R v w' ∧ Below (w.heap.size + 1) (w.alloc (.cells #[.int .i64 0] 24)) w') :
    Calls Try.prog 28 #[.func (.func f) #[] #[cap, cap2]] w fun e w' => ∃ v w1, e = .returned (.tuple #[v, .int .i64 0]) ∧ R v w1 ∧ w' = w1.setCell ⟨w.heap.size, 0, none⟩ (.int .i64 0) ∧ Below (w.heap.size + 1) (w.alloc (.cells #[.int .i64 0] 24)) w1 ∧ Below w.heap.size w w' := by
  have hmf : ∀ (fn : Fn) (first cap : Array Value) (w : World), (Instr.makeFunc fn first cap).run Try.prog w = .ok (.func fn first cap) w := fun _ _ _ _ => rfl
  have H : Hid (Calls Try.prog f #[cap, cap2] (w.alloc (.cells #[.int .i64 0] 24)) fun e w' => ∃ v, e = .returned v ∧ R v w' ∧ Below (w.heap.size + 1) (w.alloc (.cells #[.int .i64 0] 24)) w') := h
  clear h
  have hC : Hid (Cl (w.alloc (.cells #[.int .i64 0] 24)) w.heap.size (.int .i64 0) 24) := cl_new w _ 24
  go_enter_defers Try.func28, Try.ntmps28
  go_wp2_with (go_at_fn f; refine H.out.mono ?_; rintro e w1 ⟨v, rfl, hR, hb⟩; have hC1 := hC.out.belowN hb (Nat.lt_succ_self _); have hcc := hC1.cell; have hcf := hC1.free)
  refine leaves_cons (f := 50) (args := #[.pointer (some ⟨w.heap.size, 0, none⟩)]) (by simp) (by simp [go_sem]) ?_
  refine (catch50_ok w.heap.size _).mono ?_
  rintro e u' w'' ⟨rfl, rfl, rfl⟩
  have hb0 : Below w.heap.size w w1 := ((Below.refl w.heap.size w).alloc (Nat.le_refl _) (.cells #[.int .i64 0] 24)).trans (hb.mono (Nat.le_succ _))
  have hc2 := (hC1.set (.int .i64 0)).cell
  exact ⟨_, by simp [results, Try.results28, go_sem, hc2], v, w1, rfl, hR, rfl, hb, hb0.setCell (p := ⟨w.heap.size, 0, none⟩) (Nat.le_refl _) _⟩
theorem told28_bad (f : FuncId) (cap cap2 : Value) (w : World) (hen : ∀ args w, (callFunc f args).run Try.prog w = .ok (.enter f args) w)
    (h : Calls Try.prog f #[cap, cap2] (w.alloc (.cells #[.int .i64 0] 24)) fun e w' => e = .panicked [unS] ∧ Below (w.heap.size + 1) (w.alloc (.cells #[.int .i64 0] 24)) w') :
    Calls Try.prog 28 #[.func (.func f) #[] #[cap, cap2]] w fun e w' => e = .returned (.tuple #[.string ⟨#[]⟩, .int .i64 110]) ∧ Below w.heap.size w w' := by
  have hmf : ∀ (fn : Fn) (first cap : Array Value) (w : World), (Instr.makeFunc fn first cap).run Try.prog w = .ok (.func fn first cap) w := fun _ _ _ _ => rfl
  have H : Hid (Calls Try.prog f #[cap, cap2] (w.alloc (.cells #[.int .i64 0] 24)) fun e w' => e = .panicked [unS] ∧ Below (w.heap.size + 1) (w.alloc (.cells #[.int .i64 0] 24)) w') := h
  clear h
  have hC : Hid (Cl (w.alloc (.cells #[.int .i64 0] 24)) w.heap.size (.int .i64 0) 24) := cl_new w _ 24
  go_enter_defers Try.func28, Try.ntmps28
  go_wp2_with (go_at_fn f; refine H.out.mono ?_; rintro e w1 ⟨rfl, hb⟩)
  have hC1 := hC.out.belowN hb (Nat.lt_succ_self _)
  have hb0 : Below w.heap.size w w1 := ((Below.refl w.heap.size w).alloc (Nat.le_refl _) (.cells #[.int .i64 0] 24)).trans (hb.mono (Nat.le_succ _))
  refine leaves_cons (f := 50) (args := #[.pointer (some ⟨w.heap.size, 0, none⟩)]) (by simp) (by simp [go_sem]) ?_
  refine (catch50_bad w.heap.size _ hC1).mono ?_
  rintro e u' w'' ⟨rfl, rfl, hC2, hb2⟩
  have hc2 := hC2.cell
  exact ⟨_, by simp [results, Try.results28, go_sem, hc2], rfl, hb0.trans hb2⟩
end Go.Proofs.Ytgcdhenbpkcmgaa
