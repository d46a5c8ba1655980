/- Set over from a lower layer: Arb. · Set over from a lower layer: Arp. -/
import Derived.Test.YtcgclhahonndbaaGreatNNumz
import Derived.Shelf.Abstract
import Derived.Test.YtcgclhahonndbaaGreatArf
import Derived.Test.YtcgclhahonndbaaGreatAri
import Derived.Test.YtcgclhahonndbaaGreatAro
import Derived.Test.YtcgclhahonndbaaGreatArnum
import Derived.Test.YtcgclhahonndbaaGreatBase
import Derived.Test.YtcgclhahonndbaaGreatNNodp
import Derived.Test.YtcgclhahonndbaaGreatSSumz
import Derived.Test.YtcgclhahonndbaaGreatRKeywalkc
namespace Go.Proofs.YtcgclhahonndbaaGreat
open Go.RowKit
set_option linter.unusedVariables false
theorem told20_ok (f : FuncId) (cap : Value) (R : Value → World → Prop) (w : World) (hen : ∀ args w, (callFunc f args).run Tryz.prog w = .ok (.enter f args) w)
    (h : Calls Tryz.prog f #[cap] (w.alloc (.cells #[.int .i64 0] 26)) fun e w' => ∃ v, e = .returned v ∧ R v w' ∧ Below (w.heap.size + 1) (w.alloc (.cells #[.int .i64 0] 26)) w') :
    Calls Tryz.prog 66 #[.func (.func f) #[] #[cap]] w fun e w' => ∃ v w1, e = .returned (.tuple #[v, .int .i64 0]) ∧ R v w1 ∧ w' = w1.setCell ⟨w.heap.size, 0, none⟩ (.int .i64 0) ∧ Below (w.heap.size + 1) (w.alloc (.cells #[.int .i64 0] 26)) w1 ∧ Below w.heap.size w w' := by
  have hmf : ∀ (fn : Fn) (first cap : Array Value) (w : World), (Instr.makeFunc fn first cap).run Tryz.prog w = .ok (.func fn first cap) w := fun _ _ _ _ => rfl
  have H : Hid (Calls Tryz.prog f #[cap] (w.alloc (.cells #[.int .i64 0] 26)) fun e w' => ∃ v, e = .returned v ∧ R v w' ∧ Below (w.heap.size + 1) (w.alloc (.cells #[.int .i64 0] 26)) w') := h
  clear h
  have hC : Hid (Cl (w.alloc (.cells #[.int .i64 0] 26)) w.heap.size (.int .i64 0) 26) := cl_new w _ 26
  go_enter_defers Tryz.func66, Tryz.ntmps66
  go_wp2_with (go_at_fn f; refine H.out.mono ?_; rintro e w1 ⟨v, rfl, hR, hb⟩; have hC1 := hC.out.belowN hb (Nat.lt_succ_self _); have hcc := hC1.cell; have hcf := hC1.free)
  refine leaves_cons (f := 89) (args := #[.pointer (some ⟨w.heap.size, 0, none⟩)]) (by simp) (by simp [go_sem]) ?_
  refine (catch37_ok w.heap.size _).mono ?_
  rintro e u' w'' ⟨rfl, rfl, rfl⟩
  have hb0 : Below w.heap.size w w1 := ((Below.refl w.heap.size w).alloc (Nat.le_refl _) (.cells #[.int .i64 0] 26)).trans (hb.mono (Nat.le_succ _))
  have hc2 := (hC1.set (.int .i64 0)).cell
  exact ⟨_, by simp [results, Tryz.results66, go_sem, hc2], v, w1, rfl, hR, rfl, hb, hb0.setCell (p := ⟨w.heap.size, 0, none⟩) (Nat.le_refl _) _⟩
theorem told20_bad (f : FuncId) (cap : Value) (w : World) (hen : ∀ args w, (callFunc f args).run Tryz.prog w = .ok (.enter f args) w)
    (h : Calls Tryz.prog f #[cap] (w.alloc (.cells #[.int .i64 0] 26)) fun e w' => e = .panicked [unS] ∧ Below (w.heap.size + 1) (w.alloc (.cells #[.int .i64 0] 26)) w') :
    Calls Tryz.prog 66 #[.func (.func f) #[] #[cap]] w fun e w' => e = .returned (.tuple #[.slice none 0 0, .int .i64 110]) ∧ Below w.heap.size w w' := by
  have hmf : ∀ (fn : Fn) (first cap : Array Value) (w : World), (Instr.makeFunc fn first cap).run Tryz.prog w = .ok (.func fn first cap) w := fun _ _ _ _ => rfl
  have H : Hid (Calls Tryz.prog f #[cap] (w.alloc (.cells #[.int .i64 0] 26)) fun e w' => e = .panicked [unS] ∧ Below (w.heap.size + 1) (w.alloc (.cells #[.int .i64 0] 26)) w') := h
  clear h
  have hC : Hid (Cl (w.alloc (.cells #[.int .i64 0] 26)) w.heap.size (.int .i64 0) 26) := cl_new w _ 26
  go_enter_defers Tryz.func66, Tryz.ntmps66
  go_wp2_with (go_at_fn f; refine H.out.mono ?_; rintro e w1 ⟨rfl, hb⟩)
  have hC1 := hC.out.belowN hb (Nat.lt_succ_self _)
  have hb0 : Below w.heap.size w w1 := ((Below.refl w.heap.size w).alloc (Nat.le_refl _) (.cells #[.int .i64 0] 26)).trans (hb.mono (Nat.le_succ _))
  refine leaves_cons (f := 89) (args := #[.pointer (some ⟨w.heap.size, 0, none⟩)]) (by simp) (by simp [go_sem]) ?_
  refine (catch37_bad w.heap.size _ hC1).mono ?_
  rintro e u' w'' ⟨rfl, rfl, hC2, hb2⟩
  have hc2 := hC2.cell
  exact ⟨_, by simp [results, Tryz.results66, go_sem, hc2], rfl, hb0.trans hb2⟩
theorem told25_ok (f : FuncId) (cap : Value) (R : Value → World → Prop) (w : World) (hen : ∀ args w, (callFunc f args).run Tryz.prog w = .ok (.enter f args) w)
    (h : Calls Tryz.prog f #[cap] (w.alloc (.cells #[.int .i64 0] 26)) fun e w' => ∃ v, e = .returned v ∧ R v w' ∧ Below (w.heap.size + 1) (w.alloc (.cells #[.int .i64 0] 26)) w') :
    Calls Tryz.prog 63 #[.func (.func f) #[] #[cap]] w fun e w' => ∃ v w1, e = .returned (.tuple #[v, .int .i64 0]) ∧ R v w1 ∧ w' = w1.setCell ⟨w.heap.size, 0, none⟩ (.int .i64 0) ∧ Below (w.heap.size + 1) (w.alloc (.cells #[.int .i64 0] 26)) w1 ∧ Below w.heap.size w w' := by
  have hmf : ∀ (fn : Fn) (first cap : Array Value) (w : World), (Instr.makeFunc fn first cap).run Tryz.prog w = .ok (.func fn first cap) w := fun _ _ _ _ => rfl
  have H : Hid (Calls Tryz.prog f #[cap] (w.alloc (.cells #[.int .i64 0] 26)) fun e w' => ∃ v, e = .returned v ∧ R v w' ∧ Below (w.heap.size + 1) (w.alloc (.cells #[.int .i64 0] 26)) w') := h
  clear h
  have hC : Hid (Cl (w.alloc (.cells #[.int .i64 0] 26)) w.heap.size (.int .i64 0) 26) := cl_new w _ 26
  go_enter_defers Tryz.func63, Tryz.ntmps63
  go_wp2_with (go_at_fn f; refine H.out.mono ?_; rintro e w1 ⟨v, rfl, hR, hb⟩; have hC1 := hC.out.belowN hb (Nat.lt_succ_self _); have hcc := hC1.cell; have hcf := hC1.free)
  refine leaves_cons (f := 85) (args := #[.pointer (some ⟨w.heap.size, 0, none⟩)]) (by simp) (by simp [go_sem]) ?_
  refine (catch48_ok w.heap.size _).mono ?_
  rintro e u' w'' ⟨rfl, rfl, rfl⟩
  have hb0 : Below w.heap.size w w1 := ((Below.refl w.heap.size w).alloc (Nat.le_refl _) (.cells #[.int .i64 0] 26)).trans (hb.mono (Nat.le_succ _))
  have hc2 := (hC1.set (.int .i64 0)).cell
  exact ⟨_, by simp [results, Tryz.results63, go_sem, hc2], v, w1, rfl, hR, rfl, hb, hb0.setCell (p := ⟨w.heap.size, 0, none⟩) (Nat.le_refl _) _⟩
theorem told25_bad (f : FuncId) (cap : Value) (w : World) (hen : ∀ args w, (callFunc f args).run Tryz.prog w = .ok (.enter f args) w)
    (h : Calls Tryz.prog f #[cap] (w.alloc (.cells #[.int .i64 0] 26)) fun e w' => e = .panicked [unS] ∧ Below (w.heap.size + 1) (w.alloc (.cells #[.int .i64 0] 26)) w') :
    Calls Tryz.prog 63 #[.func (.func f) #[] #[cap]] w fun e w' => e = .returned (.tuple #[.slice none 0 0, .int .i64 110]) ∧ Below w.heap.size w w' := by
  have hmf : ∀ (fn : Fn) (first cap : Array Value) (w : World), (Instr.makeFunc fn first cap).run Tryz.prog w = .ok (.func fn first cap) w := fun _ _ _ _ => rfl
  have H : Hid (Calls Tryz.prog f #[cap] (w.alloc (.cells #[.int .i64 0] 26)) fun e w' => e = .panicked [unS] ∧ Below (w.heap.size + 1) (w.alloc (.cells #[.int .i64 0] 26)) w') := h
  clear h
  have hC : Hid (Cl (w.alloc (.cells #[.int .i64 0] 26)) w.heap.size (.int .i64 0) 26) := cl_new w _ 26
  go_enter_defers Tryz.func63, Tryz.ntmps63
  go_wp2_with (go_at_fn f; refine H.out.mono ?_; rintro e w1 ⟨rfl, hb⟩)
  have hC1 := hC.out.belowN hb (Nat.lt_succ_self _)
  have hb0 : Below w.heap.size w w1 := ((Below.refl w.heap.size w).alloc (Nat.le_refl _) (.cells #[.int .i64 0] 26)).trans (hb.mono (Nat.le_succ _))
  refine leaves_cons (f := 85) (args := #[.pointer (some ⟨w.heap.size, 0, none⟩)]) (by simp) (by simp [go_sem]) ?_
  refine (catch48_bad w.heap.size _ hC1).mono ?_
  rintro e u' w'' ⟨rfl, rfl, hC2, hb2⟩
  have hc2 := hC2.cell
  exact ⟨_, by simp [results, Tryz.results63, go_sem, hc2], rfl, hb0.trans hb2⟩
theorem told28_ok (f : FuncId) (cap cap2 : Value) (R : Value → World → Prop) (w : World) (hen : ∀ args w, (callFunc f args).run Tryz.prog w = .ok (.enter f args) w)
    (h : Calls Tryz.prog f #[cap, cap2] (w.alloc (.cells #[.int .i64 0] 26)) fun e w' => ∃ v, e = .returned v ∧ R v w' ∧ Below (w.heap.size + 1) (w.alloc (.cells #[.int .i64 0] 26)) w') :
    Calls Tryz.prog 117 #[.func (.func f) #[] #[cap, cap2]] w fun e w' => ∃ v w1, e = .returned (.tuple #[v, .int .i64 0]) ∧ R v w1 ∧ w' = w1.setCell ⟨w.heap.size, 0, none⟩ (.int .i64 0) ∧ Below (w.heap.size + 1) (w.alloc (.cells #[.int .i64 0] 26)) w1 ∧ Below w.heap.size w w' := by
  have hmf : ∀ (fn : Fn) (first cap : Array Value) (w : World), (Instr.makeFunc fn first cap).run Tryz.prog w = .ok (.func fn first cap) w := fun _ _ _ _ => rfl
  have H : Hid (Calls Tryz.prog f #[cap, cap2] (w.alloc (.cells #[.int .i64 0] 26)) fun e w' => ∃ v, e = .returned v ∧ R v w' ∧ Below (w.heap.size + 1) (w.alloc (.cells #[.int .i64 0] 26)) w') := h
  clear h
  have hC : Hid (Cl (w.alloc (.cells #[.int .i64 0] 26)) w.heap.size (.int .i64 0) 26) := cl_new w _ 26
  go_enter_defers Tryz.func117, Tryz.ntmps117
  go_wp2_with (go_at_fn f; refine H.out.mono ?_; rintro e w1 ⟨v, rfl, hR, hb⟩; have hC1 := hC.out.belowN hb (Nat.lt_succ_self _); have hcc := hC1.cell; have hcf := hC1.free)
  refine leaves_cons (f := 125) (args := #[.pointer (some ⟨w.heap.size, 0, none⟩)]) (by simp) (by simp [go_sem]) ?_
  refine (catch50_ok w.heap.size _).mono ?_
  rintro e u' w'' ⟨rfl, rfl, rfl⟩
  have hb0 : Below w.heap.size w w1 := ((Below.refl w.heap.size w).alloc (Nat.le_refl _) (.cells #[.int .i64 0] 26)).trans (hb.mono (Nat.le_succ _))
  have hc2 := (hC1.set (.int .i64 0)).cell
  exact ⟨_, by simp [results, Tryz.results117, go_sem, hc2], v, w1, rfl, hR, rfl, hb, hb0.setCell (p := ⟨w.heap.size, 0, none⟩) (Nat.le_refl _) _⟩
theorem told28_bad (f : FuncId) (cap cap2 : Value) (w : World) (hen : ∀ args w, (callFunc f args).run Tryz.prog w = .ok (.enter f args) w)
    (h : Calls Tryz.prog f #[cap, cap2] (w.alloc (.cells #[.int .i64 0] 26)) fun e w' => e = .panicked [unS] ∧ Below (w.heap.size + 1) (w.alloc (.cells #[.int .i64 0] 26)) w') :
    Calls Tryz.prog 117 #[.func (.func f) #[] #[cap, cap2]] w fun e w' => e = .returned (.tuple #[.string ⟨#[]⟩, .int .i64 110]) ∧ Below w.heap.size w w' := by
  have hmf : ∀ (fn : Fn) (first cap : Array Value) (w : World), (Instr.makeFunc fn first cap).run Tryz.prog w = .ok (.func fn first cap) w := fun _ _ _ _ => rfl
  have H : Hid (Calls Tryz.prog f #[cap, cap2] (w.alloc (.cells #[.int .i64 0] 26)) fun e w' => e = .panicked [unS] ∧ Below (w.heap.size + 1) (w.alloc (.cells #[.int .i64 0] 26)) w') := h
  clear h
  have hC : Hid (Cl (w.alloc (.cells #[.int .i64 0] 26)) w.heap.size (.int .i64 0) 26) := cl_new w _ 26
  go_enter_defers Tryz.func117, Tryz.ntmps117
  go_wp2_with (go_at_fn f; refine H.out.mono ?_; rintro e w1 ⟨rfl, hb⟩)
  have hC1 := hC.out.belowN hb (Nat.lt_succ_self _)
  have hb0 : Below w.heap.size w w1 := ((Below.refl w.heap.size w).alloc (Nat.le_refl _) (.cells #[.int .i64 0] 26)).trans (hb.mono (Nat.le_succ _))
  refine leaves_cons (f := 125) (args := #[.pointer (some ⟨w.heap.size, 0, none⟩)]) (by simp) (by simp [go_sem]) ?_
  refine (catch50_bad w.heap.size _ hC1).mono ?_
  rintro e u' w'' ⟨rfl, rfl, hC2, hb2⟩
  have hc2 := hC2.cell
  exact ⟨_, by simp [results, Tryz.results117, go_sem, hc2], rfl, hb0.trans hb2⟩
end Go.Proofs.YtcgclhahonndbaaGreat
namespace Go.Proofs.YtcgclhahonndbaaGreat
open Go.RowKit Go.Shelf
set_option linter.unusedVariables false
theorem cl_same {W : World} {g : Nat} {x : Value} {T : TypeId} (h : Cl W g x T) : Below W.heap.size W (W.setCell ⟨g, 0, none⟩ x) := by
  have h0 := (Below.refl g W).setCell (p := ⟨g, 0, none⟩) (Nat.le_refl _) x
  refine ⟨h0.os, h0.tape, h0.output, h0.size, fun k hk => ?_⟩
  by_cases e : k = g
  · subst e
    exact (h.set x).trans (Eq.symm h)
  · exact Below.heap_setCell W ⟨g, 0, none⟩ x k e
theorem told_end {w w1 w' : World} (h1 : w' = w1.setCell ⟨w.heap.size, 0, none⟩ (.int .i64 0)) (h2 : Below (w.heap.size + 1) (w.alloc (.cells #[.int .i64 0] 26)) w1) : Below w1.heap.size w1 w' := by
  subst h1
  exact cl_same ((cl_new w (.int .i64 0) 26).belowN h2 (Nat.lt_succ_self _))
/-- What is told of the leaves, and of whether an arena is sound. -/
def lvE (zs : List Int) : Int := match lvA zs with
  | none => 110
  | some _ => 0
def lvL (zs : List Int) : List Int := (lvA zs).getD []
def chE (zs : List Int) : Int := if sndB zs then 0 else 110
set_option maxRecDepth 100000 in
set_option maxHeartbeats 4000000 in
theorem leaves1_any (g : Nat) (v : Value) (zs : List Int) (w : World) (h : Cl w g v 22) (hR : Rl w v zs) : Calls Tryz.prog 67 #[.pointer (some ⟨g, 0, none⟩)] w fun e w' =>
    ((∃ v' L, lvA zs = some L ∧ e = .returned v' ∧ OwnI w' w.heap.size v' L) ∨ (lvA zs = none ∧ e = .panicked [unS])) ∧ Below w.heap.size w w' := by
  obtain ⟨_, va, vc, rfl, _⟩ := hR.form
  have HR : Hid (Rl w (.slice va zs.length vc) zs) := hR
  have hc := h.cell
  clear hR h
  cases hL : lvA zs with
  | none =>
    have K22 : Hid (Calls Tryz.prog 68 #[.slice va zs.length vc] w fun e w' => e = .panicked [unS] ∧ Below w.heap.size w w') := leavesOf_bad _ zs w HR.out hL
    clear hL
    go_enter Tryz.func67, Tryz.ntmps67
    go_wp2_with (first
      | (go_at_call 68; refine K22.out.mono ?_; rintro e w1 ⟨rfl, hb1⟩))
    exact ⟨rfl, .inr ⟨by trivial, rfl⟩, hb1⟩
  | some L =>
    have K22 : Hid (Calls Tryz.prog 68 #[.slice va zs.length vc] w fun e w' => ∃ v' P, L = P.map Prod.fst ∧ e = .returned v' ∧ Lv zs w' w.heap.size v' P ∧ Below w.heap.size w w') := leavesOf_ok _ zs w HR.out hL
    obtain ⟨hB, hnd, hok, hhd⟩ := lvA_out hL
    have Hlen : Hid (L.length ≤ 256) := lv_len hB hnd (fun b hb => (hok b hb).2.1)
    clear hL hB hnd hok hhd
    go_enter Tryz.func67, Tryz.ntmps67
    go_wp2_with (first
      | (go_at_call 68; refine K22.out.mono ?_; rintro e w1 ⟨v1, P, hP, rfl, lv1, hb1⟩; subst hP; obtain ⟨ga, gc, rfl⟩ := lv1.form; have LV : Hid (Lv zs w1 w.heap.size (.slice ga P.length gc) P) := lv1; have B1 : Hid (Below w.heap.size w w1) := hb1; have hPl : P.length ≤ 256 := (by have := Hlen.out; rwa [List.length_map] at this); clear lv1 hb1))
    clear hc
    go_loopw [2, 8] (fun o i wr => ∃ (k : Nat) (u : Value), k ≤ P.length ∧ u = o ∧ i = .int .i64 k ∧ OwnI wr w1.heap.size u ((P.map Prod.fst).take k) ∧ Below w1.heap.size w1 wr) (fun _ i _ => P.length - (Go.RowKit.intOf i).toNat)
    case atStart => exact ⟨0, _, Nat.zero_le _, rfl, rfl, own_nil _ _, Below.refl _ _⟩
    case round =>
      obtain ⟨k, o, hk, rfl, rfl, ho, hbr⟩ := hrel
      have HO : Hid (OwnI wr w1.heap.size o ((P.map Prod.fst).take k)) := ho
      have HBr : Hid (Below w1.heap.size w1 wr) := hbr
      have lvr := LV.out.below hbr
      clear ho hbr
      by_cases hlt : k < P.length
      · obtain ⟨⟨b, u⟩, hbu⟩ : ∃ q, P[k]? = some q := ⟨_, List.getElem?_eq_getElem hlt⟩
        have hu := lvr.rd (b, u) (List.mem_of_getElem? hbu)
        obtain ⟨g, off, c, hv0, d0, d1, d2, d3, d4, d5⟩ := lvr.get hbu
        cases hv0
        generalize rnN zs b = n at *
        obtain ⟨ua, uc, rfl⟩ := hu.form
        obtain ⟨lv, tu, nx, lo, sl⟩ := n
        dsimp only at hu d0 d1 d2 d3 d4 d5
        obtain ⟨M, hM⟩ : ∃ M, M = (P.map Prod.fst).take (k + 1) := ⟨_, rfl⟩
        have HM : Hid (M = (P.map Prod.fst).take (k + 1)) := hM
        have Hn : Hid ((P.map Prod.fst).take k ++ [b] = M) := show _ = _ by rw [hM]; exact (take_next (map_at hbu)).symm
        clear hM
        have hltI : (k : Int) < (P.length : Int) := by omega
        have X3 : Hid (Lb (wr.alloc (.cells #[.int .i64 lv, .int .i64 tu, .int .i64 nx, .int .i64 lo, .slice ua sl.length uc, .int .i64 b] 100)) wr.heap.size lv tu nx lo (.slice ua sl.length uc) b) := lb_new wr lv tu nx lo b _
        obtain ⟨x0, x1, x2, x3, x4, x5⟩ := X3.out.c
        have O3 : Hid (OwnI ((wr.alloc (.cells #[.int .i64 lv, .int .i64 tu, .int .i64 nx, .int .i64 lo, .slice ua sl.length uc, .int .i64 b] 100)).alloc (.cells #[.int .i64 b] 3)) w1.heap.size o ((P.map Prod.fst).take k)) := (HO.out.below (below_new wr (.cells #[.int .i64 lv, .int .i64 tu, .int .i64 nx, .int .i64 lo, .slice ua sl.length uc, .int .i64 b] 100))).below (below_new (wr.alloc (.cells #[.int .i64 lv, .int .i64 tu, .int .i64 nx, .int .i64 lo, .slice ua sl.length uc, .int .i64 b] 100)) _)
        have B3 : Hid (Below w1.heap.size w1 ((wr.alloc (.cells #[.int .i64 lv, .int .i64 tu, .int .i64 nx, .int .i64 lo, .slice ua sl.length uc, .int .i64 b] 100)).alloc (.cells #[.int .i64 b] 3))) := bstep (bstep HBr.out (below_new wr (.cells #[.int .i64 lv, .int .i64 tu, .int .i64 nx, .int .i64 lo, .slice ua sl.length uc, .int .i64 b] 100))) (below_new (wr.alloc (.cells #[.int .i64 lv, .int .i64 tu, .int .i64 nx, .int .i64 lo, .slice ua sl.length uc, .int .i64 b] 100)) _)
        have L3 : Hid (Rd ((wr.alloc (.cells #[.int .i64 lv, .int .i64 tu, .int .i64 nx, .int .i64 lo, .slice ua sl.length uc, .int .i64 b] 100)).alloc (.cells #[.int .i64 b] 3)) (.slice (some ⟨(wr.alloc (.cells #[.int .i64 lv, .int .i64 tu, .int .i64 nx, .int .i64 lo, .slice ua sl.length uc, .int .i64 b] 100)).heap.size, 0, none⟩) 1 1) [b]) := rd_lit (W := wr.alloc (.cells #[.int .i64 lv, .int .i64 tu, .int .i64 nx, .int .i64 lo, .slice ua sl.length uc, .int .i64 b] 100)) [b] rfl (by simp)
        have Hk3 : Hid (((P.map Prod.fst).take k).length ≤ 1000) := show _ ≤ _ by rw [List.length_take]; omega
        have Hs3 : Hid ((wr.alloc (.cells #[.int .i64 lv, .int .i64 tu, .int .i64 nx, .int .i64 lo, .slice ua sl.length uc, .int .i64 b] 100)).heap.size = wr.heap.size + 1) := show _ = _ by simp
        rw [Hs3.out] at L3
        clear x0 x1 x2 x3 x4 hu hbu
        go_wp2_with (first
          | (at_builtin; refine append_own_rd rfl _ _ rfl w1.heap.size o _ rfl O3.out _ [b] rfl L3.out Hk3.out B3.out.size _ Hn.out ?_; intro a4 c4 w4 o4 b4))
        go_roundw
        case rel => exact ⟨k + 1, _, by omega, rfl, by go_num, by rw [← HM.out]; exact o4, B3.out.trans b4⟩
        case measure => simp [Go.RowKit.intOf]; omega
      · have hltI : ¬ (k : Int) < (P.length : Int) := by omega
        have ho := HO.out
        rw [List.take_of_length_le (by rw [List.length_map]; omega)] at ho
        have HO2 : Hid (OwnI wr w1.heap.size o (P.map Prod.fst)) := ho
        clear ho
        go_wp2
        exact bodyPost_ret (results_tmp rfl _ _ _) rfl ⟨⟨o, rfl, HO2.out.less B1.out.size⟩, bstep B1.out HBr.out⟩
/-- Leaves, as it is told. -/
theorem leaves_any (v : Value) (zs : List Int) (w : World) (hR : Rl w v zs) : Calls Tryz.prog 41 #[v] w fun e w' => ∃ v', e = .returned (.tuple #[v', .int .i64 (lvE zs)]) ∧ OwnI w' w.heap.size v' (lvL zs) ∧ Below w.heap.size w w' := by
  obtain ⟨_, va, vc, rfl, _⟩ := hR.form
  have B0 : Below w.heap.size w (w.alloc (.cells #[.slice va zs.length vc] 22)) := below_new w _
  have B1 := below_new (w.alloc (.cells #[.slice va zs.length vc] 22)) (.cells #[.int .i64 0] 26)
  have e1 : ((w.alloc (.cells #[.slice va zs.length vc] 22)).alloc (.cells #[.int .i64 0] 26)).heap.size = (w.alloc (.cells #[.slice va zs.length vc] 22)).heap.size + 1 := by simp
  have h21 := leaves1_any w.heap.size (.slice va zs.length vc) zs _ ((cl_new w (.slice va zs.length vc) 22).below B1) ((hR.below B0).below B1)
  rw [e1] at h21
  have hmf : ∀ (fn : Fn) (first cap : Array Value) (w : World), (Instr.makeFunc fn first cap).run Tryz.prog w = .ok (.func fn first cap) w := fun _ _ _ _ => rfl
  cases hL : lvA zs with
  | none =>
    have hE : lvE zs = 110 := by unfold lvE; rw [hL]
    have hl : lvL zs = [] := by unfold lvL; rw [hL]; rfl
    have K20 := told20_bad 67 (.pointer (some ⟨w.heap.size, 0, none⟩)) (w.alloc (.cells #[.slice va zs.length vc] 22)) (enters_of Tryz.func67 rfl rfl) (h21.mono (by
      rintro e w' ⟨⟨_, _, h, _⟩ | ⟨_, h⟩, hb⟩
      · rw [hL] at h; cases h
      · exact ⟨h, hb⟩))
    rw [hE, hl]
    have K20 : Hid (Calls Tryz.prog 66 #[.func (.func 67) #[] #[.pointer (some ⟨w.heap.size, 0, none⟩)]] (w.alloc (.cells #[.slice va zs.length vc] 22)) fun e w' => e = .returned (.tuple #[.slice none 0 0, .int .i64 110]) ∧ Below (w.alloc (.cells #[.slice va zs.length vc] 22)).heap.size (w.alloc (.cells #[.slice va zs.length vc] 22)) w') := K20
    have B0 : Hid (Below w.heap.size w (w.alloc (.cells #[.slice va zs.length vc] 22))) := B0
    clear hR B1 e1 h21 hL hE hl
    go_enter Tryz.func41, Tryz.ntmps41
    go_wp2_with (first
      | (go_at_call 66; refine K20.out.mono ?_; rintro e w1 ⟨rfl, hb1⟩))
    exact bodyPost_ret (results_tmp2 rfl _ _ _) rfl ⟨_, rfl, own_nil _ _, bstep B0.out hb1⟩
  | some L =>
    have hE : lvE zs = 0 := by unfold lvE; rw [hL]
    have hl : lvL zs = L := by unfold lvL; rw [hL]; rfl
    have K20 := told20_ok 67 (.pointer (some ⟨w.heap.size, 0, none⟩)) (fun u W => OwnI W ((w.alloc (.cells #[.slice va zs.length vc] 22)).heap.size + 1) u L) (w.alloc (.cells #[.slice va zs.length vc] 22)) (enters_of Tryz.func67 rfl rfl) (h21.mono (by
      rintro e w' ⟨⟨u, L', h, he, ho⟩ | ⟨h, _⟩, hb⟩
      · rw [hL] at h; cases h; exact ⟨u, he, ho, hb⟩
      · rw [hL] at h; cases h))
    rw [hE, hl]
    have K20 : Hid (Calls Tryz.prog 66 #[.func (.func 67) #[] #[.pointer (some ⟨w.heap.size, 0, none⟩)]] (w.alloc (.cells #[.slice va zs.length vc] 22)) fun e w' => ∃ u, e = .returned (.tuple #[u, .int .i64 0]) ∧ OwnI w' w.heap.size u L ∧ Below (w.alloc (.cells #[.slice va zs.length vc] 22)).heap.size (w.alloc (.cells #[.slice va zs.length vc] 22)) w') := by
      refine K20.mono ?_
      rintro e w' ⟨u, w1, rfl, ho, h1, h2, h3⟩
      exact ⟨u, rfl, (ho.below (told_end h1 h2)).less (by have := B0.size; omega), h3⟩
    have B0 : Hid (Below w.heap.size w (w.alloc (.cells #[.slice va zs.length vc] 22))) := B0
    clear hR B1 e1 h21 hL hE hl
    go_enter Tryz.func41, Tryz.ntmps41
    go_wp2_with (first
      | (go_at_call 66; refine K20.out.mono ?_; rintro e w1 ⟨u1, rfl, o1, hb1⟩))
    exact bodyPost_ret (results_tmp2 rfl _ _ _) rfl ⟨_, rfl, o1, bstep B0.out hb1⟩
end Go.Proofs.YtcgclhahonndbaaGreat
