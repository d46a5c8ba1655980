/- Set over from a lower layer: Ara. · Set over from a lower layer: FNumm. · Set over from a lower layer: NNumz. -/
import Derived.Test.YtcgclhahonndbaaGreatBase
import Derived.Recover
import Derived.Maps.OwnSet
import Derived.Deep.QuietTactic
import Derived.BigQuiet
import Derived.WalkSmall
import Derived.Deep.MidRow
import Derived.Deep.OwnRows
import Derived.Lib.SliceRun
import Derived.Deep.RegionHeld3
import Derived.Laws.ResultCell
import Derived.Deep.RegionWith
import Derived.Laws.CopyOwn
import Derived.RangeFuncBox
import Derived.RangeFuncNested
import Derived.RangeFuncBound
import Derived.RangeFuncCalls
import Derived.RangeFuncLeaves
import Derived.Shelf.Abstract
import Derived.Shelf.RegionOpen
import Derived.OwnWalkIn
import Derived.TacticsInMore
import Derived.LoopNIn
import Derived.LoopIn
import Derived.Maps.AppendAt
import Derived.Shelf.SlSortCmp.QuietGrown
import Derived.Deep.AppendLies
namespace Go.Proofs.YtcgclhahonndbaaGreat
open Go.RowKit
set_option linter.unusedVariables false
/-- What a look ends with. -/
def unS : PanicEntry := { v := .iface 118 (.agg #[]), recovered := false }
theorem demand_yes (w : World) : Calls Tryz.prog 86 #[.bool true] w fun e w' => e = .returned (.tuple #[]) ∧ w' = w := by
  go_enter Tryz.func86, Tryz.ntmps86
  go_wp2
  exact ⟨rfl, _, results_none rfl _ _ _, rfl, rfl⟩
theorem demand_no (w : World) : Calls Tryz.prog 86 #[.bool false] w fun e w' => e = .panicked [unS] ∧ w' = w := by
  go_enter Tryz.func86, Tryz.ntmps86
  go_wp2
  exact ⟨rfl, rfl, rfl⟩
/-- A cell of a kind of its own in a block of its own. -/
def Cl (W : World) (g : Nat) (x : Value) (T : TypeId) : Prop := W.heap[g]? = some (.cells #[x] T (0, 0))
theorem Cl.lt {W : World} {g : Nat} {x : Value} {T : TypeId} (h : Cl W g x T) : g < W.heap.size := (Array.getElem?_eq_some_iff.1 h).1
theorem Cl.belowN {W W' : World} {g n : Nat} {x : Value} {T : TypeId} (h : Cl W g x T) (hb : Below n W W') (hg : g < n) : Cl W' g x T := (hb.block g hg).trans h
theorem Cl.below {W W' : World} {g : Nat} {x : Value} {T : TypeId} (h : Cl W g x T) (hb : Below W.heap.size W W') : Cl W' g x T := h.belowN hb h.lt
theorem Cl.cell {W : World} {g : Nat} {x : Value} {T : TypeId} (h : Cl W g x T) : W.cell? ⟨g, 0, none⟩ = some x := by simp [World.cell?, show W.heap[g]? = _ from h]
theorem Cl.free {W : World} {g : Nat} {x : Value} {T : TypeId} (h : Cl W g x T) : W.frozen? ⟨g, 0, none⟩ = false := by simp [World.frozen?, show W.heap[g]? = _ from h]
theorem cl_new (W : World) (x : Value) (T : TypeId) : Cl (W.alloc (.cells #[x] T)) W.heap.size x T := Go.heap_alloc_new _ _
theorem Cl.set {W : World} {g : Nat} {x : Value} {T : TypeId} (h : Cl W g x T) (u : Value) : Cl (W.setCell ⟨g, 0, none⟩ u) g u T := by
  have := heap_setCell_same W g 0 _ T u h
  unfold Cl
  rw [this]
  simp
/-- The deferred look at what a look ended with: it ended so, or it did not. -/
theorem catch37_bad (g : Nat) (w : World) (hc : Cl w g (.int .i64 0) 26) : CallsD Tryz.prog 89 #[.pointer (some ⟨g, 0, none⟩)] (.panicking [unS]) w fun e u' w' =>
    e = .returned (.tuple #[]) ∧ u' = .panicking [{ v := .iface 118 (.agg #[]), recovered := true }] ∧ Cl w' g (.int .i64 110) 26 ∧ Below g w w' := by
  have hta : ∀ w, (Instr.typeAssert (.iface 118 (.agg #[])) 20 118 true).run Tryz.prog w = .ok (.tuple #[.agg #[], .bool true]) w := fun w => by kernel_rfl
  have heq : ∀ w, (binOp .eql 20 (.iface 118 (.agg #[])) .nilIface).run Tryz.prog w = .ok (.bool false) w := fun w => by kernel_rfl
  refine callsD_of_wpS Tryz.func89 rfl fun c₀ cs hu => ?_
  have hb : Below w.heap.size w (w.alloc (.cells #[] 118)) := (Below.refl _ _).alloc (Nat.le_refl _) _
  have hN : Hid (Cl ((w.alloc (.cells #[] 118)).setCell ⟨g, 0, none⟩ (.int .i64 110)) g (.int .i64 110) 26 ∧ Below g w ((w.alloc (.cells #[] 118)).setCell ⟨g, 0, none⟩ (.int .i64 110))) := (show _ ∧ _ from ⟨(hc.below hb).set _, (hb.mono (Nat.le_of_lt hc.lt)).setCell (p := ⟨g, 0, none⟩) (Nat.le_refl _) _⟩)
  have hcc := (hc.below hb).cell
  have hcf := (hc.below hb).free
  apply wpS_seq
  apply wpS_region
  simp [wpOpsS, go_sem, recoverD, hu, Tryz.ntmps89, Exit.thenS, unS]
  refine wpS_of_wp ?_
  go_wp2
  exact ⟨rfl, _, rfl, .tuple #[], by simp [results, Tryz.results89], rfl, rfl, hN.out.1, hN.out.2⟩
theorem catch37_ok (g : Nat) (w : World) : CallsD Tryz.prog 89 #[.pointer (some ⟨g, 0, none⟩)] .returning w fun e u' w' => e = .returned (.tuple #[]) ∧ u' = .returning ∧ w' = w := by
  have heq : ∀ w, (binOp .eql 20 .nilIface .nilIface).run Tryz.prog w = .ok (.bool true) w := fun w => by kernel_rfl
  refine callsD_of_wpS Tryz.func89 rfl fun c₀ cs hu => ?_
  apply wpS_seq
  apply wpS_region
  simp [wpOpsS, go_sem, recoverD, hu, Tryz.ntmps89, Exit.thenS]
  refine wpS_of_wp ?_
  go_wp2
  exact ⟨rfl, .returning, by cases c₀; simp_all, .tuple #[], by simp [results, Tryz.results89], rfl, rfl, rfl⟩
theorem catch48_bad (g : Nat) (w : World) (hc : Cl w g (.int .i64 0) 26) : CallsD Tryz.prog 85 #[.pointer (some ⟨g, 0, none⟩)] (.panicking [unS]) w fun e u' w' =>
    e = .returned (.tuple #[]) ∧ u' = .panicking [{ v := .iface 118 (.agg #[]), recovered := true }] ∧ Cl w' g (.int .i64 110) 26 ∧ Below g w w' := by
  have hta : ∀ w, (Instr.typeAssert (.iface 118 (.agg #[])) 20 118 true).run Tryz.prog w = .ok (.tuple #[.agg #[], .bool true]) w := fun w => by kernel_rfl
  have heq : ∀ w, (binOp .eql 20 (.iface 118 (.agg #[])) .nilIface).run Tryz.prog w = .ok (.bool false) w := fun w => by kernel_rfl
  refine callsD_of_wpS Tryz.func85 rfl fun c₀ cs hu => ?_
  have hb : Below w.heap.size w (w.alloc (.cells #[] 118)) := (Below.refl _ _).alloc (Nat.le_refl _) _
  have hN : Hid (Cl ((w.alloc (.cells #[] 118)).setCell ⟨g, 0, none⟩ (.int .i64 110)) g (.int .i64 110) 26 ∧ Below g w ((w.alloc (.cells #[] 118)).setCell ⟨g, 0, none⟩ (.int .i64 110))) := (show _ ∧ _ from ⟨(hc.below hb).set _, (hb.mono (Nat.le_of_lt hc.lt)).setCell (p := ⟨g, 0, none⟩) (Nat.le_refl _) _⟩)
  have hcc := (hc.below hb).cell
  have hcf := (hc.below hb).free
  apply wpS_seq
  apply wpS_region
  simp [wpOpsS, go_sem, recoverD, hu, Tryz.ntmps85, Exit.thenS, unS]
  refine wpS_of_wp ?_
  go_wp2
  exact ⟨rfl, _, rfl, .tuple #[], by simp [results, Tryz.results85], rfl, rfl, hN.out.1, hN.out.2⟩
theorem catch48_ok (g : Nat) (w : World) : CallsD Tryz.prog 85 #[.pointer (some ⟨g, 0, none⟩)] .returning w fun e u' w' => e = .returned (.tuple #[]) ∧ u' = .returning ∧ w' = w := by
  have heq : ∀ w, (binOp .eql 20 .nilIface .nilIface).run Tryz.prog w = .ok (.bool true) w := fun w => by kernel_rfl
  refine callsD_of_wpS Tryz.func85 rfl fun c₀ cs hu => ?_
  apply wpS_seq
  apply wpS_region
  simp [wpOpsS, go_sem, recoverD, hu, Tryz.ntmps85, Exit.thenS]
  refine wpS_of_wp ?_
  go_wp2
  exact ⟨rfl, .returning, by cases c₀; simp_all, .tuple #[], by simp [results, Tryz.results85], rfl, rfl, rfl⟩
theorem catch50_bad (g : Nat) (w : World) (hc : Cl w g (.int .i64 0) 26) : CallsD Tryz.prog 125 #[.pointer (some ⟨g, 0, none⟩)] (.panicking [unS]) w fun e u' w' =>
    e = .returned (.tuple #[]) ∧ u' = .panicking [{ v := .iface 118 (.agg #[]), recovered := true }] ∧ Cl w' g (.int .i64 110) 26 ∧ Below g w w' := by
  have hta : ∀ w, (Instr.typeAssert (.iface 118 (.agg #[])) 20 118 true).run Tryz.prog w = .ok (.tuple #[.agg #[], .bool true]) w := fun w => by kernel_rfl
  have heq : ∀ w, (binOp .eql 20 (.iface 118 (.agg #[])) .nilIface).run Tryz.prog w = .ok (.bool false) w := fun w => by kernel_rfl
  refine callsD_of_wpS Tryz.func125 rfl fun c₀ cs hu => ?_
  have hb : Below w.heap.size w (w.alloc (.cells #[] 118)) := (Below.refl _ _).alloc (Nat.le_refl _) _
  have hN : Hid (Cl ((w.alloc (.cells #[] 118)).setCell ⟨g, 0, none⟩ (.int .i64 110)) g (.int .i64 110) 26 ∧ Below g w ((w.alloc (.cells #[] 118)).setCell ⟨g, 0, none⟩ (.int .i64 110))) := (show _ ∧ _ from ⟨(hc.below hb).set _, (hb.mono (Nat.le_of_lt hc.lt)).setCell (p := ⟨g, 0, none⟩) (Nat.le_refl _) _⟩)
  have hcc := (hc.below hb).cell
  have hcf := (hc.below hb).free
  apply wpS_seq
  apply wpS_region
  simp [wpOpsS, go_sem, recoverD, hu, Tryz.ntmps125, Exit.thenS, unS]
  refine wpS_of_wp ?_
  go_wp2
  exact ⟨rfl, _, rfl, .tuple #[], by simp [results, Tryz.results125], rfl, rfl, hN.out.1, hN.out.2⟩
theorem catch50_ok (g : Nat) (w : World) : CallsD Tryz.prog 125 #[.pointer (some ⟨g, 0, none⟩)] .returning w fun e u' w' => e = .returned (.tuple #[]) ∧ u' = .returning ∧ w' = w := by
  have heq : ∀ w, (binOp .eql 20 .nilIface .nilIface).run Tryz.prog w = .ok (.bool true) w := fun w => by kernel_rfl
  refine callsD_of_wpS Tryz.func125 rfl fun c₀ cs hu => ?_
  apply wpS_seq
  apply wpS_region
  simp [wpOpsS, go_sem, recoverD, hu, Tryz.ntmps125, Exit.thenS]
  refine wpS_of_wp ?_
  go_wp2
  exact ⟨rfl, .returning, by cases c₀; simp_all, .tuple #[], by simp [results, Tryz.results125], rfl, rfl, rfl⟩
end Go.Proofs.YtcgclhahonndbaaGreat
namespace Go.Proofs.YtcgclhahonndbaaGreat
def plN : List Int → List Int
  | [] => []
  | x :: r => if r.head? = some x then plN r else x :: plN r
theorem plN_cons (x : Int) (r : List Int) : plN (x :: r) = if r.head? = some x then plN r else x :: plN r := rfl
theorem plN_twice (a : List Int) (x : Int) (b : List Int) : plN (a ++ x :: x :: b) = plN (a ++ x :: b) := by
  induction a with
  | nil => rw [List.nil_append, plN_cons, if_pos (show (x :: b).head? = some x from rfl)]; rfl
  | cons y a ih =>
    rw [List.cons_append, List.cons_append, plN_cons, plN_cons, ih]
    have : (a ++ x :: x :: b).head? = (a ++ x :: b).head? := by cases a <;> rfl
    rw [this]
theorem plN_next (a : List Int) (x y : Int) (h : x ≠ y) : plN (a ++ [x, y]) = plN (a ++ [x]) ++ [y] := by
  induction a with
  | nil => rw [List.nil_append, plN_cons, if_neg (by intro e; exact h (by simpa using e.symm))]; rfl
  | cons z a ih =>
    rw [List.cons_append, List.cons_append, plN_cons, plN_cons, ih]
    have : (a ++ [x, y]).head? = (a ++ [x]).head? := by cases a <;> rfl
    rw [this]
    split <;> rfl
end Go.Proofs.YtcgclhahonndbaaGreat
namespace Go.Proofs.YtcgclhahonndbaaGreat
/-- What is pending: where, what, and whether it is flushed. -/
structure Pd where
  a : Int
  v : Int
  f : Bool
/-- A memory. -/
structure Mm where
  vol : List Int
  per : List Int
  pend : List Pd
/-- One is put into its place; all of them, one behind the other. -/
def put1 (l : List Int) (p : Pd) : List Int := l.set p.a.toNat p.v
def putAll (l : List Int) (ps : List Pd) : List Int := ps.foldl put1 l
/-- Each is at one of n places. -/
def InPl (n : Nat) (ps : List Pd) : Prop := ∀ p ∈ ps, 0 ≤ p.a ∧ p.a < (n : Int)
/-- Of one line what is flushed stands ahead of what is not. -/
def Fit (p q : Pd) : Prop := q.f = true → p.a / 8 = q.a / 8 → p.f = true
def Fit.dec (p q : Pd) : Decidable (Fit p q) := by unfold Fit; exact inferInstance
def Ahead (ps : List Pd) : Prop := ps.Pairwise Fit
def InPl.dec (n : Nat) (ps : List Pd) : Decidable (InPl n ps) := by unfold InPl; exact inferInstance
def Ahead.dec (ps : List Pd) : Decidable (Ahead ps) := by unfold Ahead; have : DecidableRel Fit := Fit.dec; exact inferInstance
/-- A memory may be. -/
def Ok (m : Mm) : Prop := m.per.length = m.vol.length ∧ m.vol.length ≤ 4096 ∧ m.vol.length % 8 = 0 ∧ InPl m.vol.length m.pend ∧ Ahead m.pend ∧ putAll m.per m.pend = m.vol
def Ok.dec (m : Mm) : Decidable (Ok m) := by unfold Ok; have := InPl.dec m.vol.length m.pend; have := Ahead.dec m.pend; exact inferInstance
def ok (m : Mm) : Bool := @decide (Ok m) (Ok.dec m)
theorem take_next {α : Type} {l : List α} {k : Nat} {p : α} (h : l[k]? = some p) : l.take (k + 1) = l.take k ++ [p] := by
  rw [List.take_add_one, h]; rfl
end Go.Proofs.YtcgclhahonndbaaGreat
namespace Go.Proofs.YtcgclhahonndbaaGreat
end Go.Proofs.YtcgclhahonndbaaGreat
namespace Go.Proofs.YtcgclhahonndbaaGreat
end Go.Proofs.YtcgclhahonndbaaGreat
namespace Go.Proofs.YtcgclhahonndbaaGreat
end Go.Proofs.YtcgclhahonndbaaGreat
namespace Go.Proofs.YtcgclhahonndbaaGreat
end Go.Proofs.YtcgclhahonndbaaGreat
namespace Go.Proofs.YtcgclhahonndbaaGreat
end Go.Proofs.YtcgclhahonndbaaGreat
namespace Go.Proofs.YtcgclhahonndbaaGreat
/-- A small step: its kind, where, what. -/
structure Mi where
  k : Int
  a : Int
  v : Int
end Go.Proofs.YtcgclhahonndbaaGreat
namespace Go.Proofs.YtcgclhahonndbaaGreat
open Go.RowKit
set_option linter.unusedVariables false
end Go.Proofs.YtcgclhahonndbaaGreat
namespace Go.Proofs.YtcgclhahonndbaaGreat
open Go.RowKit
set_option linter.unusedVariables false
/-- A row of the call's own is written at one place. -/
theorem OwnI.put {W : World} {base : Nat} {a : Option Addr} {n c : Nat} {zs : List Int} (h : OwnI W base (.slice a n c) zs) {k : Nat} (hk : k < zs.length) :
    ∃ g, a = some ⟨g, 0, none⟩ ∧ base ≤ g ∧ g < W.heap.size ∧ (W.cell? ⟨g, k, none⟩ = some (.int .i64 zs[k]) ∧ W.frozen? ⟨g, k, none⟩ = false) ∧ ∀ y : Int, OwnI (W.setCell ⟨g, k, none⟩ (.int .i64 y)) base (.slice a n c) (zs.set k y) := by
  have h' := h
  rcases h.2 with ⟨e, h0⟩ | ⟨g, cap, cur, e, hbg, hg, _⟩
  · omega
  · cases e
    refine ⟨g, rfl, hbg, (Array.getElem?_eq_some_iff.1 hg).1, ⟨?_, World.ownsRow.frozenAt h' k⟩, ?_⟩
    · rw [World.ownsRow.cellAt h' k (by omega), List.getElem?_map, List.getElem?_eq_getElem hk]; rfl
    · intro y
      have := (World.ownsRow.stored h' k (.int .i64 y)).1
      unfold OwnI
      rw [List.length_set, List.map_set]
      exact this
end Go.Proofs.YtcgclhahonndbaaGreat
namespace Go.Proofs.YtcgclhahonndbaaGreat
open Go.RowKit Go.Shelf
set_option linter.unusedVariables false
theorem OwnI.at {W : World} {B r n c : Nat} {zs : List Int} (h : OwnI W B (.slice (some ⟨r, 0, none⟩) n c) zs) {k : Nat} {x : Int} (hx : zs[k]? = some x) : W.cell? ⟨r, k, none⟩ = some (.int .i64 x) ∧ W.frozen? ⟨r, k, none⟩ = false ∧ ∀ y : Int, OwnI (W.setCell ⟨r, k, none⟩ (.int .i64 y)) B (.slice (some ⟨r, 0, none⟩) n c) (zs.set k y) := by
  obtain ⟨hk, rfl⟩ := List.getElem?_eq_some_iff.1 hx
  obtain ⟨g, e, _, _, ⟨h1, h2⟩, h3⟩ := h.put hk
  cases e
  exact ⟨h1, h2, h3⟩
end Go.Proofs.YtcgclhahonndbaaGreat
namespace Go.Proofs.YtcgclhahonndbaaGreat
open Go.RowKit Go.Shelf
set_option linter.unusedVariables false
end Go.Proofs.YtcgclhahonndbaaGreat
namespace Go.Proofs.YtcgclhahonndbaaGreat
open Go.RowKit Go.Shelf
set_option linter.unusedVariables false
end Go.Proofs.YtcgclhahonndbaaGreat
namespace Go.Proofs.YtcgclhahonndbaaGreat
open Go.RowKit Go.Shelf
set_option linter.unusedVariables false
/-- Where a list stands, and all that is read of it. -/
theorem Rd.base {W : World} {a : Option Addr} {n c : Nat} {zs : List Int} (h : Rd W (.slice a n c) zs) (h0 : 0 < zs.length) : ∃ b off, a = some ⟨b, off, none⟩ ∧ ∀ k z, zs[k]? = some z → W.cell? ⟨b, off + k, none⟩ = some (.int .i64 z) := by
  obtain ⟨_, _, a', cap', e, _, h3⟩ := h
  cases e
  rcases h3 with ⟨h0', _⟩ | ⟨b, off, rfl, _, hc⟩
  · omega
  · exact ⟨b, off, rfl, fun k z hz => hc k _ (by rw [List.getElem?_map, hz]; rfl)⟩
end Go.Proofs.YtcgclhahonndbaaGreat
namespace Go.Proofs.YtcgclhahonndbaaGreat
open Go.RowKit Go.Shelf
set_option linter.unusedVariables false
end Go.Proofs.YtcgclhahonndbaaGreat
namespace Go.Proofs.YtcgclhahonndbaaGreat
/-- A node may begin there; a slot's place; slots that may be; a place of a list. -/
def ndB (b : Int) : Bool := decide (0 ≤ b ∧ b ≤ 4080 ∧ b % 16 = 0)
def plB (b s : Int) : Bool := ndB b && decide (0 ≤ s ∧ s ≤ 12)
def plc (b s : Int) : Int := if plB b s then b + 3 + s else -1
def posB (l : List Int) : Bool := l.all fun x => decide (0 < x)
theorem ndB_out {b : Int} (h : ndB b = true) : 0 ≤ b ∧ b ≤ 4080 ∧ b % 16 = 0 := of_decide_eq_true h
theorem plc_yes {b s : Int} (h : ndB b = true) (h0 : 0 ≤ s) (h1 : s ≤ 12) : plc b s = b + 3 + s := by
  unfold plc plB
  rw [h, decide_eq_true ⟨h0, h1⟩]
  rfl
theorem posB_out {l : List Int} (h : posB l = true) : ∀ x ∈ l, 0 < x := by
  intro x hx
  unfold posB at h
  have := List.all_eq_true.1 h x hx
  simpa using this
end Go.Proofs.YtcgclhahonndbaaGreat
namespace Go.Proofs.YtcgclhahonndbaaGreat
open Go.RowKit
set_option linter.unusedVariables false
/-- Level, Turn, Next, Low, Slots. -/
structure Nd where
  lv : Int
  tu : Int
  nx : Int
  lo : Int
  sl : List Int
def lvB (x : Int) : Bool := decide (0 ≤ x ∧ x ≤ 9)
def tuB (x : Int) : Bool := decide (0 ≤ x ∧ x ≤ 1099511627776)
def lkB (x : Int) : Bool := decide (0 ≤ x ∧ x ≤ 255)
def slB (x : Int) : Bool := decide (1 ≤ x ∧ x ≤ 255)
/-- A node may be. -/
def nnB (n : Nd) : Bool := decide (n.sl.length ≤ 13) && (lvB n.lv && (tuB n.tu && (lkB n.nx && (lkB n.lo && n.sl.all slB))))
structure May (n : Nd) : Prop where
  len : n.sl.length ≤ 13
  l0 : 0 ≤ n.lv
  l9 : n.lv ≤ 9
  t0 : 0 ≤ n.tu
  t9 : n.tu ≤ 1099511627776
  x0 : 0 ≤ n.nx
  x9 : n.nx ≤ 255
  w0 : 0 ≤ n.lo
  w9 : n.lo ≤ 255
  sl : ∀ x ∈ n.sl, 1 ≤ x ∧ x ≤ 255
theorem nnB_iff {n : Nd} : nnB n = true ↔ May n := by
  unfold nnB lvB tuB lkB
  simp only [Bool.and_eq_true, decide_eq_true_eq, List.all_eq_true]
  constructor
  · rintro ⟨h, ⟨a, b⟩, ⟨c, d⟩, ⟨e, f⟩, ⟨g, i⟩, k⟩
    exact ⟨h, a, b, c, d, e, f, g, i, fun x hx => of_decide_eq_true (k x hx)⟩
  · rintro ⟨h, a, b, c, d, e, f, g, i, k⟩
    exact ⟨h, ⟨a, b⟩, ⟨c, d⟩, ⟨e, f⟩, ⟨g, i⟩, fun x hx => decide_eq_true (k x hx)⟩
theorem nnB_no {n : Nd} (h : ¬ May n) : nnB n = false := by
  cases e : nnB n
  · rfl
  · exact absurd (nnB_iff.1 e) h
/-- The first word; slots with noughts behind; an image. -/
def hdI (t l : Int) : Int := 1152921504606846976 + 16 * t + l
def padL (s : List Int) : List Int := s ++ List.replicate (13 - s.length) 0
theorem padL_length {s : List Int} (h : s.length ≤ 13) : (padL s).length = 13 := by unfold padL; simp; omega
def imN (n : Nd) : List Int := hdI n.tu n.lv :: n.nx :: n.lo :: padL n.sl
theorem imN_length {n : Nd} (h : n.sl.length ≤ 13) : (imN n).length = 16 := by
  show (padL n.sl).length + 3 = 16
  rw [padL_length h]
/-- The node that words are, if they are one's. -/
def heI (L : List Int) : Int := IntKind.i64.wrap (L.getD 0 0 - 1152921504606846976)
def guN (L : List Int) : Nd := ⟨(heI L).tmod 16, (heI L).tdiv 16, L.getD 1 0, L.getD 2 0, (L.drop 3).takeWhile (fun x => decide (0 < x))⟩
def okB (L : List Int) : Bool := nnB (guN L) && decide (imN (guN L) = L)
theorem while_pad {p : Int → Bool} {s : List Int} (m : Nat) (h : ∀ x ∈ s, p x = true) (h0 : p 0 = false) : (s ++ List.replicate m 0).takeWhile p = s := by
  rw [List.takeWhile_append_of_pos h]
  cases m with
  | zero => simp
  | succ m => rw [List.replicate_succ, List.takeWhile_cons, h0]; simp
theorem he_im {n : Nd} (h : May n) : heI (imN n) = 16 * n.tu + n.lv := by
  obtain ⟨_, a, b, c, d, _⟩ := h
  show IntKind.i64.wrap (hdI n.tu n.lv - 1152921504606846976) = _
  rw [IntKind.wrap_i64]
  unfold hdI
  omega
theorem num_im {n : Nd} (h : May n) : (heI (imN n)).tmod 16 = n.lv ∧ (heI (imN n)).tdiv 16 = n.tu := by
  rw [he_im h]
  obtain ⟨_, a, b, c, d, _⟩ := h
  rw [Int.tmod_eq_emod_of_nonneg (by omega), Int.tdiv_eq_ediv_of_nonneg (by omega)]
  omega
theorem gu_im {n : Nd} (h : May n) : guN (imN n) = n := by
  obtain ⟨e1, e2⟩ := num_im h
  have e3 : ((imN n).drop 3).takeWhile (fun x => decide (0 < x)) = n.sl := while_pad _ (fun x hx => decide_eq_true (by have := h.sl x hx; omega)) rfl
  unfold guN
  rw [e1, e2, e3]
  rfl
theorem ok_im {n : Nd} (h : May n) : okB (imN n) = true := by
  unfold okB
  rw [gu_im h, nnB_iff.2 h, decide_eq_true rfl]
  rfl
theorem okB_out {L : List Int} (h : okB L = true) : May (guN L) ∧ imN (guN L) = L := by
  unfold okB at h
  simp only [Bool.and_eq_true, decide_eq_true_eq] at h
  exact ⟨nnB_iff.1 h.1, h.2⟩
theorem okB_no1 {L : List Int} (h : nnB (guN L) = false) : okB L = false := by unfold okB; rw [h]; rfl
theorem okB_no2 {L : List Int} (h : imN (guN L) ≠ L) : okB L = false := by unfold okB; rw [decide_eq_false h, Bool.and_false]
/-- The words of a node. -/
def wnE (n : Nd) : Int := if nnB n then 0 else 90
def wnL (n : Nd) : List Int := if nnB n then imN n else []
theorem wn_yes {n : Nd} (h : nnB n = true) : wnL n = imN n ∧ wnE n = 0 := by simp [wnL, wnE, h]
theorem wn_no {n : Nd} (h : nnB n = false) : wnL n = [] ∧ wnE n = 90 := by simp [wnL, wnE, h]
/-- What a block of words tells. -/
def nilN : Nd := ⟨0, 0, 0, 0, []⟩
def bkL (zs : List Int) (b : Int) : List Int := (zs.drop (16 * b.toNat)).take 16
def rnK (zs : List Int) (b : Int) : Bool := decide (0 ≤ b ∧ b < (zs.length : Int) / 16)
def rnE (zs : List Int) (b : Int) : Int := if rnK zs b then (if okB (bkL zs b) then 0 else 90) else 1
def rnN (zs : List Int) (b : Int) : Nd := if rnK zs b && okB (bkL zs b) then guN (bkL zs b) else nilN
theorem rn_out {zs : List Int} {b : Int} (h : rnK zs b = false) : rnE zs b = 1 ∧ rnN zs b = nilN := by simp [rnE, rnN, h]
theorem rn_bad {zs : List Int} {b : Int} (h : rnK zs b = true) (h2 : okB (bkL zs b) = false) : rnE zs b = 90 ∧ rnN zs b = nilN := by simp [rnE, rnN, h, h2]
theorem rn_ok {zs : List Int} {b : Int} (h : rnK zs b = true) (h2 : okB (bkL zs b) = true) : rnE zs b = 0 ∧ rnN zs b = guN (bkL zs b) := by simp [rnE, rnN, h, h2]
theorem rnK_iff {zs : List Int} {b : Int} : rnK zs b = true ↔ 0 ≤ b ∧ b < (zs.length : Int) / 16 := by simp [rnK]
theorem bkL_length {zs : List Int} {b : Int} (h : rnK zs b = true) : (bkL zs b).length = 16 := by
  obtain ⟨h1, h2⟩ := rnK_iff.1 h
  unfold bkL
  rw [List.length_take, List.length_drop]
  omega
end Go.Proofs.YtcgclhahonndbaaGreat
