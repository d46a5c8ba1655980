/- Walks of layer 5: steps that are read; the table of kinds; small functions. · Walks of layer 5: the table is made; Check. -/
import Derived.Test.YtbnlekheadmecaaNumq
import Derived.Test.YtbnlekheadmecaaWalko
import Derived.Maps.OwnOps
namespace Go.Proofs.Ytbnlekheadmecaa
open Go.RowKit Go.Shelf
set_option linter.unusedVariables false

/-- The cells of steps. -/
def mc1 (x : Mi) : List Value := [.int .i64 x.k, .int .i64 x.a, .int .i64 x.v]
def mcs (l : List Mi) : List Value := l.flatMap mc1
theorem mcs_length (l : List Mi) : (mcs l).length = l.length * 3 := by
  induction l with
  | nil => rfl
  | cons p ps ih => simp only [mcs, List.flatMap_cons, List.length_append, List.length_cons] at *; rw [ih]; simp [mc1]; omega
theorem mcs_append (ps qs : List Mi) : mcs (ps ++ qs) = mcs ps ++ mcs qs := by simp [mcs]
theorem mcs_at (ps : List Mi) (k : Nat) (hk : k < ps.length) (i : Nat) (hi : i < 3) : (mcs ps)[k * 3 + i]? = (mc1 (ps[k]'hk))[i]? := by
  induction ps generalizing k with
  | nil => simp at hk
  | cons p ps ih =>
    have e : mcs (p :: ps) = mc1 p ++ mcs ps := by simp [mcs]
    rw [e]
    cases k with
    | zero =>
      rw [Nat.zero_mul, Nat.zero_add, List.getElem?_append_left (by simp [mc1]; omega)]
      rfl
    | succ k =>
      rw [List.getElem?_append_right (by simp [mc1]; omega)]
      have : (k + 1) * 3 + i - (mc1 p).length = k * 3 + i := by simp [mc1]; omega
      rw [this, ih k (by simpa using hk)]
      rfl
theorem mcs_one (ps : List Mi) : ∀ u ∈ mcs ps, u.oneCell' = true := by
  intro u hu
  obtain ⟨p, _, hp⟩ := List.mem_flatMap.1 hu
  simp only [mc1, List.mem_cons, List.not_mem_nil, or_false] at hp
  rcases hp with rfl | rfl | rfl <;> rfl
theorem mcs_sl (ps : List Mi) : ∀ u ∈ mcs ps, Value.isSl u = false := by
  intro u hu
  obtain ⟨p, _, hp⟩ := List.mem_flatMap.1 hu
  simp only [mc1, List.mem_cons, List.not_mem_nil, or_false] at hp
  rcases hp with rfl | rfl | rfl <;> rfl
/-- The slice v holds the steps l. -/
def RdS (W : World) (v : Value) (l : List Mi) : Prop := RdC W 3 v l.length (mcs l)
theorem RdS.below {W W' : World} {v : Value} {l : List Mi} (h : RdS W v l) (hb : Below W.heap.size W W') : RdS W' v l := RdC.below h hb
theorem RdS.form {W : World} {v : Value} {l : List Mi} (h : RdS W v l) : l.length ≤ 1000 ∧ ∃ a cap, v = .slice a l.length cap := by
  obtain ⟨_, h2, a, cap, rfl, _⟩ := h
  exact ⟨h2, a, cap, rfl⟩
theorem RdS.get {W : World} {a : Option Addr} {n cap : Nat} {l : List Mi} (h : RdS W (.slice a n cap) l) {k : Nat} {x : Mi} (hp : l[k]? = some x) :
    ∃ b off, a = some ⟨b, off, none⟩ ∧ W.cell? ⟨b, off + k * 3, none⟩ = some (.int .i64 x.k) ∧ W.cell? ⟨b, off + k * 3 + 1, none⟩ = some (.int .i64 x.a) ∧ W.cell? ⟨b, off + k * 3 + 2, none⟩ = some (.int .i64 x.v) := by
  obtain ⟨hk, rfl⟩ := List.getElem?_eq_some_iff.1 hp
  obtain ⟨_, _, a', cap', e, _, h3⟩ := h
  cases e
  rcases h3 with ⟨h0, _⟩ | ⟨b, off, rfl, _, hc⟩
  · omega
  · exact ⟨b, off, rfl, hc (k * 3 + 0) _ (by rw [mcs_at l k hk 0 (by omega)]; rfl), hc (k * 3 + 1) _ (by rw [mcs_at l k hk 1 (by omega)]; rfl), hc (k * 3 + 2) _ (by rw [mcs_at l k hk 2 (by omega)]; rfl)⟩
theorem RdS.cells {W : World} {b off n c : Nat} {l : List Mi} (h : RdS W (.slice (some ⟨b, off, none⟩) n c) l) {k : Nat} {x : Mi} (hp : l[k]? = some x) : W.cell? ⟨b, off + k * 3, none⟩ = some (.int .i64 x.k) ∧ W.cell? ⟨b, off + k * 3 + 1, none⟩ = some (.int .i64 x.a) ∧ W.cell? ⟨b, off + k * 3 + 2, none⟩ = some (.int .i64 x.v) := by
  obtain ⟨b', off', e, h3⟩ := h.get hp
  cases e
  exact h3

/-- The table of kinds lies at b. -/
def tabE : Array MapEntry := #[⟨.int .i64 1, .agg #[.func (.func 50) #[] #[], .func (.func 51) #[] #[]], 0⟩, ⟨.int .i64 2, .agg #[.func (.func 52) #[] #[], .func (.func 53) #[] #[]], 1⟩]
def Tab (W : World) (b : Nat) : Prop := W.heap[b]? = some (.map tabE 2)
theorem Tab.lt {W : World} {b : Nat} (h : Tab W b) : b < W.heap.size := (Array.getElem?_eq_some_iff.1 h).1
theorem Tab.below {W W' : World} {b : Nat} (h : Tab W b) (hb : Below W.heap.size W W') : Tab W' b := (hb.block b h.lt).trans h

theorem check3 (e : Bool) (k : Int) (w : World) : (Instr.checkKey e 10000 3 (.int .i64 k)).run Try.prog w = .ok () w := by kernel_rfl
theorem look_one {W : World} {b : Nat} (h : Tab W b) (c : Bool) : (Instr.lookup 72 (.map (some b)) (.int .i64 1) c).run Try.prog W = .ok (if c then .tuple #[.agg #[.func (.func 50) #[] #[], .func (.func 51) #[] #[]], .bool true] else .agg #[.func (.func 50) #[] #[], .func (.func 51) #[] #[]]) W := by
  cases c <;> simp [Instr.lookup, run_underlying Try.underlying72, run_underlying Try.underlying3, MapKept.run_getObj_map h, check3, Instr.findKey, Instr.findNow, Instr.sameNow, tabE, Result.andThen]
theorem look_two {W : World} {b : Nat} (h : Tab W b) (c : Bool) : (Instr.lookup 72 (.map (some b)) (.int .i64 2) c).run Try.prog W = .ok (if c then .tuple #[.agg #[.func (.func 52) #[] #[], .func (.func 53) #[] #[]], .bool true] else .agg #[.func (.func 52) #[] #[], .func (.func 53) #[] #[]]) W := by
  cases c <;> simp [Instr.lookup, run_underlying Try.underlying72, run_underlying Try.underlying3, MapKept.run_getObj_map h, check3, Instr.findKey, Instr.findNow, Instr.sameNow, tabE, Result.andThen]
theorem look_none {W : World} {b : Nat} (h : Tab W b) {k : Int} (h1 : k ≠ 1) (h2 : k ≠ 2) : (Instr.lookup 72 (.map (some b)) (.int .i64 k) true).run Try.prog W = .ok (.tuple #[.agg #[.nilFunc, .nilFunc], .bool false]) W := by
  have e1 : (k == 1) = false := by simpa using h1
  have e2 : (k == 2) = false := by simpa using h2
  simp [Instr.lookup, run_underlying Try.underlying72, run_underlying Try.underlying3, MapKept.run_getObj_map h, check3, Instr.findKey, Instr.findNow, Instr.sameNow, tabE, Result.andThen, e1, e2]

set_option maxRecDepth 100000 in
theorem isStore_any (x : Mi) (n : Int) (w : World) : Calls Try.prog 50 #[.agg #[.int .i64 x.k, .int .i64 x.a, .int .i64 x.v], .int .i64 n] w fun e w' => e = .returned (.bool (stB n x)) ∧ Below w.heap.size w w' := by
  by_cases h1 : (0 : Int) ≤ x.a
  · have H : Hid (stB n x = decide (x.a < n)) := by (show stB n x = _; unfold stB; simp [h1])
    go_enter Try.func50, Try.ntmps50
    go_wp2
    go_ret
    exact ⟨ret_bool H.out.symm, (Below.refl _ _).alloc (Nat.le_refl _) _⟩
  · have H : Hid (stB n x = false) := decide_eq_false (by omega)
    go_enter Try.func50, Try.ntmps50
    go_wp2
    go_ret
    exact ⟨ret_bool H.out.symm, (Below.refl _ _).alloc (Nat.le_refl _) _⟩

set_option maxRecDepth 100000 in
theorem isPersist_any (x : Mi) (n : Int) (w : World) (h0 : 0 ≤ n) (h9 : n ≤ 4096) : Calls Try.prog 52 #[.agg #[.int .i64 x.k, .int .i64 x.a, .int .i64 x.v], .int .i64 n] w fun e w' => e = .returned (.bool (peB n x)) ∧ Below w.heap.size w w' := by
  by_cases h1 : (0 : Int) ≤ x.a
  · by_cases h2 : x.a < n / 8
    · have H : Hid (peB n x = decide (x.v = 0)) := by (show peB n x = _; unfold peB; simp [h1, h2])
      go_enter Try.func52, Try.ntmps52
      go_wp2
      go_ret
      exact ⟨ret_bool (by rw [H.out]; rfl), (Below.refl _ _).alloc (Nat.le_refl _) _⟩
    · have H : Hid (peB n x = false) := decide_eq_false (by omega)
      go_enter Try.func52, Try.ntmps52
      go_wp2
      go_ret
      exact ⟨ret_bool H.out.symm, (Below.refl _ _).alloc (Nat.le_refl _) _⟩
  · have H : Hid (peB n x = false) := decide_eq_false (by omega)
    go_enter Try.func52, Try.ntmps52
    go_wp2
    go_ret
    exact ⟨ret_bool H.out.symm, (Below.refl _ _).alloc (Nat.le_refl _) _⟩
end Go.Proofs.Ytbnlekheadmecaa
namespace Go.Proofs.Ytbnlekheadmecaa
open Go.RowKit Go.Shelf
set_option linter.unusedVariables false

theorem ins_one {W : World} {b : Nat} (v : Value) (h : W.heap[b]? = some (.map #[] 0)) : (Instr.mapUpdate 72 (.map (some b)) (.int .i64 1) v).run Try.prog W = .ok () (ChangeMaps.setBlock W b (.map #[⟨.int .i64 1, v, 0⟩] 1)) := by
  simp [Instr.mapUpdate, run_underlying Try.underlying72, run_underlying Try.underlying3, MapKept.run_getObj_map h, check3, Instr.findKey, Instr.findNow, MapKept.run_setObj_map _ h, Result.andThen, ChangeMaps.setBlock]
theorem ins_two {W : World} {b : Nat} (u v : Value) (h : W.heap[b]? = some (.map #[⟨.int .i64 1, u, 0⟩] 1)) : (Instr.mapUpdate 72 (.map (some b)) (.int .i64 2) v).run Try.prog W = .ok () (ChangeMaps.setBlock W b (.map #[⟨.int .i64 1, u, 0⟩, ⟨.int .i64 2, v, 1⟩] 2)) := by
  simp [Instr.mapUpdate, run_underlying Try.underlying72, run_underlying Try.underlying3, MapKept.run_getObj_map h, check3, Instr.findKey, Instr.findNow, Instr.sameNow, MapKept.run_setObj_map _ h, Result.andThen, ChangeMaps.setBlock]
theorem set_new (W : World) (o o' : Obj) : (ChangeMaps.setBlock (W.alloc o) W.heap.size o').heap[W.heap.size]? = some o' := by
  simp [ChangeMaps.setBlock]
theorem set_set (W : World) (o o' o'' : Obj) : (ChangeMaps.setBlock (ChangeMaps.setBlock (W.alloc o) W.heap.size o') W.heap.size o'').heap[W.heap.size]? = some o'' := by
  simp [ChangeMaps.setBlock]
theorem below_set {a W : World} {b : Nat} (h : Below a.heap.size a W) (hb : a.heap.size ≤ b) (o : Obj) : Below a.heap.size a (ChangeMaps.setBlock W b o) := by
  refine ⟨h.os, h.tape, h.output, ?_, ?_⟩
  · simp [ChangeMaps.setBlock]; exact h.size
  · intro k hk
    rw [← h.block k hk]
    simp only [ChangeMaps.setBlock]
    exact Array.getElem?_setIfInBounds_ne (by omega)

set_option maxRecDepth 100000 in
theorem kinds_any (w : World) : Calls Try.prog 43 #[] w fun e w' => ∃ b, e = .returned (.map (some b)) ∧ Tab w' b ∧ Below w.heap.size w w' := by
  have i1 := ins_one (W := w.alloc (.map #[] 0)) (.agg #[.func (.func 50) #[] #[], .func (.func 51) #[] #[]]) (heap_alloc_new w _)
  have i2 := ins_two (W := ChangeMaps.setBlock (w.alloc (.map #[] 0)) w.heap.size (.map #[⟨.int .i64 1, .agg #[.func (.func 50) #[] #[], .func (.func 51) #[] #[]], 0⟩] 1)) (.agg #[.func (.func 50) #[] #[], .func (.func 51) #[] #[]]) (.agg #[.func (.func 52) #[] #[], .func (.func 53) #[] #[]]) (set_new w _ _)
  have mk := run_makeMap (P := Try.prog) 72 w
  go_enter Try.func43, Try.ntmps43
  go_wp2
  go_ret
  exact ⟨_, rfl, set_set w _ _ _, below_set (below_set ((Below.refl _ _).alloc (Nat.le_refl _) _) (Nat.le_refl _) _) (Nat.le_refl _) _⟩
end Go.Proofs.Ytbnlekheadmecaa
