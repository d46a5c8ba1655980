/- Layer 12: a leaf's own pairs, one behind the other. -/
import Derived.Test.YtcgclhahonndbaaPob
import Derived.RangeFuncBox
import Derived.RangeFuncNested
import Derived.RangeFuncBound
import Derived.RangeFuncCalls
import Derived.RangeFuncLeaves
import Derived.Shelf.Abstract
import Derived.Shelf.RegionOpen
import Derived.OwnWalkIn
import Derived.TacticsInMore
import Derived.LoopNIn
import Derived.LoopIn
import Derived.Maps.AppendAt
namespace Go.Proofs.Ytcgclhahonndbaa
open Go.RowKit Go.Shelf
set_option linter.unusedVariables false
attribute [local go_sem] Oper.semAt_some

/-- All blocks of records are kept. -/
structure Kp48 (W W' : World) : Prop where
  size : W.heap.size ≤ W'.heap.size
  same : ∀ (b : Nat) cs fz, W.heap[b]? = some (Obj.cells cs 48 fz) → W'.heap[b]? = some (Obj.cells cs 48 fz)
theorem Kp48.refl (W : World) : Kp48 W W := ⟨Nat.le_refl _, fun _ _ _ h => h⟩
theorem Kp48.trans {A B C : World} (h : Kp48 A B) (k : Kp48 B C) : Kp48 A C := ⟨Nat.le_trans h.size k.size, fun b cs fz hb => k.same b cs fz (h.same b cs fz hb)⟩
theorem Kp48.below {W W' : World} (h : Below W.heap.size W W') : Kp48 W W' := ⟨h.size, fun b cs fz hb => (h.block b (Array.getElem?_eq_some_iff.1 hb).1).trans hb⟩
theorem Kp48.putObj {W : World} {l : Nat} {o o' : Obj} (h : W.heap[l]? = some o) (ho : o.isCells = false) : Kp48 W (W.putObj l o') := by
  refine ⟨by simp, fun b cs fz hb => ?_⟩
  by_cases e : b = l
  · subst e
    rw [h] at hb
    cases hb
    cases ho
  · exact (World.putObj_heap_other e).trans hb
theorem OwR.kp {W W' : World} {base : Nat} {v : Value} {D : List Rc} (h : OwR W base v D) (hk : Kp48 W W') : OwR W' base v D := by
  obtain ⟨a, c, e, h1, h2, h3⟩ := h
  refine ⟨a, c, e, h1, h2, ?_⟩
  rcases h3 with h | ⟨g, e, h4, h5⟩
  · exact .inl h
  · exact .inr ⟨g, e, h4, h5.of_blk fun cs fz hc => hk.same g cs fz hc⟩
theorem grown_of {W W' : World} (h : Below W.heap.size W W') : W.grownBy W' none := ⟨h.os, h.tape, h.output, h.size, fun k hk _ => h.block k hk⟩
/-- A record's pair; a leaf's own pairs. -/
def prR (x : Rc) : Pa := ⟨x.key, x.val⟩
def ownL (zs : List Int) (b : Int) : List Pa := (cutR zs b).map prR
theorem cutR_len (zs : List Int) (b : Int) : (cutR zs b).length ≤ 13 := by
  have h1 : (slR zs b).length ≤ 13 := by
    unfold slR
    rw [List.length_map]
    exact Nat.le_trans (plN_le _) (sl_small zs b).1
  unfold cutR
  split
  · exact h1
  · rw [List.length_take]; omega
theorem ownL_len (zs : List Int) (b : Int) : (ownL zs b).length ≤ 13 := by unfold ownL; rw [List.length_map]; exact cutR_len zs b

set_option maxRecDepth 100000 in
set_option maxHeartbeats 2000000 in
/-- The closure, for every loop body that keeps the blocks of records. -/
theorem own1_in (n : Nat) (hn : 1 ≤ n) (l Bw Bl : Nat) (v : Value) (zs : List Int) (b : Int) (J Jx : List Pa → World → Prop) (hF : Fits zs) (W : World) (hJ : AbidesFrom W.heap.size J)
    (hY : ∀ pre x W1, J pre W1 → pre.length < (ownL zs b).length → YieldAt Fence.wide (n - 1) Try.prog l #[.agg #[.string x.k, .string x.v]] W1 fun e W' =>
      (e = .returned (.bool true) ∧ J (pre ++ [x]) W' ∧ Kp48 W1 W') ∨ (e = .returned (.bool false) ∧ Jx (pre ++ [x]) W'))
    (hw : W.cell? ⟨Bw, 0, none⟩ = some v) (hl : W.cell? ⟨Bl, 0, none⟩ = some (.int .i64 b)) (hR : Rl W v zs) (h0 : J [] W) :
    CallsIn Fence.wide n Try.prog 72 #[.func (.yield l) #[] #[], .pointer (some ⟨Bw, 0, none⟩), .pointer (some ⟨Bl, 0, none⟩)] W fun e W' => (∃ v, e = .returned v) ∧
      ((∃ ys, ys = ownL zs b ∧ J ys W') ∨ (∃ pre, True ∧ Jx pre W')) := by
  obtain ⟨_, va, vc, rfl, _⟩ := hR.form
  have K73 := ownRecords_any (.slice va zs.length vc) zs b W hR hF
  have hCl := cutR_len zs b
  have HO : Hid (ownL zs b = (cutR zs b).map prR) := rfl
  have HJ : Hid (AbidesFrom W.heap.size J) := hJ
  have HY : Hid (∀ pre x W1, J pre W1 → pre.length < (ownL zs b).length → YieldAt Fence.wide (n - 1) Try.prog l #[.agg #[.string x.k, .string x.v]] W1 fun e W' => (e = .returned (.bool true) ∧ J (pre ++ [x]) W' ∧ Kp48 W1 W') ∨ (e = .returned (.bool false) ∧ Jx (pre ++ [x]) W')) := hY
  have H0 : Hid (J [] W) := h0
  clear hJ hY h0
  have K : Hid (Calls Try.prog 73 #[.slice va zs.length vc, .int .i64 b] W fun e w' => ∃ v', e = .returned v' ∧ OwR w' W.heap.size v' (cutR zs b) ∧ Below W.heap.size W w') := K73
  clear K73
  generalize ownL zs b = O at *
  generalize cutR zs b = C at *
  have hro : Fence.wide.round = none := rfl
  refine callsIn_of_wp Try.func72 rfl trivial ?_ hro
  simp only [Try.ntmps72, List.size_toArray, List.length_cons, List.length_nil, Nat.reduceAdd, Nat.reduceSub, Array.replicate_succ, Array.replicate_zero, List.push_toArray, List.append_toArray, List.nil_append, List.cons_append]
  gi_wp2_with (first
    | (refine ⟨trivial, ?_⟩; gi_at_call 73; refine (callsIn_wide.2 K.out).mono ?_; rintro e W1 ⟨v1, rfl, o1, hb1⟩; obtain ⟨oa, oc, rfl, ho1, ho2, ho3⟩ := o1; have O1 : Hid (OwR W1 W.heap.size (.slice oa C.length oc) C) := ⟨oa, oc, rfl, ho1, ho2, ho3⟩; have J1 : Hid (J [] W1) := HJ.out _ _ _ none H0.out (grown_of hb1) (fun r e => by cases e); clear ho3))
  unfold maxLen at ho2
  gi_loopw [10] (fun i wr => ∃ k : Nat, k ≤ C.length ∧ i = .int .i64 k ∧ J ((C.take k).map prR) wr ∧ OwR wr W.heap.size (.slice oa C.length oc) C) (fun i _ => C.length - (Go.RowKit.intOf i).toNat)
  case atStart => exact ⟨0, Nat.zero_le _, rfl, J1.out, O1.out⟩
  case round =>
    obtain ⟨k, hk, rfl, hJ, hO⟩ := hrel
    have JR : Hid (J ((C.take k).map prR) wr) := hJ
    have OR : Hid (OwR wr W.heap.size (.slice oa C.length oc) C) := hO
    clear hJ hO
    by_cases hlt : k < C.length
    · have hltI : (k : Int) < (C.length : Int) := by omega
      obtain ⟨x, hx⟩ : ∃ x, C[k]? = some x := ⟨_, List.getElem?_eq_getElem hlt⟩
      obtain ⟨a', c', e', _, _, h3⟩ := OR.out
      cases e'
      rcases h3 with ⟨h0, _⟩ | ⟨g, rfl, _, hbk⟩
      · rw [h0] at hlt; simp at hlt
      obtain ⟨x0, x1, x2, x3⟩ := hbk.at' k x hx
      have Hn : Hid ((C.take (k + 1)).map prR = (C.take k).map prR ++ [prR x]) := by (show _ = _; rw [take_nextR hx, List.map_append]; rfl)
      have hJa := HJ.out _ _ _ none JR.out (World.grownBy_alloc wr (.cells #[.int .i64 x.k, .string x.key, .string x.val, .int .i64 x.ch] 48) none) (fun r e => by cases e)
      have OA : Hid (OwR (wr.alloc (.cells #[.int .i64 x.k, .string x.key, .string x.val, .int .i64 x.ch] 48)) W.heap.size (.slice (some ⟨g, 0, none⟩) C.length oc) C) := OR.out.below ((Below.refl _ _).alloc (Nat.le_refl _) _)
      obtain ⟨fn, tmps, assign, body, hy, hRd⟩ := HY.out _ (prR x) _ hJa (by rw [HO.out, List.length_map, List.length_map, List.length_take]; omega)
      rw [← Hn.out] at hRd
      have hy2 : (Instr.yield l #[.agg #[.string x.key, .string x.val]]).run Try.prog (wr.alloc (.cells #[.int .i64 x.k, .string x.key, .string x.val, .int .i64 x.ch] 48)) = .ok (.round l fn tmps assign body) (wr.alloc (.cells #[.int .i64 x.k, .string x.key, .string x.val, .int .i64 x.ch] 48)) := hy
      clear hx hbk hy hJa
      gi_wp2
      refine hRd.mono ?_
      rintro e W3 (⟨rfl, hJ3, hk3⟩ | ⟨rfl, hJx3⟩)
      · gi_wp2
        exact ⟨⟨k + 1, by omega, by go_num, hJ3, OA.out.kp hk3⟩, by simp [Go.RowKit.intOf]; omega⟩
      · gi_wp2
        refine bodyPost_ret (results_none rfl _ _ _) rfl ?_
        exact ⟨⟨_, rfl⟩, .inr ⟨_, trivial, hJx3⟩⟩
    · have hge : ¬ (k : Int) < (C.length : Int) := by omega
      have Hn : Hid ((C.take k).map prR = O) := by (show _ = _; rw [List.take_of_length_le (by omega), HO.out])
      gi_wp2
      go_end0
      exact ⟨⟨_, rfl⟩, .inl (by rw [← Hn.out]; exact JR.out)⟩
theorem own1_stops (n : Nat) (hn : 1 ≤ n) (Bw Bl : Nat) (v : Value) (zs : List Int) (b : Int) (w : World) (hF : Fits zs) (hw : w.cell? ⟨Bw, 0, none⟩ = some v) (hl : w.cell? ⟨Bl, 0, none⟩ = some (.int .i64 b)) (hR : Rl w v zs) :
    SeqStopsK Fence.wide n Try.prog 72 #[.pointer (some ⟨Bw, 0, none⟩), .pointer (some ⟨Bl, 0, none⟩)] (fun x : Pa => #[.agg #[.string x.k, .string x.v]]) Kp48 (fun ys => ys = ownL zs b) (fun _ => True) (ownL zs b).length w := fun l J Jx W hW hJ _ hY h0 =>
  own1_in n hn l Bw Bl v zs b J Jx hF W hJ hY ((hW.cell (p := ⟨Bw, 0, none⟩) (World.block_lt_of_cell? _ _ hw)).trans hw) ((hW.cell (p := ⟨Bl, 0, none⟩) (World.block_lt_of_cell? _ _ hl)).trans hl) (hR.below hW) h0
set_option maxHeartbeats 1000000 in
theorem own_in (n : Nat) (va : Option Addr) (vl vc : Nat) (b : Int) (w : World) :
    CallsIn Fence.wide n Try.prog 47 #[.slice va vl vc, .int .i64 b] w fun e w' => e = .returned (.func (.func 72) #[] #[.pointer (some ⟨w.heap.size, 0, none⟩), .pointer (some ⟨w.heap.size + 1, 0, none⟩)]) ∧ w' = (w.alloc (.cells #[.slice va vl vc] 22)).alloc (.cells #[.int .i64 b] 3) := by
  have hro : Fence.wide.round = none := rfl
  have hmf : ∀ (fn : Fn) (first cap : Array Value) (w : World), (Instr.makeFunc fn first cap).run Try.prog w = .ok (.func fn first cap) w := fun _ _ _ _ => rfl
  refine callsIn_of_wp Try.func47 rfl trivial ?_ hro
  simp only [Try.ntmps47, List.size_toArray, List.length_cons, List.length_nil, Nat.reduceAdd, Nat.reduceSub, Array.replicate_succ, Array.replicate_zero, List.push_toArray, List.append_toArray, List.nil_append, List.cons_append]
  gi_wp2
  go_ret
  exact ⟨rfl, rfl⟩
end Go.Proofs.Ytcgclhahonndbaa
