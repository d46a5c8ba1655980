/- Walks of layer 4: what a crash keeps: the closure. · Walks of layer 4: Crash. · Walks of layer 4: a line's, by a range over a function: the iterator. -/
import Derived.Test.YtbnlekheadmecaaWalkh
import Derived.Test.YtbnlekheadmecaaNuma
import Derived.Deep.RegionWith
import Derived.Laws.CopyOwn
import Derived.RangeFuncBox
import Derived.RangeFuncNested
import Derived.RangeFuncBound
import Derived.RangeFuncCalls
import Derived.RangeFuncLeaves
import Derived.Shelf.Abstract
import Derived.Shelf.RegionOpen
import Derived.OwnWalkIn
import Derived.TacticsInMore
import Derived.LoopNIn
import Derived.LoopIn
import Derived.Maps.AppendAt
import Derived.Shelf.SlSortCmp.QuietGrown
namespace Go.Proofs.Ytbnlekheadmecaa
open Go.RowKit Go.Shelf
set_option linter.unusedVariables false

theorem same_refl (n : Nat) (W : World) : Same n W W := ⟨Nat.le_refl _, fun _ _ _ => rfl⟩
theorem Same.trans {n : Nat} {a b c : World} (h : Same n a b) (k : Same n b c) : Same n a c := ⟨Nat.le_trans h.1 k.1, fun j h1 h2 => (k.2 j h1 (Nat.lt_of_lt_of_le h2 h.1)).trans (h.2 j h1 h2)⟩
theorem Same.set {n : Nat} {a b : World} (h : Same n a b) {g i : Nat} (hg : g < n) (u : Value) : Same n a (b.setCell ⟨g, i, none⟩ u) := ⟨by rw [Go.Deep.nblk_setCell]; exact h.1, fun j h1 h2 => (Below.heap_setCell b _ u j (by show j ≠ g; omega)).trans (h.2 j h1 h2)⟩
/-- What is held: what is pending, in its box; where a list stands, and one of it. -/
def SD (w : World) (b lb r l : Nat) (x y z u t : Value) (w2 : World) : Prop := (w2.cell? ⟨b, 0, none⟩ = some x ∧ w2.cell? ⟨b, 1, none⟩ = some y ∧ w2.cell? ⟨b, 2, none⟩ = some z) ∧ w2.cell? ⟨lb, 0, none⟩ = some u ∧ w2.cell? ⟨r, l, none⟩ = some t ∧ Below w.heap.size w w2
theorem SD.next {w W w2 : World} {b lb r l : Nat} {x y z u t : Value} (hb : Below W.heap.size W w2) (h : SD w b lb r l x y z u t W) : SD w b lb r l x y z u t w2 := ⟨⟨cell_held h.1.1 hb, cell_held h.1.2.1 hb, cell_held h.1.2.2 hb⟩, cell_held h.2.1 hb, cell_held h.2.2.1 hb, bstep h.2.2.2 hb⟩
theorem OwnI.at {W : World} {B r n c : Nat} {zs : List Int} (h : OwnI W B (.slice (some ⟨r, 0, none⟩) n c) zs) {k : Nat} {x : Int} (hx : zs[k]? = some x) : W.cell? ⟨r, k, none⟩ = some (.int .i64 x) ∧ W.frozen? ⟨r, k, none⟩ = false ∧ ∀ y : Int, OwnI (W.setCell ⟨r, k, none⟩ (.int .i64 y)) B (.slice (some ⟨r, 0, none⟩) n c) (zs.set k y) := by
  obtain ⟨hk, rfl⟩ := List.getElem?_eq_some_iff.1 hx
  obtain ⟨g, e, _, _, ⟨h1, h2⟩, h3⟩ := h.put hk
  cases e
  exact ⟨h1, h2, h3⟩


theorem own_belowN {W W' : World} {base n : Nat} {e : TypeId} {size : Nat} {v : Value} {k : Nat} {xs : List Value} (h : W.ownsRow base e size v k xs) (hb : Below n W W') (hn : ∀ g, v.ownBlock = some g → g < n) : W'.ownsRow base e size v k xs := by
  refine ⟨h.1, ?_⟩
  rcases h.2 with hn | ⟨g, cap, cur, rfl, hg, hgg, rest⟩
  · exact .inl hn
  · exact .inr ⟨g, cap, cur, rfl, hg, (hb.block g (hn g rfl)).trans hgg, rest⟩

/-- 'copy(left, keep)': a row of noughts of the call's own, and a slice that is read. -/
theorem copy_left {W : World} {ops : Array Oper} {rest : List Oper} {o : Oper} {a : Act} {Q : Exit → Act → World → Prop} (hgd : o.guard = none) (d s : Operand)
    (ho : o.op = .call { callee := .builtin .copy, args := #[d, s], argTypes := #[22, 22] }) (base g n : Nat) (v2 : Value) (zs : List Int)
    (hO : OwnI W base (.slice (some ⟨g, 0, none⟩) n n) (List.replicate n 0)) (hR : Rd W v2 zs) (hd : a.eval d = .slice (some ⟨g, 0, none⟩) n n) (hs : a.eval s = v2)
    (h : ∀ k W', OwnI W' base (.slice (some ⟨g, 0, none⟩) n n) (leftL zs n) → Below base W W' → (∀ j, j ≠ g → W'.heap[j]? = W.heap[j]?) → wpList Try.prog ops Q rest (a.put o.dst (goInt k)) W') : wpList Try.prog ops Q (o :: rest) a W := by
  have hsz : (Try.prog.info? 3).map (·.size) = some 1 := by
    obtain ⟨i0, hi, _, hz1, _⟩ := info_parts Try.info3
    rw [hi]; simp [hz1]
  have hOe : leftL [] n = List.replicate n 0 := by simp [leftL]
  obtain ⟨hl, hk, ad, cap, rfl, -, h3⟩ := hR
  by_cases h0 : Nat.min zs.length n = 0
  · refine wpList_copy_nothing hgd d s 22 22 ho 3 Try.underlying22 hsz _ _ _ _ _ _ hd hs h0 ?_
    refine h _ W ?_ (Below.refl _ _) (fun _ _ => rfl)
    have : leftL zs n = List.replicate n 0 := by
      unfold leftL
      have e : zs.take n = [] := by
        have : min zs.length n = 0 := h0
        rw [List.take_eq_nil_iff]
        rcases Nat.min_eq_zero_iff.1 this with e | e
        · exact .inr (List.eq_nil_of_length_eq_zero e)
        · exact .inl e
      rw [e]; simp
    rw [this]; exact hO
  · rcases h3 with ⟨hz, _⟩ | ⟨b, off, rfl, _, hc⟩
    · rw [hz] at h0; simp at h0
    · unfold OwnI at hO
      rw [List.length_replicate] at hO
      rcases hO.2 with ⟨e, _⟩ | ⟨g', cap', cur, e, hbg, hg, hn, hm, hcs, htk⟩
      · cases e
      · cases e
        have hcur : cur.toList = (List.replicate n (0 : Int)).map (Value.int .i64) := by
          rw [← htk, List.take_of_length_le]
          rw [Array.length_toList, hcs]
          exact Nat.le_refl _
        refine wpList_copy_own hgd d s 22 22 ho 3 Try.underlying22 hsz g 0 n n ⟨b, off, none⟩ zs.length cap hd hs cur 3 hg ((zs.take n).map (Value.int .i64)) (by simp; rw [Nat.min_comm]) ?_ ?_ (ints_one _) ?_
        · intro j v hv
          rw [Addr.add_lit]
          refine hc j v ?_
          rw [← hv, List.map_take, List.getElem?_take]
          have hj := (List.getElem?_eq_some_iff.1 hv).1
          rw [if_pos (by simp at hj; omega)]
        · rw [hcs]; simp; omega
        · refine h _ _ ?_ (below_setRow (Below.refl _ _) hbg _) (fun j hj => setRow_other W g j _ hj)
          have e : (cur.toList.take 0 ++ ((zs.take n).map (Value.int .i64) ++ cur.toList.drop (0 + ((zs.take n).map (Value.int .i64)).length))) = (leftL zs n).map (Value.int .i64) := by
            rw [hcur]
            unfold leftL
            simp
          have hll : ((leftL zs n).map (Value.int .i64)).length = n := by rw [List.length_map, leftL_length]
          rw [e]
          unfold OwnI
          rw [leftL_length]
          refine ⟨by rw [hll, Nat.mul_one], .inr ⟨g, n, _, rfl, hbg, setRow_heap W g cur _ 3 (0, 0) hg, Nat.le_refl _, hm, by simp [leftL_length], ?_⟩⟩
          rw [List.take_of_length_le (by simp [leftL_length])]
end Go.Proofs.Ytbnlekheadmecaa
namespace Go.Proofs.Ytbnlekheadmecaa
open Go.RowKit Go.Shelf
set_option linter.unusedVariables false

theorem below_grownN {a b : World} (h : a.grownBy b none) : Below a.heap.size a b := ⟨h.os, h.tape, h.output, h.size, fun k hk => h.block k hk (by simp)⟩
theorem own_zero {W : World} {base g n : Nat} (h : W.ownsRow base 3 1 (.slice (some ⟨g, 0, none⟩) n n) n (madeCells (Value.int .i64 0).cells (n * 1)).toList) : OwnI W base (.slice (some ⟨g, 0, none⟩) n n) (List.replicate n 0) := by
  unfold OwnI
  rw [List.length_replicate, List.map_replicate]
  have e : (madeCells (Value.int .i64 0).cells (n * 1)).toList = List.replicate n (Value.int .i64 0) := by rw [Nat.mul_one]; exact toList_madeCells_one _ _
  rw [e] at h
  exact h
theorem own_zero_lt {W : World} {base g n : Nat} {zs : List Int} (h : OwnI W base (.slice (some ⟨g, 0, none⟩) n n) zs) : g < W.heap.size := (World.ownsRow.lt h g rfl).2
theorem cell_new1 (W : World) (x : Value) (t : TypeId) : (W.alloc (.cells #[x] t)).cell? ⟨W.heap.size, 0, none⟩ = some x := by simp
theorem field1 (a1 a2 a3 : Option Addr) (n1 n2 n3 c1 c2 c3 : Nat) (w : World) : (Instr.field 43 (.agg #[.slice a1 n1 c1, .slice a2 n2 c2, .slice a3 n3 c3]) 1).run Try.prog w = .ok (.slice a2 n2 c2) w := by kernel_rfl

end Go.Proofs.Ytbnlekheadmecaa
namespace Go.Proofs.Ytbnlekheadmecaa
open Go.RowKit Go.Shelf
set_option linter.unusedVariables false

attribute [local go_sem] Oper.semAt_some

/-- What a round keeps: all below n, and block b. -/
def Kps (n b : Nat) (W W' : World) : Prop := Below n W W' ∧ W'.heap[b]? = W.heap[b]?
theorem Kps.trans {n b : Nat} {A B C : World} (h : Kps n b A B) (k : Kps n b B C) : Kps n b A C := ⟨h.1.trans k.1, k.2.trans h.2⟩
theorem Kps.of_below {n b : Nat} {A B : World} (h : Below A.heap.size A B) (hn : n ≤ A.heap.size) (hb : b < A.heap.size) : Kps n b A B := ⟨h.mono hn, h.block b hb⟩
theorem grown_of_below {A B : World} (h : Below A.heap.size A B) : A.grownBy B none := ⟨h.os, h.tape, h.output, h.size, fun k hk _ => h.block k hk⟩

theorem mem_next {ps : List Pd} {line : Int} {k : Nat} (hlt : k < ps.length) {pre : List (Fin ps.length)} (h : ∀ j : Fin ps.length, j ∈ pre ↔ j.1 < k ∧ (ps[j.1]'j.2).a / 8 = line) (hk : (ps[k]'hlt).a / 8 = line) : ∀ j : Fin ps.length, j ∈ pre ++ [⟨k, hlt⟩] ↔ j.1 < k + 1 ∧ (ps[j.1]'j.2).a / 8 = line := by
  intro j
  rw [List.mem_append, h j, List.mem_singleton]
  constructor
  · rintro (⟨h1, h2⟩ | rfl)
    · exact ⟨by omega, h2⟩
    · exact ⟨Nat.lt_succ_self _, hk⟩
  · rintro ⟨h1, h2⟩
    rcases Nat.lt_or_eq_of_le (Nat.lt_succ_iff.1 h1) with h3 | h3
    · exact .inl ⟨h3, h2⟩
    · exact .inr (Fin.ext h3)
theorem mem_same {ps : List Pd} {line : Int} {k : Nat} (hlt : k < ps.length) {pre : List (Fin ps.length)} (h : ∀ j : Fin ps.length, j ∈ pre ↔ j.1 < k ∧ (ps[j.1]'j.2).a / 8 = line) (hk : ¬ (ps[k]'hlt).a / 8 = line) : ∀ j : Fin ps.length, j ∈ pre ↔ j.1 < k + 1 ∧ (ps[j.1]'j.2).a / 8 = line := by
  intro j
  rw [h j]
  constructor
  · rintro ⟨h1, h2⟩
    exact ⟨by omega, h2⟩
  · rintro ⟨h1, h2⟩
    rcases Nat.lt_or_eq_of_le (Nat.lt_succ_iff.1 h1) with h3 | h3
    · exact ⟨h3, h2⟩
    · subst h3
      exact absurd h2 hk
set_option maxRecDepth 100000 in
theorem lineOf_grown (q l : Nat) (pv : Int) (pf : Bool) (w : World) (hl : q / 8 = l) (hq : q < 100000) : Calls Try.prog 46 #[.agg #[.int .i64 (q : Int), .int .i64 pv, .bool pf]] w fun e w' => e = .returned (.int .i64 (l : Int)) ∧ ∃ k os, w' = Sort.grow (w.drewN k) os := by
  have hl' : (q : Int) / 8 = (l : Int) := by omega
  go_enter Try.func46, Try.ntmps46
  go_wp2
  go_ret
  refine ⟨ret_int (by omega), 0, #[.cells #[.int .i64 (q : Int), .int .i64 pv, .bool pf] 71], ?_⟩
  rfl
theorem two_ways {e : Ending} {A B : Prop} (h : (e = .returned (.bool true) ∧ A) ∨ (e = .returned (.bool false) ∧ B)) : ∃ b, e = .returned (.bool b) ∧ ((b = true ∧ A) ∨ (b = false ∧ B)) := by
  rcases h with ⟨rfl, h⟩ | ⟨rfl, h⟩
  · exact ⟨true, rfl, .inl ⟨rfl, h⟩⟩
  · exact ⟨false, rfl, .inr ⟨rfl, h⟩⟩

set_option maxRecDepth 100000 in
set_option maxHeartbeats 2000000 in
theorem ofLine1_in (n : Nat) (hn : 1 ≤ n) (l Bs Bl n₀ B0 : Nat) (a : Option Addr) (cap : Nat) (ps : List Pd) (line : Int) (J Jx : List (Fin ps.length) → World → Prop) (hJ : AbidesFrom B0 J)
    (hY : ∀ pre x W, J pre W → pre.length < ps.length → YieldAt Fence.wide (n - 1) Try.prog l #[.int .i64 (x.1 : Int)] W fun e W' => (e = .returned (.bool true) ∧ J (pre ++ [x]) W' ∧ Kps n₀ Bl W W') ∨ (e = .returned (.bool false) ∧ Jx (pre ++ [x]) W'))
    (W : World) (hBs : W.cell? ⟨Bs, 0, none⟩ = some (.slice a ps.length cap)) (hBl : W.cell? ⟨Bl, 0, none⟩ = some (.int .i64 line)) (hP : ∀ W', Below n₀ W W' → RdP W' (.slice a ps.length cap) ps) (hI : ∀ p ∈ ps, 0 ≤ p.a ∧ p.a < 1000) (hn0 : n₀ ≤ W.heap.size) (h0 : J [] W) :
    CallsIn Fence.wide n Try.prog 61 #[.func (.yield l) #[] #[], .pointer (some ⟨Bs, 0, none⟩), .pointer (some ⟨Bl, 0, none⟩)] W fun e W' => (∃ v, e = .returned v) ∧
      ((∃ xs, (∀ j : Fin ps.length, j ∈ xs ↔ (ps[j.1]'j.2).a / 8 = line) ∧ J xs W') ∨ (∃ pre, True ∧ Jx pre W')) := by
  have HJ : Hid (AbidesFrom B0 J) := hJ
  have HY : Hid (∀ pre x W, J pre W → pre.length < ps.length → YieldAt Fence.wide (n - 1) Try.prog l #[.int .i64 (x.1 : Int)] W fun e W' => (e = .returned (.bool true) ∧ J (pre ++ [x]) W' ∧ Kps n₀ Bl W W') ∨ (e = .returned (.bool false) ∧ Jx (pre ++ [x]) W')) := hY
  have HP : Hid (∀ W', Below n₀ W W' → RdP W' (.slice a ps.length cap) ps) := hP
  have HI : Hid (∀ p ∈ ps, 0 ≤ p.a ∧ p.a < 1000) := hI
  have hl : ps.length ≤ 1000 := (hP W (Below.refl _ _)).form.1
  have HL0 : Hid (W.cell? ⟨Bl, 0, none⟩ = some (.int .i64 line)) := hBl
  have HLb : Hid (Bl < W.heap.size) := World.block_lt_of_cell? W _ hBl
  clear hJ hY hP hI hBl
  have hmx : Try.prog.follows .mixedOrders = true := by kernel_rfl
  refine callsIn_of_wp Try.func61 rfl trivial ?_ rfl
  simp only [Try.ntmps61, List.size_toArray, List.length_cons, List.length_nil, Nat.reduceAdd, Nat.reduceSub, Array.replicate_succ, Array.replicate_zero, List.push_toArray, List.append_toArray, List.nil_append, List.cons_append]
  gi_wp2
  gi_loopw [8] (fun i wr => ∃ (k : Nat) (pre : List (Fin ps.length)), k ≤ ps.length ∧ i = .int .i64 k ∧ pre.length ≤ k ∧ (∀ j : Fin ps.length, j ∈ pre ↔ j.1 < k ∧ (ps[j.1]'j.2).a / 8 = line) ∧ J pre wr ∧ Kps n₀ Bl W wr)
    (fun i _ => ps.length - (intOf i).toNat)
  case atStart => exact ⟨0, [], Nat.zero_le _, rfl, Nat.le_refl _, by intro j; simp, h0, Below.refl _ _, rfl⟩
  case round =>
    obtain ⟨k, pre, hk, rfl, hpl, hmem, hJs, hKp⟩ := hrel
    by_cases hlt : k < ps.length
    · have hltI : (k : Int) < (ps.length : Int) := by omega
      obtain ⟨p, hp⟩ : ∃ p, ps[k]? = some p := ⟨_, List.getElem?_eq_getElem hlt⟩
      have hin := HI.out p (List.mem_of_getElem? hp)
      obtain ⟨b, off, rfl, y0, y1, y2⟩ := (HP.out wr hKp.1).get hp
      obtain ⟨pa, pv, pf⟩ := p
      dsimp only at y0 y1 y2 hin
      obtain ⟨q, rfl⟩ := Int.eq_ofNat_of_zero_le hin.1
      obtain ⟨ql, hql⟩ : ∃ l, q / 8 = l := ⟨_, rfl⟩
      have hq5 : q < 100000 := by omega
      have cl : wr.cell? ⟨Bl, 0, none⟩ = some (.int .i64 line) := (World.cell?_of_block hKp.2).trans HL0.out
      have b1 : Below wr.heap.size wr (wr.alloc (.cells #[.int .i64 (q : Int), .int .i64 pv, .bool pf] 71)) := (Below.refl _ _).alloc (Nat.le_refl _) _
      have J1 : J pre (wr.alloc (.cells #[.int .i64 (q : Int), .int .i64 pv, .bool pf] 71)) := HJ.out pre _ _ none hJs (grown_of_below b1) (fun r e => by cases e)
      have HJ1 : Hid (J pre (wr.alloc (.cells #[.int .i64 (q : Int), .int .i64 pv, .bool pf] 71))) := J1
      have HK1 : Hid (Kps n₀ Bl W (wr.alloc (.cells #[.int .i64 (q : Int), .int .i64 pv, .bool pf] 71))) := hKp.trans (Kps.of_below b1 (Nat.le_trans hn0 hKp.1.size) (Nat.lt_of_lt_of_le HLb.out hKp.1.size))
      have HM : Hid (∀ j : Fin ps.length, j ∈ pre ↔ j.1 < k ∧ (ps[j.1]'j.2).a / 8 = line) := hmem
      have cl1 := cell_held cl b1
      clear hJs hKp J1 hmem
      by_cases hline : (ql : Int) = line
      · have hlB : ((ql : Int) == line) = true := by simp [hline]
        have HX : Hid ((ps[k]'hlt).a / 8 = line) := by (show (ps[k]'hlt).a / 8 = line; rw [(List.getElem?_eq_some_iff.1 hp).2]; show (q : Int) / 8 = line; omega)
        have hk2 : ∀ w3, Below (wr.alloc (.cells #[.int .i64 (q : Int), .int .i64 pv, .bool pf] 71)).heap.size (wr.alloc (.cells #[.int .i64 (q : Int), .int .i64 pv, .bool pf] 71)) w3 → J pre w3 ∧ Kps n₀ Bl W w3 ∧ w3.cell? ⟨Bl, 0, none⟩ = some (.int .i64 line) := fun w3 h => ⟨HJ.out pre _ _ none HJ1.out (grown_of_below h) (fun r e => by cases e), HK1.out.trans (Kps.of_below h (Nat.le_trans hn0 HK1.out.1.size) (Nat.lt_of_lt_of_le HLb.out HK1.out.1.size)), cell_held cl1 h⟩
        have HK2 : Hid (∀ w3, Below (wr.alloc (.cells #[.int .i64 (q : Int), .int .i64 pv, .bool pf] 71)).heap.size (wr.alloc (.cells #[.int .i64 (q : Int), .int .i64 pv, .bool pf] 71)) w3 → J pre w3 ∧ Kps n₀ Bl W w3 ∧ w3.cell? ⟨Bl, 0, none⟩ = some (.int .i64 line)) := hk2
        clear hk2
        gi_wp2
        gi_region_with_o (first
          | (refine ⟨trivial, ?_⟩; gi_at_call 46; refine (callsIn_wide.2 (lineOf_nat q ql _ _ _ hql hq5)).mono ?_; rintro e w3 ⟨rfl, hb3⟩; obtain ⟨J3, K3, c3⟩ := HK2.out w3 (bstep (Below.refl _ _).drew hb3); have HK3 : Hid (Kps n₀ Bl W w3) := K3; obtain ⟨fn, tmps, assign, body, hy, hR⟩ := HY.out pre ⟨k, hlt⟩ w3 J3 (Nat.lt_of_le_of_lt hpl hlt); clear J3 K3)
          | (refine hR.mono ?_; intro e W4 h4; obtain ⟨bb, rfl, h5⟩ := two_ways h4; have H5 : Hid ((bb = true ∧ J (pre ++ [⟨k, hlt⟩]) W4 ∧ Kps n₀ Bl w3 W4) ∨ (bb = false ∧ Jx (pre ++ [⟨k, hlt⟩]) W4)) := h5; clear h4 h5))
        all_goals
          rcases H5.out with ⟨rfl, J4, K4⟩ | ⟨rfl, Jx4⟩
          · clear H5
            gi_wp2
            exact ⟨⟨k + 1, pre ++ [⟨k, hlt⟩], by omega, by go_num, by rw [List.length_append]; show _ + 1 ≤ _; omega, mem_next hlt HM.out HX.out, J4, HK3.out.trans K4⟩, by simp [intOf]; omega⟩
          · clear H5
            gi_wp2
            refine bodyPost_ret (results_none rfl _ _ _) rfl ?_
            exact ⟨⟨_, rfl⟩, .inr ⟨_, trivial, Jx4⟩⟩
      · have hlB : ((ql : Int) == line) = false := by simp [hline]
        have HX : Hid (¬ (ps[k]'hlt).a / 8 = line) := by (show ¬ (ps[k]'hlt).a / 8 = line; rw [(List.getElem?_eq_some_iff.1 hp).2]; show ¬ (q : Int) / 8 = line; omega)
        have hd : decide ((ql : Int) = line) = false := decide_eq_false hline
        have S1 : SL wr wr.heap.size Bl (.int .i64 (q : Int)) (.int .i64 pv) (.bool pf) (.int .i64 line) (wr.alloc (.cells #[.int .i64 (q : Int), .int .i64 pv, .bool pf] 71)) := ⟨by simp, cl1, b1⟩
        have HS1 : Hid (SL wr wr.heap.size Bl (.int .i64 (q : Int)) (.int .i64 pv) (.bool pf) (.int .i64 line) (wr.alloc (.cells #[.int .i64 (q : Int), .int .i64 pv, .bool pf] 71))) := S1
        clear S1
        gi_wp2
        refine wpIn_wide.2 ?_
        generalize (wr.alloc (.cells #[.int .i64 (q : Int), .int .i64 pv, .bool pf] 71)) = W1 at HS1 HJ1 HK1 ⊢
        clear b1 cl1
        have z0 := cell_grown (World.block_lt_of_cell? _ _ HS1.out.1.1) HS1.out.1.1
        have z1 := cell_grown (World.block_lt_of_cell? _ _ HS1.out.1.2.1) HS1.out.1.2.1
        have z2 := cell_grown (World.block_lt_of_cell? _ _ HS1.out.1.2.2) HS1.out.1.2.2
        have z3 := cell_grown (World.block_lt_of_cell? _ _ HS1.out.2.1) HS1.out.2.1
        go_quiet_grown (first | (go_at_call 46; refine Calls.grown_of (lineOf_grown q ql _ _ _ hql hq5)))
        have hb4 : Below W1.heap.size W1 (Sort.grow (W1.drewN nq) osq) := ⟨rfl, rfl, rfl, by simp [Sort.grow], fun k hk => by simp [Sort.grow]; exact Array.getElem?_append_left hk⟩
        generalize Sort.grow (W1.drewN nq) osq = w3 at hb4 ⊢
        clear z0 z1 z2 z3
        gi_wp2
        exact ⟨⟨k + 1, pre, by omega, by go_num, by omega, mem_same hlt HM.out HX.out, HJ.out pre _ _ none HJ1.out (grown_of_below hb4) (fun r e => by cases e), HK1.out.trans (Kps.of_below hb4 (Nat.le_trans hn0 HK1.out.1.size) (Nat.lt_of_lt_of_le HLb.out HK1.out.1.size))⟩, by simp [intOf]; omega⟩
    · obtain rfl : k = ps.length := by omega
      have HM : Hid (∀ j : Fin ps.length, j ∈ pre ↔ (ps[j.1]'j.2).a / 8 = line) := fun j => (hmem j).trans ⟨fun h => h.2, fun h => ⟨j.2, h⟩⟩
      clear hmem
      gi_wp2
      go_end0
      exact ⟨⟨_, rfl⟩, .inl ⟨pre, HM.out, hJs⟩⟩
end Go.Proofs.Ytbnlekheadmecaa
