/- Noughts that are made and appended to a row of the call's own. -/
import Derived.Test.YtmenkolceahebaaSupl
import Derived.Lib.AppendZeros
namespace Go.Proofs.Ytmenkolceahebaa
open Go.RowKit Go.Shelf
set_option linter.unusedVariables false

theorem zero_cells (m : Nat) : (Builtin.zeroCells (Value.int .i64 0).cells m).toList = (List.replicate m (0 : Int)).map (Value.int .i64) := by
  simp [Builtin.zeroCells, Value.cells, Nat.mod_one]
  rw [List.map_const', List.length_range]
/-- 'append(s, make([]int, m)...)', s a row of the call's own. -/
theorem run_zeros (w : World) (base g n cap m : Nat) (ty : TypeId) (xs : List Int) (hown : OwnI w base (.slice (some ⟨g, 0, none⟩) n cap) xs) (hn : n = xs.length) (hb1 : n ≤ 6000) (h0 : 0 < m) (hm : m ≤ 6000) (hbase : base ≤ w.heap.size) :
    ∃ g' cap' w', (Builtin.append_ #[22, 3] ty #[.slice (some ⟨g, 0, none⟩) n cap, .int .i64 m]).run Try.prog w = .ok (.slice (some ⟨g', 0, none⟩) (n + m) cap') w' ∧ OwnI w' base (.slice (some ⟨g', 0, none⟩) (n + m) cap') (xs ++ List.replicate m 0) ∧ w.grownBy w' (some g) := by
  subst hn
  obtain ⟨i, hi, hz0, hz1, hz2⟩ := info_parts Try.info3
  have ht := Try.underlying22
  have htn := Try.underlying3
  have hw : IntKind.i64.wrap (m : Int) = m := by rw [IntKind.wrap_i64]; omega
  have hneg : ¬ ((m : Int) < 0) := by omega
  have h48i : ¬ (281474976710656 < (m : Int) * (i.bytes : Int)) := by rw [hz2]; omega
  have hns : ¬ (m * i.size = 0) := by rw [hz1]; omega
  have hlen : (xs ++ List.replicate m 0).length = xs.length + m := by simp
  have hown' : w.ownsRow base 3 1 (.slice (some ⟨g, 0, none⟩) xs.length cap) xs.length (xs.map (Value.int .i64)) := hown
  rcases hown'.2 with ⟨e, _⟩ | ⟨g', cap', cur, e, hbg, hg, hnc, hcm, hcs, htake⟩
  · cases e
  · cases e
    by_cases hroom : xs.length + m ≤ cap
    · have hst := run_storeCells_at Try.prog g (xs.length * i.size) 3 (Builtin.zeroCells (Value.int .i64 0).cells m).toList 0 cur w hg (by rw [hz1, zero_cells]; simp; omega) (by rw [zero_cells]; exact ints_one _)
      simp only [Nat.add_zero] at hst
      have hr : (Builtin.append_ #[22, 3] ty #[.slice (some ⟨g, 0, none⟩) xs.length cap, .int .i64 m]).run Try.prog w = .ok (.slice (some ⟨g, 0, none⟩) (xs.length + m) cap) (w.setRow g (cur.toList.take (xs.length * i.size) ++ (Builtin.zeroCells (Value.int .i64 0).cells m).toList ++ cur.toList.drop (xs.length * i.size + (Builtin.zeroCells (Value.int .i64 0).cells m).toList.length)).toArray) := by
        simp [Builtin.append_, run_underlying ht, run_underlying htn, sizeOf, typeInfo, zeroValue, hi, hz0, asInt, asIntOf, hw, hneg, hns, h48i, hroom, Addr.add_lit, hst]
      rw [hr]
      refine ⟨g, cap, _, rfl, ⟨by simp, .inr ⟨g, cap, _, by rw [hlen], hbg, setRow_heap w g cur _ 3 _ hg, by rw [hlen]; exact hroom, hcm, ?_, ?_⟩⟩, ⟨rfl, rfl, rfl, by simp, fun k _ hk => setRow_other w g k _ (fun e => hk (by simp [e]))⟩⟩
      · rw [zero_cells, hz1]
        simp
        omega
      · rw [zero_cells, hz1, hlen]
        have ht2 : cur.toList.take (xs.length * 1) = xs.map (Value.int .i64) := htake
        rw [ht2, List.map_append, Nat.mul_one]
        have e : xs.length + m = (xs.map (Value.int .i64) ++ (List.replicate m (0 : Int)).map (Value.int .i64)).length := by simp
        rw [e]
        exact List.take_left
    · have holds : ∀ j u, (xs.map (Value.int .i64))[j]? = some u → w.cell? ((⟨g, 0, none⟩ : Addr).add j) = some u := hown'.cells (g := g) rfl
      have hfo := run_firstCells_some (P := Try.prog) w.drew i.size xs.length ⟨g, 0, none⟩ xs.length cap (xs.map (Value.int .i64)) (by rw [hz1]; simp) (by simpa using holds)
      have h63' : ¬ (9223372036854775807 < ((xs.length : Int) + (m : Int))) := by omega
      have h48' : ¬ (281474976710656 < Builtin.nextslicecap (xs.length + m) cap * i.bytes) := by
        have := growslice_fits (need := xs.length + m) (old := cap) (bytes := i.bytes) (by omega) (by rw [hz2]; omega)
        omega
      have hge := grownCap_ge w (xs.length + m) cap 3
      have hle := grownCap_le_maxLen w (xs.length + m) cap 3 (by unfold maxLen; omega)
      have hr : (Builtin.append_ #[22, 3] ty #[.slice (some ⟨g, 0, none⟩) xs.length cap, .int .i64 m]).run Try.prog w = .ok (.slice (some ⟨w.heap.size, 0, none⟩) (xs.length + m) (grownCap w (xs.length + m) cap 3)) (w.drew.alloc (.cells ((xs.map (Value.int .i64)).toArray ++ Builtin.zeroCells (Value.int .i64 0).cells m ++ Builtin.zeroCells (Value.int .i64 0).cells (grownCap w (xs.length + m) cap 3 - (xs.length + m))) 3)) := by
        simp [Builtin.append_, run_underlying ht, run_underlying htn, sizeOf, typeInfo, zeroValue, hi, hz0, asInt, asIntOf, hw, hneg, hns, h48i, hroom, h63', h48', Question.forced, hfo, newRow, grownCap]
      rw [hr]
      refine ⟨w.heap.size, _, _, rfl, ⟨by simp, .inr ⟨w.heap.size, _, _, by rw [hlen], hbase, heap_alloc_new w.drew _, by rw [hlen]; exact hge, hle, ?_, ?_⟩⟩, ⟨rfl, rfl, rfl, by simp, fun k hk _ => heap_alloc_old w.drew _ hk⟩⟩
      · have e1 : (Builtin.zeroCells (Value.int .i64 0).cells m).size = m := by rw [size_zeroCells]; exact Nat.mul_one _
        have e2 : (Builtin.zeroCells (Value.int .i64 0).cells (grownCap w (xs.length + m) cap 3 - (xs.length + m))).size = grownCap w (xs.length + m) cap 3 - (xs.length + m) := by rw [size_zeroCells]; exact Nat.mul_one _
        rw [Array.size_append, Array.size_append, e1, e2]
        simp
        omega
      · rw [Array.toList_append, Array.toList_append, zero_cells, hlen, Nat.mul_one]
        have e : xs.length + m = ((xs.map (Value.int .i64)).toArray.toList ++ (List.replicate m (0 : Int)).map (Value.int .i64)).length := by simp
        rw [e, List.map_append]
        exact List.take_left
/-- The operation. -/
theorem append_zeros {w : World} {ops : Array Oper} {rest : List Oper} {o : Oper} {a : Act} {Q : Exit → Act → World → Prop} (hgd : o.guard = none) (s x : Operand)
    (ho : o.op = .call { callee := .builtin .append, args := #[s, x], argTypes := #[22, 3] }) (base : Nat) (ad : Option Addr) (c : Nat) (zs : List Int) (hs : a.eval s = .slice ad zs.length c) (hown : OwnI w base (.slice ad zs.length c) zs) (m : Nat) (hx : a.eval x = .int .i64 m)
    (hz : 0 < zs.length) (hn : zs.length ≤ 6000) (h0 : 0 < m) (hm : m ≤ 6000) (hbase : base ≤ w.heap.size) (M : List Int) (hM : zs ++ List.replicate m 0 = M)
    (h : ∀ a' c' w', OwnI w' base (.slice a' M.length c') M → Below base w w' → wpList Try.prog ops Q rest (a.put o.dst (.slice a' M.length c')) w') : wpList Try.prog ops Q (o :: rest) a w := by
  obtain ⟨g, rfl, hbg⟩ : ∃ g, ad = some ⟨g, 0, none⟩ ∧ base ≤ g := by
    rcases hown.2 with ⟨e, h⟩ | ⟨g, cap, cur, e, hbg, _⟩
    · omega
    · cases e; exact ⟨g, rfl, hbg⟩
  obtain ⟨g', cap', w', hr, ho', hg⟩ := run_zeros w base g zs.length c m o.type zs hown rfl hn h0 hm hbase
  have hl : zs.length + m = M.length := by rw [← hM]; simp
  rw [hM, hl] at ho'
  rw [hl] at hr
  exact Lib.wpList_append_run w hgd s x 22 3 ho _ _ hs hx _ _ hr (h _ _ w' ho' ((Below.refl base w).grown hg hbase (fun k hk => by cases hk; exact hbg)))
end Go.Proofs.Ytmenkolceahebaa
