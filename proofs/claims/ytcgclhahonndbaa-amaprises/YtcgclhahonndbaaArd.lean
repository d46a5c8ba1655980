/- Set over from a lower layer: Ard. · Set over from a lower layer: Are. -/
import Derived.Test.YtcgclhahonndbaaArb
import Derived.Test.YtcgclhahonndbaaNNodr
import Derived.Lib.SlKeysI
import Derived.Test.YtcgclhahonndbaaArc
import Derived.Test.YtcgclhahonndbaaArnum
namespace Go.Proofs.Ytcgclhahonndbaa
open Go.RowKit Go.Maps
set_option linter.unusedVariables false
/-- A set: its block, and what was put into it, one behind the other. -/
def St (W : World) (b : Nat) (l : List Int) : Prop := ∃ D : DataW Unit, W.ownsMap Try.prog 3 unitElem b l.length D ∧ ∀ x : Int, has D (.int .i64 x) = decide (x ∈ l)
/-- A block that is a map. -/
def Ma (W : World) (b : Nat) : Prop := ∃ es ck, W.heap[b]? = some (.map es ck)
theorem St.ma {W : World} {b : Nat} {l : List Int} (h : St W b l) : Ma W b := by
  obtain ⟨D, ⟨es, ck, hb, _⟩, _⟩ := h
  exact ⟨es, ck, hb⟩
theorem Ma.lt {W : World} {b : Nat} (h : Ma W b) : b < W.heap.size := by
  obtain ⟨es, ck, hb⟩ := h
  exact (Array.getElem?_eq_some_iff.1 hb).1
theorem St.lt {W : World} {b : Nat} {l : List Int} (h : St W b l) : b < W.heap.size := h.ma.lt
theorem St.same {W W' : World} {b : Nat} {l : List Int} (h : St W b l) (e : W'.heap[b]? = W.heap[b]?) : St W' b l := by
  obtain ⟨D, ⟨es, ck, hb, h2⟩, h3⟩ := h
  exact ⟨D, ⟨es, ck, e.trans hb, h2⟩, h3⟩
theorem St.belowN {W W' : World} {b n : Nat} {l : List Int} (h : St W b l) (hb : Below n W W') (hn : b < n) : St W' b l := h.same (hb.block b hn)
theorem St.below {W W' : World} {b : Nat} {l : List Int} (h : St W b l) (hb : Below W.heap.size W W') : St W' b l := h.belowN hb h.lt
theorem st_new (W : World) : St (W.alloc (.map #[] 0)) W.heap.size [] := ⟨.map [], World.ownsMap_made W Try.prog 3 unitElem, fun x => by simp [has]⟩
theorem key_int {x : Int} (hx : -9223372036854775808 ≤ x ∧ x < 9223372036854775808) : keyOf Try.prog 3 (.int .i64 x) = some (.int .i64 x) := keyOf_int_mk Try.underlying3 (by simp [Lit.wf, IntKind.min, IntKind.max, IntKind.bits, IntKind.signed]; omega)
theorem has_next {D : DataW Unit} {l : List Int} {x : Int} (hD : IsMap D) (h : ∀ y : Int, has D (.int .i64 y) = decide (y ∈ l)) (d : DataW Unit) : ∀ y : Int, has (D.put (.int .i64 x) d) (.int .i64 y) = decide (y ∈ l ++ [x]) := by
  intro y
  by_cases e : y = x
  · subst e
    rw [has_put_same hD (by simp [WideAt.IsKeyLit])]
    simp
  · rw [has_put_other (fun h => e (by cases h; rfl)), h y]
    simp [e]
theorem zero84 (w : World) : (zeroValue 84).run Try.prog w = .ok (.agg #[]) w := by kernel_rfl
/-- What is another world but for two blocks. -/
structure Tn (b c : Nat) (w w' : World) : Prop where
  os : w'.os = w.os
  tape : w'.tape = w.tape
  output : w'.output = w.output
  size : w.heap.size ≤ w'.heap.size
  block : ∀ k, k < w.heap.size → k ≠ b → k ≠ c → w'.heap[k]? = w.heap[k]?
theorem Tn.refl (b c : Nat) (w : World) : Tn b c w w := ⟨rfl, rfl, rfl, Nat.le_refl _, fun _ _ _ _ => rfl⟩
theorem Tn.trans {b c : Nat} {u v w : World} (h : Tn b c u v) (k : Tn b c v w) : Tn b c u w :=
  ⟨k.os.trans h.os, k.tape.trans h.tape, k.output.trans h.output, Nat.le_trans h.size k.size, fun i hi h1 h2 => (k.block i (Nat.lt_of_lt_of_le hi h.size) h1 h2).trans (h.block i hi h1 h2)⟩
theorem Tn.below {b c n : Nat} {w w' : World} (h : Tn b c w w') (hb : n ≤ b) (hc : n ≤ c) (hn : n ≤ w.heap.size) : Below n w w' := ⟨h.os, h.tape, h.output, h.size, fun i hi => h.block i (by omega) (by omega) (by omega)⟩
theorem Tn.of_grown {b c : Nat} {w w' : World} (h : w.grownBy w' (some b)) : Tn b c w w' := ⟨h.os, h.tape, h.output, h.size, fun i hi h1 _ => h.block i hi (fun e => h1 (Option.some.inj e))⟩
/-- Cells that are there are in no map. -/
theorem Ma.no_cell {W : World} {b : Nat} (h : Ma W b) {p : Addr} {v : Value} (hv : W.cell? p = some v) : p.block ≠ b := by
  obtain ⟨es, ck, hb⟩ := h
  intro e
  subst e
  simp [World.cell?, hb] at hv
theorem Ma.no_cells {W : World} {b k : Nat} (h : Ma W b) {cs : Array Value} {T : TypeId} {f : Nat × Nat} (hv : W.heap[k]? = some (.cells cs T f)) : k ≠ b := by
  obtain ⟨es, ck, hb⟩ := h
  rintro rfl
  rw [hb] at hv
  cases hv
theorem Tn.cell {b c : Nat} {w w' : World} (h : Tn b c w w') (hb : Ma w b) (hc : Ma w c) {p : Addr} {v : Value} (hv : w.cell? p = some v) : w'.cell? p = some v := by
  have hlt : p.block < w.heap.size := World.block_lt_of_cell? w p hv
  exact (World.cell?_of_block (h.block p.block hlt (hb.no_cell hv) (hc.no_cell hv))).trans hv
theorem Tn.cells {b c k : Nat} {w w' : World} (h : Tn b c w w') (hb : Ma w b) (hc : Ma w c) {cs : Array Value} {T : TypeId} {f : Nat × Nat} (hv : w.heap[k]? = some (.cells cs T f)) : w'.heap[k]? = some (.cells cs T f) :=
  (h.block k (Array.getElem?_eq_some_iff.1 hv).1 (hb.no_cells hv) (hc.no_cells hv)).trans hv
theorem RdC.tn {W W' : World} {b c size : Nat} {v : Value} {n : Nat} {xs : List Value} (h : RdC W size v n xs) (ht : Tn b c W W') (hb : Ma W b) (hc : Ma W c) : RdC W' size v n xs := by
  obtain ⟨h1, h2, a, cap, e, h0, h3⟩ := h
  refine ⟨h1, h2, a, cap, e, h0, ?_⟩
  rcases h3 with h | ⟨g, off, e2, hlt, hcell⟩
  · exact .inl h
  · exact .inr ⟨g, off, e2, Nat.lt_of_lt_of_le hlt ht.size, fun j u hj => ht.cell hb hc (hcell j u hj)⟩
theorem Rd.tn {W W' : World} {b c : Nat} {v : Value} {zs : List Int} (h : Rd W v zs) (ht : Tn b c W W') (hb : Ma W b) (hc : Ma W c) : Rd W' v zs := RdC.tn h ht hb hc
theorem Rl.tn {W W' : World} {b c : Nat} {v : Value} {zs : List Int} (h : Rl W v zs) (ht : Tn b c W W') (hb : Ma W b) (hc : Ma W c) : Rl W' v zs := by
  obtain ⟨h2, a, cap, e, h0, h3⟩ := h
  refine ⟨h2, a, cap, e, h0, ?_⟩
  rcases h3 with h | ⟨g, off, e2, hlt, hcell⟩
  · exact .inl h
  · exact .inr ⟨g, off, e2, Nat.lt_of_lt_of_le hlt ht.size, fun j u hj => ht.cell hb hc (hcell j u hj)⟩
theorem own_tn {W W' : World} {b c base : Nat} {e : TypeId} {size : Nat} {v : Value} {n : Nat} {xs : List Value} (h : W.ownsRow base e size v n xs) (ht : Tn b c W W') (hb : Ma W b) (hc : Ma W c) : W'.ownsRow base e size v n xs := by
  refine ⟨h.1, ?_⟩
  rcases h.2 with h | ⟨g, cap, cur, e1, h2, h3, rest⟩
  · exact .inl h
  · exact .inr ⟨g, cap, cur, e1, h2, ht.cells hb hc h3, rest⟩
theorem Nb.tn {W W' : World} {b c g : Nat} {lv tu nx lo : Int} {v : Value} (h : Nb W g lv tu nx lo v) (ht : Tn b c W W') (hb : Ma W b) (hc : Ma W c) : Nb W' g lv tu nx lo v := ht.cells hb hc h
theorem Cl.tn {W W' : World} {b c g : Nat} {x : Value} {T : TypeId} (h : Cl W g x T) (ht : Tn b c W W') (hb : Ma W b) (hc : Ma W c) : Cl W' g x T := ht.cells hb hc h
theorem St.tn {W W' : World} {b c g : Nat} {l : List Int} (h : St W g l) (ht : Tn b c W W') (h1 : g ≠ b) (h2 : g ≠ c) : St W' g l := h.same (ht.block g h.lt h1 h2)
set_option maxRecDepth 100000 in
set_option maxHeartbeats 1000000 in
theorem has_any (b : Nat) (l : List Int) (x : Int) (w : World) (h : St w b l) (hx : -9223372036854775808 ≤ x ∧ x < 9223372036854775808) : Calls Try.prog 53 #[.map (some b), .int .i64 x] w fun e w' => e = .returned (.bool (decide (x ∈ l))) ∧ Below w.heap.size w w' := by
  obtain ⟨D, hown, hD⟩ := h
  have hk := key_int hx
  have hh := hD x
  have Hown : Hid (w.ownsMap Try.prog 3 unitElem b l.length D) := hown
  clear hD hx hown
  have B0 : Hid (Below w.heap.size w (w.alloc (.cells #[] 84))) := (Below.refl _ _).alloc (Nat.le_refl _) _
  generalize decide (x ∈ l) = t at *
  go_enter Try.func53, Try.ntmps53
  go_wp2_with (first
    | (at_lookup; refine wpList_lookup_own_unit _ rfl _ _ 91 rfl 3 84 (int_keyed Try.underlying3) Try.underlying91 (zero84 _) b l.length D rfl Hown.out _ _ rfl hk ?_; rw [hh]))
  exact bodyPost_ret (results_tmp rfl _ _ _) rfl ⟨rfl, B0.out⟩
set_option maxRecDepth 100000 in
set_option maxHeartbeats 1000000 in
theorem put_any (b c : Nat) (l : List Int) (x : Int) (w : World) (h : St w b l) (hl : l.length ≤ 100000) (hx : -9223372036854775808 ≤ x ∧ x < 9223372036854775808) : Calls Try.prog 54 #[.map (some b), .int .i64 x] w fun e w' => e = .returned (.tuple #[]) ∧ St w' b (l ++ [x]) ∧ Tn b c w w' := by
  obtain ⟨D, hown, hD⟩ := h
  have hk := key_int hx
  have Hh : Hid (∀ y : Int, has (D.put (.int .i64 x) (.agg [])) (.int .i64 y) = decide (y ∈ l ++ [x])) := has_next hown.isMap hD _
  have Hown : Hid (w.ownsMap Try.prog 3 unitElem b l.length D) := hown
  clear hD hx hown
  go_enter Try.func54, Try.ntmps54
  go_wp2_with (first
    | (at_mapUpdate; refine wpList_mapUpdate_own _ rfl _ _ _ 91 rfl 3 84 (int_keyed Try.underlying3) Try.underlying91 _ b l.length _ rfl Hown.out (by unfold maxLen; omega) _ _ _ rfl rfl hk _ [] unitElem_mk ?_; intro w1 hown1 hgrow1))
  exact ⟨rfl, _, results_none rfl _ _ _, rfl, ⟨_, by rw [List.length_append]; exact hown1, Hh.out⟩, Tn.of_grown hgrow1⟩
end Go.Proofs.Ytcgclhahonndbaa
namespace Go.Proofs.Ytcgclhahonndbaa
open Go.RowKit
set_option linter.unusedVariables false
theorem Tn.wide {b c : Nat} {w w' : World} (h : Tn b b w w') : Tn b c w w' := ⟨h.os, h.tape, h.output, h.size, fun k hk h1 _ => h.block k hk h1 h1⟩
theorem Ma.tn {W W' : World} {b c d : Nat} (h : Ma W d) (ht : Tn b c W W') (h1 : d ≠ b) (h2 : d ≠ c) : Ma W' d := by
  obtain ⟨es, ck, hb⟩ := h
  exact ⟨es, ck, (ht.block d (Array.getElem?_eq_some_iff.1 hb).1 h1 h2).trans hb⟩
theorem Ma.below {W W' : World} {d : Nat} (h : Ma W d) (hb : Below W.heap.size W W') : Ma W' d := by
  have hl := h.lt
  obtain ⟨es, ck, h2⟩ := h
  exact ⟨es, ck, (hb.block d hl).trans h2⟩
/-- What is reached of a node. -/
def rcN (n : Nd) (x : Int) : List Int := x :: ((if n.lo = 0 then [] else [n.lo]) ++ n.sl)
end Go.Proofs.Ytcgclhahonndbaa
