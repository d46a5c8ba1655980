/- Layer 12: slices.Clone, slices.IndexFunc, slices.DeleteFunc at pairs; Without. -/
import Derived.Test.YtcgclhahonndbaaPad
namespace Go.Proofs.Ytcgclhahonndbaa
open Go.RowKit Go.Shelf
set_option linter.unusedVariables false

set_option maxRecDepth 100000 in
set_option maxHeartbeats 1000000 in
theorem cloneP_any (v : Value) (l : List Pa) (w : World) (hR : RdP w v l) : Calls Try.prog 39 #[v] w fun e w' => ∃ v', e = .returned v' ∧ OwnP w' w.heap.size v' l ∧ Below w.heap.size w w' := by
  have hR' := hR
  obtain ⟨_, hl, a, cap, rfl, -, h3⟩ := hR
  have q : ∀ (w : World) (a : Option Addr) (n c n' c' : Nat), (binOp .eql 24 (.slice a n c) (.slice none n' c')).run Try.prog w = .ok (.bool a.isNone) w := fun w a n c n' c' => Lib.run_eql_slice_nil w _ _ a n c n' c' Try.underlying24
  cases a with
  | none =>
    have h0 : l.length = 0 ∧ cap = 0 := by
      rcases h3 with ⟨h0, hc⟩ | ⟨b, off, h, _⟩
      · exact ⟨h0, hc rfl⟩
      · cases h
    have hz : l = [] := List.eq_nil_of_length_eq_zero h0.1
    obtain ⟨-, rfl⟩ := h0
    subst hz
    go_enter Try.func39, Try.ntmps39
    go_wp2
    go_ret
    exact ⟨_, rfl, OwnP.bare _ _, Below.refl _ _⟩
  | some p =>
    clear h3
    go_enter Try.func39, Try.ntmps39
    go_wp2_with (first | (at_builtin; refine append_rdc rfl _ _ 24 rfl w.heap.size 35 2 _ 32 Try.underlying24 Try.info35 rfl (by decide) (by decide) _ 0 [] rfl (World.ownsRow_made (base := w.heap.size) (e := 35) (size := 2) w #[] 0 (Nat.le_refl _) (by omega) rfl) _ l.length _ rfl (hR'.below ((Below.refl _ w).alloc (Nat.le_refl _) _)) (pcs_one l) (by omega) (by simp) ?_; intro v2 w2 o2 g2; have B2 : Below w.heap.size w w2 := ((Below.refl _ w).alloc (Nat.le_refl _) _).grown g2 (by simp) (by intro q hq; cases hq; exact Nat.le_refl _)))
    go_ret
    rw [Nat.zero_add] at o2
    exact ⟨_, rfl, o2, B2⟩

/-- The first place that is told, or -1. -/
def ixP (t : Pa → Bool) (l : List Pa) : Int := if fiG t l < l.length then (fiG t l : Int) else -1

set_option maxRecDepth 100000 in
set_option maxHeartbeats 1000000 in
theorem indexP_any (g : Nat) (lb : Array Value) (test : Pa → Bool) (eg : ∀ args w, (callFunc g args).run Try.prog w = .ok (.enter g args) w) (v : Value) (l : List Pa) (w : World) (hR : RdP w v l)
    (hT : ∀ (p : Pa) (W : World), Below w.heap.size w W → Calls Try.prog g (#[.agg #[.string p.k, .string p.v]] ++ lb) W fun e w' => e = .returned (.bool (test p)) ∧ Below W.heap.size W w') :
    Calls Try.prog 60 #[v, .func (.func g) #[] lb] w fun e w' => e = .returned (.int .i64 (ixP test l)) ∧ Below w.heap.size w w' := by
  obtain ⟨hl, a, cap, rfl, hc⟩ := hR.form
  have HR : Hid (RdP w (.slice a l.length cap) l) := hR
  have HT : Hid (∀ (p : Pa) (W : World), Below w.heap.size w W → Calls Try.prog g (#[.agg #[.string p.k, .string p.v]] ++ lb) W fun e w' => e = .returned (.bool (test p)) ∧ Below W.heap.size W w') := hT
  clear hR hT
  go_enter Try.func60, Try.ntmps60
  go_wp2
  go_loopw [8] (fun i wr => ∃ k : Nat, k ≤ l.length ∧ i = .int .i64 k ∧ (∀ j p, j < k → l[j]? = some p → test p = false) ∧ Below w.heap.size w wr) (fun i _ => l.length - (intOf i).toNat)
  case atStart => exact ⟨0, Nat.zero_le _, rfl, fun j p hj => by omega, Below.refl _ _⟩
  case round =>
    obtain ⟨k, hk, rfl, hno, hbel⟩ := hrel
    have HN : Hid (∀ j p, j < k → l[j]? = some p → test p = false) := hno
    have HB : Hid (Below w.heap.size w wr) := hbel
    clear hno hbel
    by_cases hlt : k < l.length
    · have hltI : (k : Int) < (l.length : Int) := by omega
      obtain ⟨x, hx⟩ : ∃ x, l[k]? = some x := ⟨_, List.getElem?_eq_getElem hlt⟩
      obtain ⟨b, off, rfl, x0, x1⟩ := (HR.out.below HB.out).get hx
      have Hx : Hid (l[k]? = some x) := hx
      have C := HT.out x wr HB.out
      clear hx
      cases ht : test x with
      | true =>
        rw [ht] at C
        have HC := C
        have Hf : Hid (ixP test l = k) := by
          have e := fiG_hit HN.out Hx.out ht
          show _ = _
          unfold ixP
          rw [e, if_pos hlt]
        clear ht C
        go_wp2_with (go_at_fn g; refine HC.mono ?_; rintro e w' ⟨rfl, hb⟩)
        go_ret
        exact ⟨ret_int Hf.out.symm, bstep HB.out hb⟩
      | false =>
        rw [ht] at C
        have HC := C
        have Hn : Hid (∀ j p, j < k + 1 → l[j]? = some p → test p = false) := fun j p hj hp => by
          by_cases e : j = k
          · subst e
            rw [Hx.out] at hp
            cases hp
            exact ht
          · exact HN.out j p (by omega) hp
        clear ht C
        go_wp2_with (go_at_fn g; refine HC.mono ?_; rintro e w' ⟨rfl, hb⟩)
        go_roundw
        case rel => exact ⟨k + 1, by omega, by go_num, Hn.out, bstep HB.out hb⟩
        case measure => simp [intOf]; omega
    · have hge : ¬ (k : Int) < (l.length : Int) := by omega
      have Hf : Hid (ixP test l = -1) := by
        have e := fiG_none (t := test) (l := l) fun p hp => by
          obtain ⟨j, hj⟩ := List.getElem?_of_mem hp
          have hj' := (List.getElem?_eq_some_iff.1 hj).1
          exact HN.out j p (by omega) hj
        show _ = _
        unfold ixP
        rw [e, if_neg (Nat.lt_irrefl _)]
      go_wp2
      go_ret
      exact ⟨ret_int Hf.out.symm, HB.out⟩

/-- 'clear(s)' of pairs. -/
theorem run_clearP (w : World) (b o n c : Nat) (hn : 0 < n) (hc : ∀ j, j < n * 2 → (w.cell? ⟨b, o + j, none⟩).isSome = true) (hf : ∀ j, j < n * 2 → w.frozen? ⟨b, o + j, none⟩ = false) :
    ∃ vs, ∀ ty, (Builtin.clear_ #[24] ty #[.slice (some ⟨b, o, none⟩) n c]).run Try.prog w = .ok (.tuple #[]) (w.setCells b o vs) := by
  have hzs : (Builtin.zeroCells (Value.agg #[.string ⟨#[]⟩, .string ⟨#[]⟩]).cells n).toList.length = n * 2 := by
    rw [Array.length_toList, size_zeroCells]
    rfl
  have hone : ∀ v ∈ (Builtin.zeroCells (Value.agg #[.string ⟨#[]⟩, .string ⟨#[]⟩]).cells n).toList, v.oneCell' = true := by
    intro v hv
    simp only [Builtin.zeroCells, Array.toList_map, List.mem_map] at hv
    obtain ⟨i, _, rfl⟩ := hv
    have h2 : i % (Value.agg #[.string ⟨#[]⟩, .string ⟨#[]⟩]).cells.size = 0 ∨ i % (Value.agg #[.string ⟨#[]⟩, .string ⟨#[]⟩]).cells.size = 1 := by
      show i % 2 = 0 ∨ i % 2 = 1
      omega
    rcases h2 with e | e <;> rw [e] <;> rfl
  generalize hZ : Builtin.zeroCells (Value.agg #[.string ⟨#[]⟩, .string ⟨#[]⟩]).cells n = Z at *
  have hst := run_storeCells_cells (P := Try.prog) b o Z.toList 0 w (by intro j hj; rw [Nat.add_zero]; exact hc j (by omega)) (by intro j hj; rw [Nat.add_zero]; exact hf j (by omega)) hone
  simp only [Nat.add_zero] at hst
  have hv : ∀ w, (zeroValue 35).run Try.prog w = .ok (.agg #[.string ⟨#[]⟩, .string ⟨#[]⟩]) w := Try.zeroValue35
  obtain ⟨m, rfl⟩ : ∃ m, n = m + 1 := ⟨n - 1, by omega⟩
  exact ⟨Z.toList, fun ty => by simp [Builtin.clear_, run_underlying Try.underlying24, hv, hZ, hst]⟩
theorem cell_sets {g o : Nat} {vs : List Value} {w : World} {j : Nat} (h : j < o) : (w.setCells g o vs).cell? ⟨g, j, none⟩ = w.cell? ⟨g, j, none⟩ :=
  World.cell?_setCells_out g vs o w _ (fun _ _ => .inl h)
theorem BkP.sets {W : World} {g cap : Nat} {D : List Pa} (h : BkP W g cap D) {i o : Nat} (hi : i ≤ D.length) (ho : i * 2 ≤ o) (vs : List Value) : BkP (W.setCells g o vs) g cap (D.take i) := by
  have h2 := h.take i
  refine ⟨blk_sets vs o h.blk, h2.len, h.mx, fun k p hp => ?_⟩
  have hk : k < i := by have := (List.getElem?_eq_some_iff.1 hp).1; rw [List.length_take] at this; omega
  obtain ⟨c1, c2⟩ := h2.at' k p hp
  exact ⟨(cell_sets (by omega)).trans c1, (cell_sets (by omega)).trans c2⟩
theorem below_sets {B g : Nat} (hg : B ≤ g) : ∀ (vs : List Value) (o : Nat) {a w : World}, Below B a w → Below B a (w.setCells g o vs)
  | [], _, _, _, h => h
  | v :: r, o, a, w, h => below_sets hg r (o + 1) (h.setCell (p := ⟨g, o, none⟩) hg v)
theorem filter_next {f : Pa → Bool} {l : List Pa} {j : Nat} {x : Pa} (h : l[j]? = some x) : (l.take (j + 1)).filter f = (l.take j).filter f ++ if f x = true then [x] else [] := by
  rw [take_nextP h, List.filter_append]
  congr 1
  by_cases hf : f x = true
  · rw [if_pos hf, List.filter_cons, if_pos hf]; rfl
  · rw [if_neg hf, List.filter_cons, if_neg hf]; rfl
theorem set_take {D : List Pa} {i : Nat} (h : i < D.length) (x : Pa) : (D.set i x).take (i + 1) = D.take i ++ [x] := by
  rw [List.take_succ_eq_append_getElem (by simpa using h), List.take_set_of_le (Nat.le_refl _)]
  simp
theorem set_drop {D : List Pa} {i j : Nat} (h : i < j) (x : Pa) : (D.set i x).drop j = D.drop j := by
  rw [List.drop_set_of_lt h]
theorem drop_next {D l : List Pa} {j : Nat} (h : D.drop j = l.drop j) : D.drop (j + 1) = l.drop (j + 1) := by
  rw [← List.drop_drop, h, List.drop_drop]
theorem woP_keep {l : List Pa} {key : ByteArray} {k : Nat} (h : ∀ j p, j < k → l[j]? = some p → tE p.k key = false) (hk : k ≤ l.length) : (l.take k).filter (fun p => !tE p.k key) = l.take k := by
  rw [List.filter_eq_self]
  intro p hp
  obtain ⟨j, hj⟩ := List.getElem?_of_mem hp
  rw [List.getElem?_take] at hj
  split at hj
  · rw [h j p (by assumption) hj]; rfl
  · cases hj
end Go.Proofs.Ytcgclhahonndbaa
