/- Layer 12: pairs that are read, and rows of pairs of the call's own. · Layer 12: pairs held against each other; whether they are short; places; Get. -/
import Derived.Test.YtcgclhahonndbaaGreatAmnum
import Derived.Laws.StructEq
import Derived.Deep.DeepCutAuto
import Derived.Deep.Slices
import Derived.Deep.Strs
namespace Go.Proofs.YtcgclhahonndbaaGreat
open Go.RowKit Go.Shelf
set_option linter.unusedVariables false

/-- The cells of pairs. -/
def pc1 (p : Pa) : List Value := [.string p.k, .string p.v]
def pcs (l : List Pa) : List Value := l.flatMap pc1
theorem pcs_length (l : List Pa) : (pcs l).length = l.length * 2 := by
  induction l with
  | nil => rfl
  | cons p ps ih => simp only [pcs, List.flatMap_cons, List.length_append, List.length_cons] at *; rw [ih]; simp [pc1]; omega
theorem pcs_append (ps qs : List Pa) : pcs (ps ++ qs) = pcs ps ++ pcs qs := by simp [pcs]
theorem pcs_at (ps : List Pa) (k : Nat) (hk : k < ps.length) (i : Nat) (hi : i < 2) : (pcs ps)[k * 2 + i]? = (pc1 (ps[k]'hk))[i]? := by
  induction ps generalizing k with
  | nil => simp at hk
  | cons p ps ih =>
    have e : pcs (p :: ps) = pc1 p ++ pcs ps := by simp [pcs]
    rw [e]
    cases k with
    | zero =>
      rw [Nat.zero_mul, Nat.zero_add, List.getElem?_append_left (by simp [pc1]; omega)]
      rfl
    | succ k =>
      rw [List.getElem?_append_right (by simp [pc1]; omega)]
      have : (k + 1) * 2 + i - (pc1 p).length = k * 2 + i := by simp [pc1]; omega
      rw [this, ih k (by simpa using hk)]
      rfl
theorem pcs_one (ps : List Pa) : ∀ u ∈ pcs ps, u.oneCell' = true := by
  intro u hu
  obtain ⟨p, _, hp⟩ := List.mem_flatMap.1 hu
  simp only [pc1, List.mem_cons, List.not_mem_nil, or_false] at hp
  rcases hp with rfl | rfl <;> rfl
theorem pcs_k {l : List Pa} {k : Nat} {p : Pa} (h : l[k]? = some p) : (pcs l)[k * 2]? = some (.string p.k) := by
  obtain ⟨hk, rfl⟩ := List.getElem?_eq_some_iff.1 h
  exact pcs_at l k hk 0 (by omega)
theorem pcs_v {l : List Pa} {k : Nat} {p : Pa} (h : l[k]? = some p) : (pcs l)[k * 2 + 1]? = some (.string p.v) := by
  obtain ⟨hk, rfl⟩ := List.getElem?_eq_some_iff.1 h
  exact pcs_at l k hk 1 (by omega)
/-- What is told of each pair's two cells is told of the cells. -/
theorem pcs_all {l : List Pa} {f : Nat → Option Value} (h : ∀ k p, l[k]? = some p → f (k * 2) = some (.string p.k) ∧ f (k * 2 + 1) = some (.string p.v)) : ∀ j u, (pcs l)[j]? = some u → f j = some u := by
  intro j u hu
  have hj : j < l.length * 2 := by have := (List.getElem?_eq_some_iff.1 hu).1; rwa [pcs_length] at this
  have hk : j / 2 < l.length := by omega
  have hp : l[j / 2]? = some l[j / 2] := List.getElem?_eq_getElem hk
  obtain ⟨h1, h2⟩ := h _ _ hp
  rcases Nat.mod_two_eq_zero_or_one j with e | e
  · have ej : j = j / 2 * 2 := by omega
    have := pcs_k hp
    rw [← ej] at this h1
    rw [h1, ← this, hu]
  · have ej : j = j / 2 * 2 + 1 := by omega
    have := pcs_v hp
    rw [← ej] at this h2
    rw [h2, ← this, hu]
/-- The slice v holds the pairs l. -/
def RdP (W : World) (v : Value) (l : List Pa) : Prop := RdC W 2 v l.length (pcs l)
theorem RdP.below {W W' : World} {v : Value} {l : List Pa} (h : RdP W v l) (hb : Below W.heap.size W W') : RdP W' v l := RdC.below h hb
theorem RdP.form {W : World} {v : Value} {l : List Pa} (h : RdP W v l) : l.length ≤ 1000 ∧ ∃ a cap, v = .slice a l.length cap ∧ l.length ≤ cap := by
  obtain ⟨_, h2, a, cap, rfl, h3, _⟩ := h
  exact ⟨h2, a, cap, rfl, h3⟩
theorem RdP.get {W : World} {a : Option Addr} {n cap : Nat} {l : List Pa} (h : RdP W (.slice a n cap) l) {k : Nat} {x : Pa} (hp : l[k]? = some x) :
    ∃ b off, a = some ⟨b, off, none⟩ ∧ W.cell? ⟨b, off + k * 2, none⟩ = some (.string x.k) ∧ W.cell? ⟨b, off + k * 2 + 1, none⟩ = some (.string x.v) := by
  obtain ⟨_, _, a', cap', e, _, h3⟩ := h
  cases e
  rcases h3 with ⟨h0, _⟩ | ⟨b, off, rfl, _, hc⟩
  · have := (List.getElem?_eq_some_iff.1 hp).1
    omega
  · refine ⟨b, off, rfl, hc (k * 2) _ (pcs_k hp), ?_⟩
    have := hc (k * 2 + 1) _ (pcs_v hp)
    rwa [← Nat.add_assoc] at this
theorem RdP.bare (W : World) : RdP W (.slice none 0 0) [] := ⟨rfl, by simp, none, 0, rfl, Nat.le_refl _, .inl ⟨rfl, fun _ => rfl⟩⟩
/-- A row of pairs, of the call's own. -/
def OwnP (W : World) (base : Nat) (v : Value) (l : List Pa) : Prop := W.ownsRow base 45 2 v l.length (pcs l)
theorem OwnP.rd {W : World} {base : Nat} {v : Value} {l : List Pa} (h : OwnP W base v l) (hl : l.length ≤ 1000) : RdP W v l := RdC.of_own h hl
theorem OwnP.below {W W' : World} {base : Nat} {v : Value} {l : List Pa} (h : OwnP W base v l) (hb : Below W.heap.size W W') : OwnP W' base v l := own_below h hb
theorem OwnP.bare (W : World) (base : Nat) : OwnP W base (.slice none 0 0) [] := World.ownsRow_nil _ _ _ _
theorem own_mono {w : World} {base base' : Nat} {e : TypeId} {size : Nat} {v : Value} {n : Nat} {xs : List Value} (h : w.ownsRow base e size v n xs) (hb : base' ≤ base) : w.ownsRow base' e size v n xs := by
  refine ⟨h.1, ?_⟩
  rcases h.2 with hn | ⟨g, cap, cur, rfl, hg, rest⟩
  · exact .inl hn
  · exact .inr ⟨g, cap, cur, rfl, Nat.le_trans hb hg, rest⟩
theorem OwnP.mono {W : World} {base base' : Nat} {v : Value} {l : List Pa} (h : OwnP W base v l) (hb : base' ≤ base) : OwnP W base' v l := own_mono h hb
/-- A block of pairs, of so much room, which has these first. -/
structure BkP (W : World) (g cap : Nat) (D : List Pa) : Prop where
  blk : ∃ cur, W.heap[g]? = some (.cells cur 45 (0, 0)) ∧ cur.size = cap * 2
  len : D.length ≤ cap
  mx : cap ≤ maxLen
  at' : ∀ k p, D[k]? = some p → W.cell? ⟨g, k * 2, none⟩ = some (.string p.k) ∧ W.cell? ⟨g, k * 2 + 1, none⟩ = some (.string p.v)
theorem BkP.lt {W : World} {g cap : Nat} {D : List Pa} (h : BkP W g cap D) : g < W.heap.size := by
  obtain ⟨cur, h, _⟩ := h.blk
  exact (Array.getElem?_eq_some_iff.1 h).1
theorem BkP.below {W W' : World} {g cap : Nat} {D : List Pa} (h : BkP W g cap D) (hb : Below W.heap.size W W') : BkP W' g cap D := by
  obtain ⟨cur, h1, h2⟩ := h.blk
  refine ⟨⟨cur, (hb.block g h.lt).trans h1, h2⟩, h.len, h.mx, fun k p hp => ?_⟩
  obtain ⟨c1, c2⟩ := h.at' k p hp
  exact ⟨(hb.cell (p := ⟨g, k * 2, none⟩) h.lt).trans c1, (hb.cell (p := ⟨g, k * 2 + 1, none⟩) h.lt).trans c2⟩
theorem BkP.frozen {W : World} {g cap : Nat} {D : List Pa} (h : BkP W g cap D) (j : Nat) : W.frozen? ⟨g, j, none⟩ = false := by
  obtain ⟨cur, h1, h2⟩ := h.blk
  simp [World.frozen?, h1]
theorem BkP.sm {W : World} {g cap : Nat} {D : List Pa} (h : BkP W g cap D) (j : Nat) (hj : j < cap * 2) : (W.cell? ⟨g, j, none⟩).isSome = true := by
  obtain ⟨cur, h1, h2⟩ := h.blk
  simp [World.cell?, h1, h2, hj]
theorem blk_set {W : World} {g j : Nat} {v : Value} {n : Nat} (h : ∃ cur, W.heap[g]? = some (.cells cur 45 (0, 0)) ∧ cur.size = n) : ∃ cur, (W.setCell ⟨g, j, none⟩ v).heap[g]? = some (.cells cur 45 (0, 0)) ∧ cur.size = n := by
  obtain ⟨cur, h1, h2⟩ := h
  refine ⟨cur.setIfInBounds j v, ?_, by simpa using h2⟩
  simp [World.setCell, Array.getElem?_modify, h1]
theorem blk_sets {g n : Nat} : ∀ (vs : List Value) (o : Nat) {W : World}, (∃ cur, W.heap[g]? = some (.cells cur 45 (0, 0)) ∧ cur.size = n) → ∃ cur, (W.setCells g o vs).heap[g]? = some (.cells cur 45 (0, 0)) ∧ cur.size = n
  | [], _, _, h => h
  | v :: r, o, W, h => blk_sets r (o + 1) (blk_set h)
/-- A pair is stored at a place. -/
theorem BkP.set {W : World} {g cap : Nat} {D : List Pa} (h : BkP W g cap D) {i : Nat} (hi : i < D.length) (p : Pa) : BkP ((W.setCell ⟨g, i * 2, none⟩ (.string p.k)).setCell ⟨g, i * 2 + 1, none⟩ (.string p.v)) g cap (D.set i p) := by
  have hl := h.len
  refine ⟨blk_set (blk_set h.blk), by rw [List.length_set]; exact h.len, h.mx, fun k q hq => ?_⟩
  obtain ⟨u1, s1⟩ := Option.isSome_iff_exists.1 (h.sm (i * 2) (by omega))
  obtain ⟨u2, s2⟩ : ∃ u2, (W.setCell ⟨g, i * 2, none⟩ (.string p.k)).cell? ⟨g, i * 2 + 1, none⟩ = some u2 := by
    rw [World.cell?_setCell_other _ _ _ _ (by simp)]
    exact Option.isSome_iff_exists.1 (h.sm (i * 2 + 1) (by omega))
  rw [List.getElem?_set] at hq
  split at hq
  · rename_i e
    subst e
    cases hq
    refine ⟨?_, World.cell?_setCell_same _ _ _ s2⟩
    rw [World.cell?_setCell_other _ _ _ _ (by simp)]
    exact World.cell?_setCell_same _ _ _ s1
  · rename_i e
    obtain ⟨c1, c2⟩ := h.at' k q hq
    refine ⟨?_, ?_⟩
    · rw [World.cell?_setCell_other _ _ _ _ (by simp <;> omega), World.cell?_setCell_other _ _ _ _ (by simp <;> omega)]
      exact c1
    · rw [World.cell?_setCell_other _ _ _ _ (by simp <;> omega), World.cell?_setCell_other _ _ _ _ (by simp <;> omega)]
      exact c2
theorem BkP.take {W : World} {g cap : Nat} {D : List Pa} (h : BkP W g cap D) (i : Nat) : BkP W g cap (D.take i) := by
  have hl := h.len
  refine ⟨h.blk, by rw [List.length_take]; omega, h.mx, fun k p hp => ?_⟩
  rw [List.getElem?_take] at hp
  split at hp
  · exact h.at' k p hp
  · cases hp
theorem BkP.own {W : World} {base g cap : Nat} {D : List Pa} (h : BkP W g cap D) (hg : base ≤ g) : OwnP W base (.slice (some ⟨g, 0, none⟩) D.length cap) D := by
  obtain ⟨cur, h1, h2⟩ := h.blk
  have hl := h.len
  refine ⟨pcs_length D, .inr ⟨g, cap, cur, rfl, hg, h1, h.len, h.mx, h2, ?_⟩⟩
  refine List.ext_getElem? fun j => ?_
  rw [List.getElem?_take]
  by_cases hj : j < D.length * 2
  · rw [if_pos hj]
    obtain ⟨u, hu⟩ : ∃ u, (pcs D)[j]? = some u := ⟨_, List.getElem?_eq_getElem (by rw [pcs_length]; exact hj)⟩
    have := pcs_all (f := fun j => W.cell? ⟨g, j, none⟩) h.at' j u hu
    rw [hu]
    simp [World.cell?, h1] at this
    simpa using this
  · rw [if_neg hj, List.getElem?_eq_none (by rw [pcs_length]; omega)]
theorem OwnP.bk {W : World} {base n c : Nat} {g : Nat} {D : List Pa} (h : OwnP W base (.slice (some ⟨g, 0, none⟩) n c) D) : n = D.length ∧ base ≤ g ∧ BkP W g c D := by
  have h0 := h
  rcases h.2 with ⟨e, _⟩ | ⟨g', cap, cur, e, hg, hgb, hncap, hmax, hsz, htk⟩
  · cases e
  · cases e
    refine ⟨rfl, hg, ⟨cur, hgb, hsz⟩, hncap, hmax, fun k p hp => ?_⟩
    have c1 := h0.cells rfl (k * 2) _ (pcs_k hp)
    have c2 := h0.cells rfl (k * 2 + 1) _ (pcs_v hp)
    rw [Addr.add_lit, Nat.zero_add] at c1 c2
    exact ⟨c1, c2⟩
theorem OwnP.form {W : World} {base : Nat} {v : Value} {D : List Pa} (h : OwnP W base v D) : (v = .slice none 0 0 ∧ D = []) ∨ ∃ g c, v = .slice (some ⟨g, 0, none⟩) D.length c ∧ base ≤ g ∧ BkP W g c D := by
  rcases h.2 with ⟨rfl, h0⟩ | ⟨g', cap, cur, rfl, hg, _⟩
  · exact .inl ⟨rfl, List.eq_nil_of_length_eq_zero h0⟩
  · exact .inr ⟨g', cap, rfl, hg, (OwnP.bk h).2.2⟩
theorem Tryz.info45 : (Tryz.prog.info? 45).map (fun i => (i.zero, i.size, i.bytes)) = some (some (.agg #[.string ⟨#[]⟩, .string ⟨#[]⟩]), 2, 32) := by kernel_rfl
end Go.Proofs.YtcgclhahonndbaaGreat
namespace Go.Proofs.YtcgclhahonndbaaGreat
open Go.RowKit Go.Shelf Classical
set_option linter.unusedVariables false

theorem pal {w W : World} (h : Below w.heap.size w W) (o : Obj) : Below w.heap.size w (W.alloc o) := h.alloc h.size o
theorem take_nextP {l : List Pa} {k : Nat} {x : Pa} (h : l[k]? = some x) : l.take (k + 1) = l.take k ++ [x] := by
  obtain ⟨hk, rfl⟩ := List.getElem?_eq_some_iff.1 h
  exact List.take_succ_eq_append_getElem hk
theorem neq35 (x y x' y' : ByteArray) (w : World) : (binOp .neq 45 (.agg #[.string x, .string y]) (.agg #[.string x', .string y'])).run Tryz.prog w = .ok (.bool (!decide (Pa.mk x y = Pa.mk x' y'))) w := by
  have u9 := Tryz.underlying9
  have a9 := Tryz.isAgg9
  have z9 := Tryz.sizeOf9
  have hS : Tryz.prog.underlying 45 = some (.struct (Tryz.prog.fieldsOf 45)) := by kernel_rfl
  have hp : Tryz.prog.stoodInHeld 45 = false := by kernel_rfl
  rw [run_neq_struct, show (10000 : Nat) = 9999 + 1 from rfl, run_equalIn_agg w 9999 45 _ _ hS hp]
  simp only [Program.fieldsOf, Tryz.underlying45]
  go_simp
  have tl : ∀ a b : ByteArray, (a.toList = b.toList) = (a = b) := fun a b => propext ⟨fun h => by rw [Lib.toList_data, Lib.toList_data] at h; exact Ky.ba_ext h, fun h => by rw [h]⟩
  by_cases h1 : x = x' <;> by_cases h2 : y = y' <;> simp [h1, h2, tl]

set_option maxRecDepth 100000 in
set_option maxHeartbeats 2000000 in
/-- Pairs are the same. -/
theorem sameP_any (u v : Value) (l1 l2 : List Pa) (w : World) (hu : RdP w u l1) (hv : RdP w v l2) : Calls Tryz.prog 12 #[u, v] w fun e w' => e = .returned (.bool (decide (l1 = l2))) ∧ Below w.heap.size w w' := by
  have hu' : Hid (RdP w u l1) := hu
  have hv' : Hid (RdP w v l2) := hv
  obtain ⟨hz, a, cap, rfl, _⟩ := hu.form
  obtain ⟨hy, a2, cap2, rfl, _⟩ := hv.form
  clear hu hv
  have q35 : ∀ (x y x' y' : ByteArray) (w : World), (binOp .neq 45 (.agg #[.string x, .string y]) (.agg #[.string x', .string y'])).run Tryz.prog w = .ok (.bool (!decide (Pa.mk x y = Pa.mk x' y'))) w := neq35
  by_cases hl : l1.length = l2.length
  · have hl2 : ((l1.length : Int) != (l2.length : Int)) = false := by simp [hl]
    have Hl : Hid (l1.length = l2.length) := hl
    clear hl
    go_enter Tryz.func12, Tryz.ntmps12
    go_wp2
    go_loopw [5] (fun i w1 => ∃ k : Nat, k ≤ l1.length ∧ i = .int .i64 k ∧ l1.take k = l2.take k ∧ Below w.heap.size w w1) (fun i _ => l1.length - (Go.RowKit.intOf i).toNat)
    case atStart => exact ⟨0, Nat.zero_le _, rfl, rfl, Below.refl _ _⟩
    case round =>
      obtain ⟨k, hk, rfl, ht, hbel⟩ := hrel
      have Ht : Hid (l1.take k = l2.take k) := ht
      have HB : Hid (Below w.heap.size w wr) := hbel
      clear ht hbel
      by_cases hlt : k < l1.length
      · have hltI : (k : Int) < (l1.length : Int) := by omega
        have hlt2 : k < l2.length := by have := Hl.out; omega
        have hltI2 : (k : Int) < (l2.length : Int) := by omega
        obtain ⟨x, hx⟩ : ∃ x, l1[k]? = some x := ⟨_, List.getElem?_eq_getElem hlt⟩
        obtain ⟨y, hy'⟩ : ∃ y, l2[k]? = some y := ⟨_, List.getElem?_eq_getElem hlt2⟩
        obtain ⟨b, off, rfl, x0, x1⟩ := (hu'.out.below HB.out).get hx
        obtain ⟨b2, off2, rfl, y0, y1⟩ := (hv'.out.below HB.out).get hy'
        have Hx : Hid (l1[k]? = some x) := hx
        have Hy : Hid (l2[k]? = some y) := hy'
        clear hx hy'
        obtain ⟨xk, xv⟩ := x
        obtain ⟨yk, yv⟩ := y
        dsimp only at x0 x1 y0 y1
        by_cases hne : Pa.mk xk xv = Pa.mk yk yv
        · have hd : decide (Pa.mk xk xv = Pa.mk yk yv) = true := decide_eq_true hne
          have hq : ∀ w, (binOp .neq 45 (.agg #[.string xk, .string xv]) (.agg #[.string yk, .string yv])).run Tryz.prog w = .ok (.bool false) w := fun w => by rw [q35, hd]; rfl
          have Hn : Hid (l1.take (k + 1) = l2.take (k + 1)) := by (show _ = _; rw [take_nextP Hx.out, take_nextP Hy.out, Ht.out, hne])
          clear hne hd q35
          go_wp2
          go_quiet (fail)
          go_wp2
          go_roundw
          case rel => exact ⟨k + 1, by omega, by go_num, Hn.out, below_drewN HB.out _⟩
          case measure => simp [Go.RowKit.intOf]; omega
        · have hd : decide (Pa.mk xk xv = Pa.mk yk yv) = false := decide_eq_false hne
          have hq : ∀ w, (binOp .neq 45 (.agg #[.string xk, .string xv]) (.agg #[.string yk, .string yv])).run Tryz.prog w = .ok (.bool true) w := fun w => by rw [q35, hd]; rfl
          have Hn : Hid (decide (l1 = l2) = false) := decide_eq_false (fun e => hne (by have h1 := Hx.out; have h2 := Hy.out; rw [e, h2] at h1; cases h1; rfl))
          clear hne hd q35
          go_wp2
          go_quiet (fail)
          go_wp2
          go_ret
          exact ⟨ret_bool Hn.out.symm, below_drewN HB.out _⟩
      · have hge : ¬ (k : Int) < (l1.length : Int) := by omega
        have Hn : Hid (decide (l1 = l2) = true) := decide_eq_true (by have := Ht.out; rwa [List.take_of_length_le (by omega), List.take_of_length_le (by have := Hl.out; omega)] at this)
        go_wp2
        go_ret
        exact ⟨ret_bool Hn.out.symm, HB.out⟩
  · have hl2 : ((l1.length : Int) != (l2.length : Int)) = true := by simp; omega
    go_enter Tryz.func12, Tryz.ntmps12
    go_wp2
    go_ret
    exact ⟨ret_bool (decide_eq_false (fun e => hl (by rw [e]))).symm, Below.refl _ _⟩

/-- Many pairs that come in. -/
def InP (W : World) (a : Option Addr) (n c : Nat) (l : List Pa) : Prop :=
  l.length = n ∧ n ≤ c ∧ c ≤ maxLen ∧ ((n = 0 ∧ (a = none → c = 0)) ∨ ∃ b off, a = some ⟨b, off, none⟩ ∧ b < W.heap.size ∧ ∀ k p, l[k]? = some p → W.cell? ⟨b, off + k * 2, none⟩ = some (.string p.k) ∧ W.cell? ⟨b, off + k * 2 + 1, none⟩ = some (.string p.v))
theorem InP.rd {W : World} {a : Option Addr} {n c : Nat} {l : List Pa} (h : InP W a n c l) (hl : n ≤ 1000) : RdP W (.slice a l.length c) l := by
  obtain ⟨rfl, h2, h3, h4⟩ := h
  refine ⟨pcs_length l, hl, a, c, rfl, h2, ?_⟩
  rcases h4 with h | ⟨b, off, rfl, hlt, hc⟩
  · exact .inl h
  · exact .inr ⟨b, off, rfl, hlt, pcs_all (f := fun j => W.cell? ⟨b, off + j, none⟩) (fun k p hp => by obtain ⟨c1, c2⟩ := hc k p hp; exact ⟨c1, c2⟩)⟩
theorem InP.below {W W' : World} {a : Option Addr} {n c : Nat} {l : List Pa} (h : InP W a n c l) (hb : Below W.heap.size W W') : InP W' a n c l := by
  obtain ⟨h1, h2, h3, h4⟩ := h
  refine ⟨h1, h2, h3, ?_⟩
  rcases h4 with h | ⟨b, off, rfl, hlt, hc⟩
  · exact .inl h
  · exact .inr ⟨b, off, rfl, Nat.lt_of_lt_of_le hlt hb.size, fun k p hp => ⟨(hb.cell (p := ⟨b, off + k * 2, none⟩) hlt).trans (hc k p hp).1, (hb.cell (p := ⟨b, off + k * 2 + 1, none⟩) hlt).trans (hc k p hp).2⟩⟩
/-- At most a hundred bytes each; so many. -/
def sh1 (p : Pa) : Bool := decide (p.k.size ≤ 100) && decide (p.v.size ≤ 100)
def shP (l : List Pa) (n : Int) : Bool := l.all sh1 && decide ((l.length : Int) ≤ n)
theorem sh1_yes {p : Pa} (h1 : ¬ (p.k.size : Int) > 100) (h2 : ¬ (p.v.size : Int) > 100) : sh1 p = true := by
  unfold sh1
  rw [decide_eq_true (by omega), decide_eq_true (by omega)]
  rfl
theorem sh1_no {p : Pa} (h : (p.k.size : Int) > 100 ∨ (p.v.size : Int) > 100) : sh1 p = false := by
  unfold sh1
  rcases h with h | h
  · rw [decide_eq_false (by omega)]; rfl
  · rw [decide_eq_false (p := p.v.size ≤ 100) (by omega), Bool.and_false]
theorem shP_no {l : List Pa} {k : Nat} {p : Pa} (n : Int) (hp : l[k]? = some p) (h : sh1 p = false) : shP l n = false := by
  have : l.all sh1 = false := by
    rw [List.all_eq_false]
    exact ⟨p, List.mem_of_getElem? hp, by simp [h]⟩
  unfold shP
  rw [this]
  rfl
theorem shP_yes {l : List Pa} {n : Int} (h : shP l n = true) : (l.length : Int) ≤ n ∧ ∀ p ∈ l, p.k.size ≤ 100 ∧ p.v.size ≤ 100 := by
  unfold shP at h
  rw [Bool.and_eq_true, List.all_eq_true] at h
  refine ⟨of_decide_eq_true h.2, fun p hp => ?_⟩
  have := h.1 p hp
  unfold sh1 at this
  rw [Bool.and_eq_true] at this
  exact ⟨of_decide_eq_true this.1, of_decide_eq_true this.2⟩

set_option maxRecDepth 100000 in
set_option maxHeartbeats 2000000 in
theorem short_any (a : Option Addr) (n c : Nat) (l : List Pa) (m : Int) (w : World) (hI : InP w a n c l) : Calls Tryz.prog 5 #[.slice a n c, .int .i64 m] w fun e w' => e = .returned (.bool (shP l m)) ∧ Below w.heap.size w w' := by
  have hI' : Hid (InP w a n c l) := hI
  obtain ⟨hn, hc, hm, h4⟩ := hI
  unfold maxLen at hm
  have Hn : Hid (l.length = n) := hn
  clear hn
  go_enter Tryz.func5, Tryz.ntmps5
  go_wp2
  go_loopw [5] (fun i w1 => ∃ k : Nat, k ≤ n ∧ i = .int .i64 k ∧ (l.take k).all sh1 = true ∧ Below w.heap.size w w1) (fun i _ => n - (Go.RowKit.intOf i).toNat)
  case atStart => exact ⟨0, Nat.zero_le _, rfl, rfl, Below.refl _ _⟩
  case round =>
    obtain ⟨k, hk, rfl, ht, hbel⟩ := hrel
    have Ht : Hid ((l.take k).all sh1 = true) := ht
    have HB : Hid (Below w.heap.size w wr) := hbel
    clear ht hbel
    by_cases hlt : k < n
    · have hltI : (k : Int) < (n : Int) := by omega
      obtain ⟨x, hx⟩ : ∃ x, l[k]? = some x := ⟨_, List.getElem?_eq_getElem (by have := Hn.out; omega)⟩
      rcases h4 with ⟨h0, _⟩ | ⟨b, off, rfl, hlt9, hce⟩
      · omega
      obtain ⟨x0, x1⟩ := hce k x hx
      have hbl := HB.out
      have x0 := (hbl.cell (p := ⟨b, off + k * 2, none⟩) hlt9).trans x0
      have x1 := (hbl.cell (p := ⟨b, off + k * 2 + 1, none⟩) hlt9).trans x1
      have Hx : Hid (l[k]? = some x) := hx
      clear hx hce hbl
      obtain ⟨xk, xv⟩ := x
      dsimp only at x0 x1
      by_cases g1 : (xk.size : Int) > 100
      · have Hs : Hid (shP l m = false) := shP_no m Hx.out (sh1_no (.inl g1))
        go_wp2
        go_ret
        exact ⟨ret_bool Hs.out.symm, HB.out⟩
      · by_cases g2 : (xv.size : Int) > 100
        · have Hs : Hid (shP l m = false) := shP_no m Hx.out (sh1_no (.inr g2))
          go_wp2
          go_ret
          exact ⟨ret_bool Hs.out.symm, HB.out⟩
        · have Hs : Hid ((l.take (k + 1)).all sh1 = true) := by
            show _ = _
            rw [take_nextP Hx.out, List.all_append, Ht.out]
            simp [sh1_yes (p := ⟨xk, xv⟩) g1 g2]
          go_wp2
          go_roundw
          case rel => exact ⟨k + 1, by omega, by go_num, Hs.out, HB.out⟩
          case measure => simp [Go.RowKit.intOf]; omega
    · have hge : ¬ (k : Int) < (n : Int) := by omega
      have Hs : Hid (shP l m = decide ((n : Int) ≤ m)) := by
        have := Ht.out
        rw [List.take_of_length_le (by have := Hn.out; omega)] at this
        show _ = _
        unfold shP
        rw [this, Hn.out]
        rfl
      clear h4
      go_wp2
      go_ret
      exact ⟨ret_bool Hs.out.symm, HB.out⟩
end Go.Proofs.YtcgclhahonndbaaGreat
