/- Walks of layer 4: slices that are read; small functions. -/
import Derived.Test.YtbnlekheadmecaaNuma
import Derived.Test.YtbnlekheadmecaaLib
import Derived.Test.YtbnlekheadmecaaChecked
import Derived.Deep.QuietTactic
import Derived.BigQuiet
import Derived.WalkSmall
import Derived.Deep.MidRow
import Derived.Deep.OwnRows
namespace Go.Proofs.Ytbnlekheadmecaa
open Go.RowKit

theorem ret_int {k : IntKind} {a b : Int} (h : a = b) : Ending.returned (.int k a) = .returned (.int k b) := by rw [h]
theorem ret_bool {a b : Bool} (h : a = b) : Ending.returned (.bool a) = .returned (.bool b) := by rw [h]
theorem bstep {w a b : World} (h : Below w.heap.size w a) (k : Below a.heap.size a b) : Below w.heap.size w b := h.trans (k.mono h.size)

/-- The slice v, of n elements of so many cells, holds the cells xs. -/
def RdC (W : World) (size : Nat) (v : Value) (n : Nat) (xs : List Value) : Prop :=
  xs.length = n * size ∧ n ≤ 1000 ∧ ∃ a cap, v = .slice a n cap ∧ n ≤ cap ∧ ((n = 0 ∧ (a = none → cap = 0)) ∨ ∃ b off, a = some ⟨b, off, none⟩ ∧ b < W.heap.size ∧ ∀ j u, xs[j]? = some u → W.cell? ⟨b, off + j, none⟩ = some u)
theorem RdC.below {W W' : World} {size : Nat} {v : Value} {n : Nat} {xs : List Value} (h : RdC W size v n xs) (hb : Below W.heap.size W W') : RdC W' size v n xs := by
  obtain ⟨h1, h2, a, cap, rfl, hcap, h3⟩ := h
  refine ⟨h1, h2, a, cap, rfl, hcap, ?_⟩
  rcases h3 with h | ⟨b, off, rfl, hlt, hc⟩
  · exact .inl h
  · exact .inr ⟨b, off, rfl, Nat.lt_of_lt_of_le hlt hb.size, fun j u hj => (hb.cell (p := ⟨b, off + j, none⟩) hlt).trans (hc j u hj)⟩
/-- The slice v holds the ints zs. -/
def Rd (W : World) (v : Value) (zs : List Int) : Prop := RdC W 1 v zs.length (zs.map (Value.int .i64))
theorem Rd.below {W W' : World} {v : Value} {zs : List Int} (h : Rd W v zs) (hb : Below W.heap.size W W') : Rd W' v zs := RdC.below h hb
theorem Rd.form {W : World} {v : Value} {zs : List Int} (h : Rd W v zs) : zs.length ≤ 1000 ∧ ∃ a cap, v = .slice a zs.length cap := by
  obtain ⟨_, h2, a, cap, rfl, _⟩ := h
  exact ⟨h2, a, cap, rfl⟩
theorem Rd.at {W : World} {a : Option Addr} {n cap : Nat} {zs : List Int} (h : Rd W (.slice a n cap) zs) (k : Nat) (hk : k < zs.length) :
    ∃ b off, a = some ⟨b, off, none⟩ ∧ W.cell? ⟨b, off + k, none⟩ = some (.int .i64 (zs[k]'hk)) := by
  obtain ⟨_, _, a', cap', e, _, h3⟩ := h
  cases e
  rcases h3 with ⟨h0, _⟩ | ⟨b, off, rfl, _, hc⟩
  · omega
  · exact ⟨b, off, rfl, hc k _ (by simp [List.getElem?_eq_getElem hk])⟩
/-- The cells of what is pending. -/
def pc1 (p : Pd) : List Value := [.int .i64 p.a, .int .i64 p.v, .bool p.f]
def pcs (ps : List Pd) : List Value := ps.flatMap pc1
theorem pcs_length (ps : List Pd) : (pcs ps).length = ps.length * 3 := by
  induction ps with
  | nil => rfl
  | cons p ps ih => simp only [pcs, List.flatMap_cons, List.length_append, List.length_cons] at *; rw [ih]; simp [pc1]; omega
theorem pcs_append (ps qs : List Pd) : pcs (ps ++ qs) = pcs ps ++ pcs qs := by simp [pcs]
theorem pcs_at (ps : List Pd) (k : Nat) (hk : k < ps.length) (i : Nat) (hi : i < 3) : (pcs ps)[k * 3 + i]? = (pc1 (ps[k]'hk))[i]? := by
  induction ps generalizing k with
  | nil => simp at hk
  | cons p ps ih =>
    have e : pcs (p :: ps) = pc1 p ++ pcs ps := by simp [pcs]
    rw [e]
    cases k with
    | zero =>
      rw [Nat.zero_mul, Nat.zero_add, List.getElem?_append_left (by simp [pc1]; omega)]
      rfl
    | succ k =>
      rw [List.getElem?_append_right (by simp [pc1]; omega)]
      have : (k + 1) * 3 + i - (pc1 p).length = k * 3 + i := by simp [pc1]; omega
      rw [this, ih k (by simpa using hk)]
      rfl
/-- The slice v holds what is pending. -/
def RdP (W : World) (v : Value) (ps : List Pd) : Prop := RdC W 3 v ps.length (pcs ps)
theorem RdP.below {W W' : World} {v : Value} {ps : List Pd} (h : RdP W v ps) (hb : Below W.heap.size W W') : RdP W' v ps := RdC.below h hb
theorem RdP.form {W : World} {v : Value} {ps : List Pd} (h : RdP W v ps) : ps.length ≤ 1000 ∧ ∃ a cap, v = .slice a ps.length cap := by
  obtain ⟨_, h2, a, cap, rfl, _⟩ := h
  exact ⟨h2, a, cap, rfl⟩
theorem RdP.at {W : World} {a : Option Addr} {n cap : Nat} {ps : List Pd} (h : RdP W (.slice a n cap) ps) (k : Nat) (hk : k < ps.length) :
    ∃ b off, a = some ⟨b, off, none⟩ ∧ W.cell? ⟨b, off + k * 3, none⟩ = some (.int .i64 (ps[k]'hk).a) ∧ W.cell? ⟨b, off + k * 3 + 1, none⟩ = some (.int .i64 (ps[k]'hk).v) ∧ W.cell? ⟨b, off + k * 3 + 2, none⟩ = some (.bool (ps[k]'hk).f) := by
  obtain ⟨_, _, a', cap', e, _, h3⟩ := h
  cases e
  rcases h3 with ⟨h0, _⟩ | ⟨b, off, rfl, _, hc⟩
  · omega
  · exact ⟨b, off, rfl, hc (k * 3 + 0) _ (by rw [pcs_at ps k hk 0 (by omega)]; rfl), hc (k * 3 + 1) _ (by rw [pcs_at ps k hk 1 (by omega)]; rfl), hc (k * 3 + 2) _ (by rw [pcs_at ps k hk 2 (by omega)]; rfl)⟩

/-- A memory that is read: its three lists. -/
structure RdM (W : World) (va vb vc : Value) (m : Mm) : Prop where
  vol : Rd W va m.vol
  per : Rd W vb m.per
  pend : RdP W vc m.pend
theorem RdM.below {W W' : World} {va vb vc : Value} {m : Mm} (h : RdM W va vb vc m) (hb : Below W.heap.size W W') : RdM W' va vb vc m := ⟨h.vol.below hb, h.per.below hb, h.pend.below hb⟩

/-- So many words may be; few; there is such a line. -/
def mayB (n : Nat) : Bool := decide (n ≤ 4096 ∧ n % 8 = 0)
def fewB (a b c : Nat) : Bool := decide (a ≤ 300 ∧ b ≤ 300 ∧ c ≤ 100)
def lineB (len : Nat) (n : Int) : Bool := decide (0 ≤ n ∧ n < (len : Int) / 8)

set_option maxRecDepth 100000 in
theorem mayHave_any (n : Nat) (w : World) (hn : n ≤ 100000) : Calls Try.prog 32 #[.int .i64 n] w fun e w' => e = .returned (.bool (mayB n)) ∧ w' = w := by
  by_cases h1 : (n : Int) ≤ 4096
  · by_cases h2 : ((n : Int) % 8 == 0) = true
    · have H : Hid (mayB n = true) := decide_eq_true (by simp at h2; omega)
      go_enter Try.func32, Try.ntmps32
      go_wp2
      go_ret
      exact ⟨ret_bool H.out.symm, rfl⟩
    · have h2 : ((n : Int) % 8 == 0) = false := by simpa using h2
      have H : Hid (mayB n = false) := decide_eq_false (by simp at h2; omega)
      go_enter Try.func32, Try.ntmps32
      go_wp2
      go_ret
      exact ⟨ret_bool H.out.symm, rfl⟩
  · have H : Hid (mayB n = false) := decide_eq_false (by omega)
    go_enter Try.func32, Try.ntmps32
    go_wp2
    go_ret
    exact ⟨ret_bool H.out.symm, rfl⟩

theorem quo8 (a : Int) (h0 : 0 ≤ a) (h1 : a < 100000) : wrap64 (a.tdiv 8) = a / 8 := by
  rw [Int.tdiv_eq_ediv_of_nonneg h0]; unfold wrap64; omega
set_option maxRecDepth 100000 in
theorem lineOf_any (p : Pd) (w : World) (h0 : 0 ≤ p.a) (h1 : p.a < 100000) : Calls Try.prog 46 #[.agg #[.int .i64 p.a, .int .i64 p.v, .bool p.f]] w fun e w' => e = .returned (.int .i64 (p.a / 8)) ∧ Below w.heap.size w w' := by
  go_enter Try.func46, Try.ntmps46
  go_wp2
  go_ret
  exact ⟨ret_int rfl, (Below.refl _ _).alloc (Nat.le_refl _) _⟩


set_option maxRecDepth 100000 in
theorem hasLine_any (va vb vc : Value) (m : Mm) (n : Int) (w : World) (hR : RdM w va vb vc m) : Calls Try.prog 58 #[.agg #[va, vb, vc], .int .i64 n] w fun e w' => e = .returned (.bool (lineB m.vol.length n)) ∧ Below w.heap.size w w' := by
  obtain ⟨hl, a, cap, rfl⟩ := hR.vol.form
  by_cases h1 : (0 : Int) ≤ n
  · have H : Hid (lineB m.vol.length n = decide (n < (m.vol.length : Int) / 8)) := by
      show lineB m.vol.length n = _
      unfold lineB
      simp [h1]
    go_enter Try.func58, Try.ntmps58
    go_wp2
    go_ret
    exact ⟨ret_bool H.out.symm, (Below.refl _ _).alloc (Nat.le_refl _) _⟩
  · have H : Hid (lineB m.vol.length n = false) := decide_eq_false (by omega)
    go_enter Try.func58, Try.ntmps58
    go_wp2
    go_ret
    exact ⟨ret_bool H.out.symm, (Below.refl _ _).alloc (Nat.le_refl _) _⟩

set_option maxRecDepth 100000 in
set_option maxHeartbeats 1000000 in
theorem numbers_any (u v : Value) (zs ys : List Int) (w : World) (hu : Rd w u zs) (hv : Rd w v ys) : Calls Try.prog 14 #[u, v] w fun e w' => e = .returned (.bool (decide (zs = ys))) ∧ Below w.heap.size w w' := by
  have hu' := hu
  have hv' := hv
  obtain ⟨hz, a, cap, rfl⟩ := hu.form
  obtain ⟨hy, a2, cap2, rfl⟩ := hv.form
  by_cases hl : zs.length = ys.length
  · have hl2 : ((zs.length : Int) != (ys.length : Int)) = false := by simp [hl]
    have Hl : Hid (zs.length = ys.length) := hl
    clear hl
    go_enter Try.func14, Try.ntmps14
    go_wp2
    go_loopw [5] (fun i w1 => ∃ k : Nat, k ≤ zs.length ∧ i = .int .i64 k ∧ zs.take k = ys.take k ∧ Below w.heap.size w w1) (fun i _ => zs.length - (intOf i).toNat)
    case atStart => exact ⟨0, Nat.zero_le _, rfl, rfl, Below.refl _ _⟩
    case round =>
      obtain ⟨k, hk, rfl, ht, hbel⟩ := hrel
      by_cases hlt : k < zs.length
      · have hlt2 : k < ys.length := by have := Hl.out; omega
        obtain ⟨b, off, rfl, hc⟩ := (hu'.below hbel).at k hlt
        obtain ⟨b2, off2, rfl, hc2⟩ := (hv'.below hbel).at k hlt2
        have Ht : Hid (zs.take k = ys.take k) := ht
        clear ht
        by_cases hne : zs[k] = ys[k]
        · have hne2 : (zs[k] != ys[k]) = false := by simpa using hne
          have Hn : Hid (zs.take (k + 1) = ys.take (k + 1)) := by rw [List.take_succ_eq_append_getElem hlt, List.take_succ_eq_append_getElem hlt2, Ht.out, hne]; exact rfl
          clear hne
          go_wp2
          go_quiet (fail)
          go_wp2
          go_roundw
          case rel => exact ⟨k + 1, by omega, by go_num, Hn.out, below_drewN hbel _⟩
          case measure => simp [intOf]; omega
        · have hne2 : (zs[k] != ys[k]) = true := by simpa using hne
          have Hn : Hid (decide (zs = ys) = false) := decide_eq_false (fun e => hne (by subst e; rfl))
          go_wp2
          go_quiet (fail)
          go_wp2
          go_ret
          exact ⟨ret_bool Hn.out.symm, below_drewN hbel _⟩
      · have hkk : k = zs.length := by omega
        have Hn : Hid (decide (zs = ys) = true) := decide_eq_true (by rw [List.take_of_length_le (by omega), List.take_of_length_le (by have := Hl.out; omega)] at ht; exact ht)
        clear ht
        go_wp2
        go_ret
        exact ⟨ret_bool Hn.out.symm, hbel⟩
  · have hl2 : ((zs.length : Int) != (ys.length : Int)) = true := by simp; omega
    go_enter Try.func14, Try.ntmps14
    go_wp2
    go_ret
    exact ⟨ret_bool (decide_eq_false (fun e => hl (by rw [e]))).symm, Below.refl _ _⟩

set_option maxRecDepth 100000 in
set_option maxHeartbeats 1000000 in
theorem equal_any (u v : Value) (zs ys : List Int) (w : World) (hu : Rd w u zs) (hv : Rd w v ys) : Calls Try.prog 49 #[u, v] w fun e w' => e = .returned (.bool (decide (zs = ys))) ∧ Below w.heap.size w w' := by
  have hu' := hu
  have hv' := hv
  obtain ⟨hz, a, cap, rfl⟩ := hu.form
  obtain ⟨hy, a2, cap2, rfl⟩ := hv.form
  by_cases hl : zs.length = ys.length
  · have hl2 : ((zs.length : Int) != (ys.length : Int)) = false := by simp [hl]
    have Hl : Hid (zs.length = ys.length) := hl
    clear hl
    go_enter Try.func49, Try.ntmps49
    go_wp2
    go_loopw [13] (fun i w1 => ∃ k : Nat, k ≤ zs.length ∧ i = .int .i64 k ∧ zs.take k = ys.take k ∧ Below w.heap.size w w1) (fun i _ => zs.length - (intOf i).toNat)
    case atStart => exact ⟨0, Nat.zero_le _, rfl, rfl, Below.refl _ _⟩
    case round =>
      obtain ⟨k, hk, rfl, ht, hbel⟩ := hrel
      by_cases hlt : k < zs.length
      · have hlt2 : k < ys.length := by have := Hl.out; omega
        obtain ⟨b, off, rfl, hc⟩ := (hu'.below hbel).at k hlt
        obtain ⟨b2, off2, rfl, hc2⟩ := (hv'.below hbel).at k hlt2
        have Ht : Hid (zs.take k = ys.take k) := ht
        clear ht
        by_cases hne : zs[k] = ys[k]
        · have hne2 : (zs[k] != ys[k]) = false := by simpa using hne
          have Hn : Hid (zs.take (k + 1) = ys.take (k + 1)) := by rw [List.take_succ_eq_append_getElem hlt, List.take_succ_eq_append_getElem hlt2, Ht.out, hne]; exact rfl
          clear hne
          go_wp2
          go_quiet (fail)
          go_wp2
          go_roundw
          case rel => exact ⟨k + 1, by omega, by go_num, Hn.out, below_drewN hbel _⟩
          case measure => simp [intOf]; omega
        · have hne2 : (zs[k] != ys[k]) = true := by simpa using hne
          have Hn : Hid (decide (zs = ys) = false) := decide_eq_false (fun e => hne (by subst e; rfl))
          go_wp2
          go_quiet (fail)
          go_wp2
          go_ret
          exact ⟨ret_bool Hn.out.symm, below_drewN hbel _⟩
      · have hkk : k = zs.length := by omega
        have Hn : Hid (decide (zs = ys) = true) := decide_eq_true (by rw [List.take_of_length_le (by omega), List.take_of_length_le (by have := Hl.out; omega)] at ht; exact ht)
        clear ht
        go_wp2
        go_ret
        exact ⟨ret_bool Hn.out.symm, hbel⟩
  · have hl2 : ((zs.length : Int) != (ys.length : Int)) = true := by simp; omega
    go_enter Try.func49, Try.ntmps49
    go_wp2
    go_ret
    exact ⟨ret_bool (decide_eq_false (fun e => hl (by rw [e]))).symm, Below.refl _ _⟩
end Go.Proofs.Ytbnlekheadmecaa
