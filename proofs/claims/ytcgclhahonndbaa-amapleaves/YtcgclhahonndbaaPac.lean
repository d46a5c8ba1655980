/- Layer 12: pairs held against each other; whether they are short; places; Get. -/
import Derived.Test.YtcgclhahonndbaaPab
namespace Go.Proofs.Ytcgclhahonndbaa
open Go.RowKit Go.Shelf Classical
set_option linter.unusedVariables false

theorem pal {w W : World} (h : Below w.heap.size w W) (o : Obj) : Below w.heap.size w (W.alloc o) := h.alloc h.size o
theorem take_nextP {l : List Pa} {k : Nat} {x : Pa} (h : l[k]? = some x) : l.take (k + 1) = l.take k ++ [x] := by
  obtain ⟨hk, rfl⟩ := List.getElem?_eq_some_iff.1 h
  exact List.take_succ_eq_append_getElem hk
theorem neq35 (x y x' y' : ByteArray) (w : World) : (binOp .neq 35 (.agg #[.string x, .string y]) (.agg #[.string x', .string y'])).run Try.prog w = .ok (.bool (!decide (Pa.mk x y = Pa.mk x' y'))) w := by
  have u9 := Try.underlying9
  have a9 := Try.isAgg9
  have z9 := Try.sizeOf9
  have hS : Try.prog.underlying 35 = some (.struct (Try.prog.fieldsOf 35)) := by kernel_rfl
  have hp : Try.prog.stoodInHeld 35 = false := by kernel_rfl
  rw [run_neq_struct, show (10000 : Nat) = 9999 + 1 from rfl, run_equalIn_agg w 9999 35 _ _ hS hp]
  simp only [Program.fieldsOf, Try.underlying35]
  go_simp
  have tl : ∀ a b : ByteArray, (a.toList = b.toList) = (a = b) := fun a b => propext ⟨fun h => by rw [Lib.toList_data, Lib.toList_data] at h; exact Ky.ba_ext h, fun h => by rw [h]⟩
  by_cases h1 : x = x' <;> by_cases h2 : y = y' <;> simp [h1, h2, tl]

set_option maxRecDepth 100000 in
set_option maxHeartbeats 2000000 in
/-- Pairs are the same. -/
theorem sameP_any (u v : Value) (l1 l2 : List Pa) (w : World) (hu : RdP w u l1) (hv : RdP w v l2) : Calls Try.prog 13 #[u, v] w fun e w' => e = .returned (.bool (decide (l1 = l2))) ∧ Below w.heap.size w w' := by
  have hu' : Hid (RdP w u l1) := hu
  have hv' : Hid (RdP w v l2) := hv
  obtain ⟨hz, a, cap, rfl, _⟩ := hu.form
  obtain ⟨hy, a2, cap2, rfl, _⟩ := hv.form
  clear hu hv
  have q35 : ∀ (x y x' y' : ByteArray) (w : World), (binOp .neq 35 (.agg #[.string x, .string y]) (.agg #[.string x', .string y'])).run Try.prog w = .ok (.bool (!decide (Pa.mk x y = Pa.mk x' y'))) w := neq35
  by_cases hl : l1.length = l2.length
  · have hl2 : ((l1.length : Int) != (l2.length : Int)) = false := by simp [hl]
    have Hl : Hid (l1.length = l2.length) := hl
    clear hl
    go_enter Try.func13, Try.ntmps13
    go_wp2
    go_loopw [5] (fun i w1 => ∃ k : Nat, k ≤ l1.length ∧ i = .int .i64 k ∧ l1.take k = l2.take k ∧ Below w.heap.size w w1) (fun i _ => l1.length - (intOf i).toNat)
    case atStart => exact ⟨0, Nat.zero_le _, rfl, rfl, Below.refl _ _⟩
    case round =>
      obtain ⟨k, hk, rfl, ht, hbel⟩ := hrel
      have Ht : Hid (l1.take k = l2.take k) := ht
      have HB : Hid (Below w.heap.size w wr) := hbel
      clear ht hbel
      by_cases hlt : k < l1.length
      · have hltI : (k : Int) < (l1.length : Int) := by omega
        have hlt2 : k < l2.length := by have := Hl.out; omega
        have hltI2 : (k : Int) < (l2.length : Int) := by omega
        obtain ⟨x, hx⟩ : ∃ x, l1[k]? = some x := ⟨_, List.getElem?_eq_getElem hlt⟩
        obtain ⟨y, hy'⟩ : ∃ y, l2[k]? = some y := ⟨_, List.getElem?_eq_getElem hlt2⟩
        obtain ⟨b, off, rfl, x0, x1⟩ := (hu'.out.below HB.out).get hx
        obtain ⟨b2, off2, rfl, y0, y1⟩ := (hv'.out.below HB.out).get hy'
        have Hx : Hid (l1[k]? = some x) := hx
        have Hy : Hid (l2[k]? = some y) := hy'
        clear hx hy'
        obtain ⟨xk, xv⟩ := x
        obtain ⟨yk, yv⟩ := y
        dsimp only at x0 x1 y0 y1
        by_cases hne : Pa.mk xk xv = Pa.mk yk yv
        · have hd : decide (Pa.mk xk xv = Pa.mk yk yv) = true := decide_eq_true hne
          have hq : ∀ w, (binOp .neq 35 (.agg #[.string xk, .string xv]) (.agg #[.string yk, .string yv])).run Try.prog w = .ok (.bool false) w := fun w => by rw [q35, hd]; rfl
          have Hn : Hid (l1.take (k + 1) = l2.take (k + 1)) := by (show _ = _; rw [take_nextP Hx.out, take_nextP Hy.out, Ht.out, hne])
          clear hne hd q35
          go_wp2
          go_quiet (fail)
          go_wp2
          go_roundw
          case rel => exact ⟨k + 1, by omega, by go_num, Hn.out, below_drewN HB.out _⟩
          case measure => simp [intOf]; omega
        · have hd : decide (Pa.mk xk xv = Pa.mk yk yv) = false := decide_eq_false hne
          have hq : ∀ w, (binOp .neq 35 (.agg #[.string xk, .string xv]) (.agg #[.string yk, .string yv])).run Try.prog w = .ok (.bool true) w := fun w => by rw [q35, hd]; rfl
          have Hn : Hid (decide (l1 = l2) = false) := decide_eq_false (fun e => hne (by have h1 := Hx.out; have h2 := Hy.out; rw [e, h2] at h1; cases h1; rfl))
          clear hne hd q35
          go_wp2
          go_quiet (fail)
          go_wp2
          go_ret
          exact ⟨ret_bool Hn.out.symm, below_drewN HB.out _⟩
      · have hge : ¬ (k : Int) < (l1.length : Int) := by omega
        have Hn : Hid (decide (l1 = l2) = true) := decide_eq_true (by have := Ht.out; rwa [List.take_of_length_le (by omega), List.take_of_length_le (by have := Hl.out; omega)] at this)
        go_wp2
        go_ret
        exact ⟨ret_bool Hn.out.symm, HB.out⟩
  · have hl2 : ((l1.length : Int) != (l2.length : Int)) = true := by simp; omega
    go_enter Try.func13, Try.ntmps13
    go_wp2
    go_ret
    exact ⟨ret_bool (decide_eq_false (fun e => hl (by rw [e]))).symm, Below.refl _ _⟩

/-- Many pairs that come in. -/
def InP (W : World) (a : Option Addr) (n c : Nat) (l : List Pa) : Prop :=
  l.length = n ∧ n ≤ c ∧ c ≤ maxLen ∧ ((n = 0 ∧ (a = none → c = 0)) ∨ ∃ b off, a = some ⟨b, off, none⟩ ∧ b < W.heap.size ∧ ∀ k p, l[k]? = some p → W.cell? ⟨b, off + k * 2, none⟩ = some (.string p.k) ∧ W.cell? ⟨b, off + k * 2 + 1, none⟩ = some (.string p.v))
theorem InP.rd {W : World} {a : Option Addr} {n c : Nat} {l : List Pa} (h : InP W a n c l) (hl : n ≤ 1000) : RdP W (.slice a l.length c) l := by
  obtain ⟨rfl, h2, h3, h4⟩ := h
  refine ⟨pcs_length l, hl, a, c, rfl, h2, ?_⟩
  rcases h4 with h | ⟨b, off, rfl, hlt, hc⟩
  · exact .inl h
  · exact .inr ⟨b, off, rfl, hlt, pcs_all (f := fun j => W.cell? ⟨b, off + j, none⟩) (fun k p hp => by obtain ⟨c1, c2⟩ := hc k p hp; exact ⟨c1, c2⟩)⟩
theorem InP.below {W W' : World} {a : Option Addr} {n c : Nat} {l : List Pa} (h : InP W a n c l) (hb : Below W.heap.size W W') : InP W' a n c l := by
  obtain ⟨h1, h2, h3, h4⟩ := h
  refine ⟨h1, h2, h3, ?_⟩
  rcases h4 with h | ⟨b, off, rfl, hlt, hc⟩
  · exact .inl h
  · exact .inr ⟨b, off, rfl, Nat.lt_of_lt_of_le hlt hb.size, fun k p hp => ⟨(hb.cell (p := ⟨b, off + k * 2, none⟩) hlt).trans (hc k p hp).1, (hb.cell (p := ⟨b, off + k * 2 + 1, none⟩) hlt).trans (hc k p hp).2⟩⟩
/-- At most a hundred bytes each; so many. -/
def sh1 (p : Pa) : Bool := decide (p.k.size ≤ 100) && decide (p.v.size ≤ 100)
def shP (l : List Pa) (n : Int) : Bool := l.all sh1 && decide ((l.length : Int) ≤ n)
theorem sh1_yes {p : Pa} (h1 : ¬ (p.k.size : Int) > 100) (h2 : ¬ (p.v.size : Int) > 100) : sh1 p = true := by
  unfold sh1
  rw [decide_eq_true (by omega), decide_eq_true (by omega)]
  rfl
theorem sh1_no {p : Pa} (h : (p.k.size : Int) > 100 ∨ (p.v.size : Int) > 100) : sh1 p = false := by
  unfold sh1
  rcases h with h | h
  · rw [decide_eq_false (by omega)]; rfl
  · rw [decide_eq_false (p := p.v.size ≤ 100) (by omega), Bool.and_false]
theorem shP_no {l : List Pa} {k : Nat} {p : Pa} (n : Int) (hp : l[k]? = some p) (h : sh1 p = false) : shP l n = false := by
  have : l.all sh1 = false := by
    rw [List.all_eq_false]
    exact ⟨p, List.mem_of_getElem? hp, by simp [h]⟩
  unfold shP
  rw [this]
  rfl
theorem shP_yes {l : List Pa} {n : Int} (h : shP l n = true) : (l.length : Int) ≤ n ∧ ∀ p ∈ l, p.k.size ≤ 100 ∧ p.v.size ≤ 100 := by
  unfold shP at h
  rw [Bool.and_eq_true, List.all_eq_true] at h
  refine ⟨of_decide_eq_true h.2, fun p hp => ?_⟩
  have := h.1 p hp
  unfold sh1 at this
  rw [Bool.and_eq_true] at this
  exact ⟨of_decide_eq_true this.1, of_decide_eq_true this.2⟩

set_option maxRecDepth 100000 in
set_option maxHeartbeats 2000000 in
theorem short_any (a : Option Addr) (n c : Nat) (l : List Pa) (m : Int) (w : World) (hI : InP w a n c l) : Calls Try.prog 14 #[.slice a n c, .int .i64 m] w fun e w' => e = .returned (.bool (shP l m)) ∧ Below w.heap.size w w' := by
  have hI' : Hid (InP w a n c l) := hI
  obtain ⟨hn, hc, hm, h4⟩ := hI
  unfold maxLen at hm
  have Hn : Hid (l.length = n) := hn
  clear hn
  go_enter Try.func14, Try.ntmps14
  go_wp2
  go_loopw [5] (fun i w1 => ∃ k : Nat, k ≤ n ∧ i = .int .i64 k ∧ (l.take k).all sh1 = true ∧ Below w.heap.size w w1) (fun i _ => n - (intOf i).toNat)
  case atStart => exact ⟨0, Nat.zero_le _, rfl, rfl, Below.refl _ _⟩
  case round =>
    obtain ⟨k, hk, rfl, ht, hbel⟩ := hrel
    have Ht : Hid ((l.take k).all sh1 = true) := ht
    have HB : Hid (Below w.heap.size w wr) := hbel
    clear ht hbel
    by_cases hlt : k < n
    · have hltI : (k : Int) < (n : Int) := by omega
      obtain ⟨x, hx⟩ : ∃ x, l[k]? = some x := ⟨_, List.getElem?_eq_getElem (by have := Hn.out; omega)⟩
      rcases h4 with ⟨h0, _⟩ | ⟨b, off, rfl, hlt9, hce⟩
      · omega
      obtain ⟨x0, x1⟩ := hce k x hx
      have hbl := HB.out
      have x0 := (hbl.cell (p := ⟨b, off + k * 2, none⟩) hlt9).trans x0
      have x1 := (hbl.cell (p := ⟨b, off + k * 2 + 1, none⟩) hlt9).trans x1
      have Hx : Hid (l[k]? = some x) := hx
      clear hx hce hbl
      obtain ⟨xk, xv⟩ := x
      dsimp only at x0 x1
      by_cases g1 : (xk.size : Int) > 100
      · have Hs : Hid (shP l m = false) := shP_no m Hx.out (sh1_no (.inl g1))
        go_wp2
        go_ret
        exact ⟨ret_bool Hs.out.symm, HB.out⟩
      · by_cases g2 : (xv.size : Int) > 100
        · have Hs : Hid (shP l m = false) := shP_no m Hx.out (sh1_no (.inr g2))
          go_wp2
          go_ret
          exact ⟨ret_bool Hs.out.symm, HB.out⟩
        · have Hs : Hid ((l.take (k + 1)).all sh1 = true) := by
            show _ = _
            rw [take_nextP Hx.out, List.all_append, Ht.out]
            simp [sh1_yes (p := ⟨xk, xv⟩) g1 g2]
          go_wp2
          go_roundw
          case rel => exact ⟨k + 1, by omega, by go_num, Hs.out, HB.out⟩
          case measure => simp [intOf]; omega
    · have hge : ¬ (k : Int) < (n : Int) := by omega
      have Hs : Hid (shP l m = decide ((n : Int) ≤ m)) := by
        have := Ht.out
        rw [List.take_of_length_le (by have := Hn.out; omega)] at this
        show _ = _
        unfold shP
        rw [this, Hn.out]
        rfl
      clear h4
      go_wp2
      go_ret
      exact ⟨ret_bool Hs.out.symm, HB.out⟩
end Go.Proofs.Ytcgclhahonndbaa
