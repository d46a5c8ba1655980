/- Walks of layer 10: slices.BinarySearch. -/
import Derived.Test.YtpfbnfnlbjjjoaaAllb
namespace Go.Proofs.Ytpfbnfnlbjjjoaa
open Go.RowKit
set_option linter.unusedVariables false

theorem isNaN_any (x : Int) (w : World) : Calls Try.prog 27 #[.int .i64 x] w fun e w' => e = .returned (.bool false) ∧ w' = w := by
  go_enter Try.func27, Try.ntmps27
  go_wp2
  go_ret
  exact ⟨by simp, rfl⟩
theorem isNaN2_any (x : Int) (w : World) : Calls Try.prog 24 #[.int .i64 x] w fun e w' => e = .returned (.bool false) ∧ w' = w := by
  go_enter Try.func24, Try.ntmps24
  go_wp2
  go_ret
  exact ⟨by simp, rfl⟩
theorem less_any (x y : Int) (w : World) : Calls Try.prog 23 #[.int .i64 x, .int .i64 y] w fun e w' => e = .returned (.bool (decide (x < y))) ∧ w' = w := by
  go_enter Try.func23, Try.ntmps23
  go_wp2_with (go_at_call 27; refine (isNaN_any _ _).mono ?_; rintro e w' ⟨rfl, rfl⟩)
  go_ret
  exact ⟨rfl, rfl⟩
/-- All ahead of a place stand ahead of x; all from a place on do not. -/
def Ah (zs : List Int) (x : Int) (lo hi : Nat) : Prop := (∀ (t : Nat) y, t < lo → zs[t]? = some y → y < x) ∧ (∀ (t : Nat) y, hi ≤ t → zs[t]? = some y → x ≤ y)
theorem sorted_le {zs : List Int} (h : zs.Pairwise (· < ·)) {a b : Nat} {y z : Int} (ha : zs[a]? = some y) (hb : zs[b]? = some z) (hab : a < b) : y < z := by
  obtain ⟨h1, e1⟩ := List.getElem?_eq_some_iff.1 ha
  obtain ⟨h2, e2⟩ := List.getElem?_eq_some_iff.1 hb
  have := List.pairwise_iff_getElem.1 h a b h1 h2 hab
  rwa [e1, e2] at this
theorem Ah.up {zs : List Int} {x y : Int} {lo hi m : Nat} (h : zs.Pairwise (· < ·)) (hA : Ah zs x lo hi) (hm : zs[m]? = some y) (hy : y < x) : Ah zs x (m + 1) hi := by
  refine ⟨fun t z ht hz => ?_, hA.2⟩
  by_cases e : t = m
  · subst e
    rw [hm] at hz
    cases hz
    exact hy
  · have := sorted_le h hz hm (by omega)
    omega
theorem Ah.down {zs : List Int} {x y : Int} {lo hi m : Nat} (h : zs.Pairwise (· < ·)) (hA : Ah zs x lo hi) (hm : zs[m]? = some y) (hy : ¬ y < x) : Ah zs x lo m := by
  refine ⟨hA.1, fun t z ht hz => ?_⟩
  by_cases e : t = m
  · subst e
    rw [hm] at hz
    cases hz
    omega
  · have := sorted_le h hm hz (by omega)
    omega
theorem Ah.cnt {zs : List Int} {x : Int} {i : Nat} (hA : Ah zs x i i) (hi : i ≤ zs.length) : (lows x zs).length = i := by
  have e : zs = zs.take i ++ zs.drop i := (List.take_append_drop i zs).symm
  have h1 : lows x (zs.take i) = zs.take i := by
    unfold lows
    rw [List.filter_eq_self]
    intro y hy
    obtain ⟨t, ht, e⟩ := List.mem_iff_getElem.1 hy
    rw [List.length_take] at ht
    refine decide_eq_true (hA.1 t y (by omega) ?_)
    rw [← e, List.getElem_take, List.getElem?_eq_getElem]
  have h2 : lows x (zs.drop i) = [] := by
    unfold lows
    rw [List.filter_eq_nil_iff]
    intro y hy
    obtain ⟨t, ht, e⟩ := List.mem_iff_getElem.1 hy
    rw [List.length_drop] at ht
    have := hA.2 (i + t) y (by omega) (by rw [← e, List.getElem_drop, List.getElem?_eq_getElem])
    rw [decide_eq_true_iff]
    omega
  have h3 : lows x zs = lows x (zs.take i) ++ lows x (zs.drop i) := by
    unfold lows
    rw [← List.filter_append, List.take_append_drop]
  rw [h3, h1, h2, List.append_nil, List.length_take]
  omega
theorem Ah.mem {zs : List Int} {x : Int} {i : Nat} (h : zs.Pairwise (· < ·)) (hA : Ah zs x i i) : decide (zs[i]? = some x) = decide (x ∈ zs) := by
  by_cases hx : x ∈ zs
  · rw [decide_eq_true hx, decide_eq_true_iff]
    obtain ⟨t, ht, e⟩ := List.mem_iff_getElem.1 hx
    have ht' : zs[t]? = some x := by rw [List.getElem?_eq_getElem ht, e]
    by_cases h1 : t < i
    · have := hA.1 t x h1 ht'
      omega
    · by_cases h2 : t = i
      · rw [← h2]; exact ht'
      · obtain ⟨y, hy⟩ : ∃ y, zs[i]? = some y := ⟨_, List.getElem?_eq_getElem (by omega)⟩
        have h3 := sorted_le h hy ht' (by omega)
        have h4 := hA.2 i y (Nat.le_refl _) hy
        omega
  · rw [decide_eq_false hx, decide_eq_false_iff_not]
    exact fun e => hx (List.mem_of_getElem? e)

set_option maxRecDepth 100000 in
set_option maxHeartbeats 2000000 in
theorem bs_any (v : Value) (zs : List Int) (x : Int) (w : World) (hR : Rd w v zs) : Calls Try.prog 21 #[v, .int .i64 x] w fun e w' => ∃ i : Nat, e = .returned (.tuple #[.int .i64 i, .bool (decide (zs[i]? = some x))]) ∧ i ≤ zs.length ∧ (chk zs = true → Ah zs x i i) ∧ Below w.heap.size w w' := by
  have hR' : Hid (Rd w v zs) := hR
  obtain ⟨hz, a, cap, rfl⟩ := hR.form
  clear hR
  have h0 : Hid (Ah zs x 0 zs.length) := ⟨fun t y h => absurd h (Nat.not_lt_zero _), fun t y h hy => by rw [List.getElem?_eq_none h] at hy; cases hy⟩
  go_enter Try.func21, Try.ntmps21
  go_wp2
  go_loopw [7, 8] (fun s7 s8 w1 => ∃ lo hi : Nat, s7 = .int .i64 lo ∧ s8 = .int .i64 hi ∧ lo ≤ hi ∧ hi ≤ zs.length ∧ (chk zs = true → Ah zs x lo hi) ∧ Below w.heap.size w w1) (fun s7 s8 _ => (intOf s8 - intOf s7).toNat)
  case atStart => exact ⟨0, zs.length, rfl, rfl, Nat.zero_le _, Nat.le_refl _, fun _ => h0.out, Below.refl _ _⟩
  case round =>
    obtain ⟨lo, hi, rfl, rfl, hlh, hin, hA, hbel⟩ := hrel
    have HA : Hid (chk zs = true → Ah zs x lo hi) := hA
    have HB : Hid (Below w.heap.size w wr) := hbel
    clear hA hbel
    by_cases hlt : lo < hi
    · obtain ⟨y, hy⟩ : ∃ y, zs[(lo + hi) / 2]? = some y := ⟨_, List.getElem?_eq_getElem (by omega)⟩
      obtain ⟨b, off, rfl, hcell⟩ := at_of (hR'.out.below HB.out) hy
      have HY : Hid (zs[(lo + hi) / 2]? = some y) := hy
      clear hy
      by_cases hyx : y < x
      · have hd : decide (y < x) = true := decide_eq_true hyx
        go_wp2_with (go_at_call 23; refine (less_any _ _ _).mono ?_; rintro e w' ⟨rfl, rfl⟩)
        go_roundw
        case rel => exact ⟨(lo + hi) / 2 + 1, hi, by rw [show ((lo : Int) + (hi : Int)) / 2 + 1 = (((lo + hi) / 2 + 1 : Nat) : Int) by omega], rfl, by omega, hin, fun h => (HA.out h).up (chk_iff.1 h).1 HY.out hyx, HB.out⟩
        case measure => simp [intOf]; omega
      · have hd : decide (y < x) = false := decide_eq_false hyx
        go_wp2_with (go_at_call 23; refine (less_any _ _ _).mono ?_; rintro e w' ⟨rfl, rfl⟩)
        go_roundw
        case rel => exact ⟨lo, (lo + hi) / 2, rfl, by rw [show ((lo : Int) + (hi : Int)) / 2 = (((lo + hi) / 2 : Nat) : Int) by omega], by omega, by omega, fun h => (HA.out h).down (chk_iff.1 h).1 HY.out (by omega), HB.out⟩
        case measure => simp [intOf]; omega
    · have e : hi = lo := by omega
      subst e
      by_cases hn : hi < zs.length
      · obtain ⟨y, hy⟩ : ∃ y, zs[hi]? = some y := ⟨_, List.getElem?_eq_getElem hn⟩
        obtain ⟨b, off, rfl, hcell⟩ := at_of (hR'.out.below HB.out) hy
        have F : Hid (decide (zs[hi]? = some x) = decide (y = x)) := (by show _ = _; rw [hy]; simp)
        have F2 : Hid (decide (zs[hi]? = some x) = (y == x)) := (by show _ = _; rw [F.out]; rfl)
        clear hy
        by_cases hyx : y = x
        · go_wp2_with (go_at_call 24; refine (isNaN2_any _ _).mono ?_; rintro e w' ⟨rfl, rfl⟩)
          refine bodyPost_ret (results_tmp2 Try.results21 _ _ _) rfl ?_
          exact ⟨hi, by rw [F.out, decide_eq_true hyx]; rfl, hin, HA.out, HB.out⟩
        · go_wp2_with (go_at_call 24; refine (isNaN2_any _ _).mono ?_; rintro e w' ⟨rfl, rfl⟩)
          refine bodyPost_ret (results_tmp2 Try.results21 _ _ _) rfl ?_
          exact ⟨hi, by rw [F2.out]; rfl, hin, HA.out, HB.out⟩
      · have F : Hid (decide (zs[hi]? = some x) = false) := (by show _ = _; rw [List.getElem?_eq_none (by omega)]; simp)
        go_wp2_with (go_at_call 24; refine (isNaN2_any _ _).mono ?_; rintro e w' ⟨rfl, rfl⟩)
        refine bodyPost_ret (results_tmp2 Try.results21 _ _ _) rfl ?_
        exact ⟨hi, by rw [F.out]; rfl, hin, HA.out, HB.out⟩
end Go.Proofs.Ytpfbnfnlbjjjoaa
