/- Walks of layer 3's statements: turns. -/
import Derived.Test.YtnbcpoeabgcgdaaLawd
import Derived.Deep.AppendLies
import Derived.Deep.RegionLaw
namespace Go.Proofs.Ytnbcpoeabgcgdaa
open Go.RowKit

theorem xor_small (m n : Nat) (hm : m < 4294967296) (hn : n < 4294967296) : bits .xor .i64 (m : Int) (n : Int) = ((m ^^^ n : Nat) : Int) := by
  have hx : m ^^^ n < 4294967296 := Nat.xor_lt_two_pow (n := 32) hm hn
  show IntKind.i64.wrap ((BitVec.ofInt 64 (m : Int) ^^^ BitVec.ofInt 64 (n : Int)).toNat : Int) = _
  rw [BitVec.toNat_xor, ofInt_u64 _ (by omega), ofInt_u64 _ (by omega), IntKind.wrap_i64]
  omega
/-- A row of ints of the call's own. -/
def OwnI (W : World) (base : Nat) (v : Value) (n : Nat) (xs : List Value) : Prop := W.ownsRow base 3 1 v n xs
theorem OwnI.out {W : World} {base : Nat} {v : Value} {n : Nat} {xs : List Value} (h : OwnI W base v n xs) : W.ownsRow base 3 1 v n xs := h
/-- Two rows lie apart. -/
def Apart (v u : Value) : Prop := ∀ g, v.ownBlock = some g → u.ownBlock ≠ some g
theorem Apart.symm {v u : Value} (h : Apart v u) : Apart u v := fun g h1 h2 => h g h2 h1
theorem Apart.kept {v u : Value} (h : Apart v u) : u.ownBlock = none ∨ u.ownBlock ≠ v.ownBlock := by
  cases hu : u.ownBlock with
  | none => exact .inl rfl
  | some g => exact .inr fun e => h g e.symm hu

/-- One number, just laid, appended to a row of the call's own, as a step of a region that draws. -/
theorem step_one {ops : Array Oper} {o : Oper} {a : Act} {W w0 : World} {K : Act → World → Prop} {Q : Exit → Act → World → Prop} {E : Prop} (hgd : o.guard = none) (s x : Operand)
    (ho : o.op = .call { callee := .builtin .append, args := #[s, x], argTypes := #[23, 23] }) (base : Nat) (v : Value) (n : Nat) (xs : List Value) (z : Int)
    (hown : w0.ownsRow base 3 1 v n xs) (hn : n ≤ 100000) (hbase : base ≤ w0.heap.size)
    (hW : W = (w0.alloc (.cells #[.int .i64 z] 3)).drew) (hs : a.eval s = v) (hx : a.eval x = .slice (some ⟨w0.heap.size, 0, none⟩) 1 1)
    (h : ∀ g cap w', w'.ownsRow base 3 1 (.slice (some ⟨g, 0, none⟩) (n + 1) cap) (n + 1) (xs ++ [.int .i64 z]) → w0.grownBy w' v.ownBlock → (v.ownBlock = some g ∨ w0.heap.size ≤ g) → g < w'.heap.size → K (a.put o.dst (.slice (some ⟨g, 0, none⟩) (n + 1) cap)) w') :
    if Region.wanted o (yielded ops a.tmps) = true then Oper.wp Try.prog o a W K Q else E := by
  obtain ⟨i0, hi, hz0, hz1, hz2⟩ := info_parts Try.info3
  subst hW
  refine step_append_lies _ hgd s x 23 ho base 3 i0 (.int .i64 0) 1 8 Try.underlying23 hi hz0 hz1 hz2 rfl (by decide) v n xs hs (hown.alloc _) ⟨w0.heap.size, 0, none⟩ 1 1 [.int .i64 z] hx rfl (cell_one_new w0 _ 3) (by simp [Value.oneCell']) (by omega) (by unfold maxLen; omega) (by omega) (by simp; omega) (w0.heap.size + 1) (by simp) ?_
  intro g cap w' h1 h2 h3 h4
  refine h g cap w' h1 ⟨h2.os, h2.tape, h2.output, ?_, fun j hj hne => (h2.block j (by simp; omega) hne).trans (Below.heap_alloc w0 _ j hj)⟩ (h3.imp id (by omega)) h4
  have := h2.size
  simp at this
  omega

theorem apart_next {w0 : World} {base : Nat} {v u : Value} {n l cap : Nat} {xs : List Value} {g : Nat} (h : Apart v u) (hu : w0.ownsRow base 3 1 u n xs) (hat : v.ownBlock = some g ∨ w0.heap.size ≤ g) : Apart (.slice (some ⟨g, 0, none⟩) l cap) u := by
  intro g' h1 h2
  have e : g = g' := by simpa [Value.ownBlock] using h1
  subst e
  rcases hat with hat | hat
  · exact h g hat h2
  · have := (hu.lt g h2).2
    omega
theorem Rd.here {W : World} {b off n cap : Nat} {zs : List Int} (h : Rd W (.slice (some ⟨b, off, none⟩) n cap) zs) (k : Nat) (hk : k < zs.length) : W.cell? ⟨b, off + k, none⟩ = some (.int .i64 (zs[k]?.getD 0)) := by
  obtain ⟨b', off', e, hc⟩ := h.at k hk
  cases e
  exact hc
theorem zip_next (x m : List Int) (k : Nat) (p r : Int) (hx : k < x.length) (hm : k < m.length) (hp : x[k]?.getD 0 = p) (hr : m[k]?.getD 0 = r) :
    (List.zipWith (bits .xor .i64) (x.take (k + 1)) (m.take (k + 1))).map (Value.int .i64) = (List.zipWith (bits .xor .i64) (x.take k) (m.take k)).map (Value.int .i64) ++ [.int .i64 (bits .xor .i64 p r)] := by
  rw [List.getElem?_eq_getElem hx] at hp
  rw [List.getElem?_eq_getElem hm] at hr
  have hp : x[k] = p := hp
  have hr : m[k] = r := hr
  rw [List.take_succ_eq_append_getElem hx, List.take_succ_eq_append_getElem hm, List.zipWith_append (by simp; omega), hp, hr]
  simp

theorem own_zip {W : World} {base : Nat} {v : Value} {n : Nat} {x m : List Int} (h : W.ownsRow base 3 1 v n ((List.zipWith (bits .xor .i64) x m).map (Value.int .i64))) (hl : (List.zipWith (bits .xor .i64) x m).length ≤ 1000) : Rd W v (List.zipWith (bits .xor .i64) x m) := by
  refine Rd.of_own h ?_ hl
  intro z hz
  obtain ⟨j, hj, rfl⟩ := List.getElem_of_mem hz
  rw [List.getElem_zipWith]
  exact xor_bd _ _
theorem turns_alike (x y m : List Int) (k : Nat) (hx : x.length = k) (hy : y.length = k) (hm : m.length = k) :
    (bits .xor .i64 (ofF x : Int) (ofF (List.zipWith (bits .xor .i64) (x.take k) (m.take k)) : Int) == bits .xor .i64 (ofF y : Int) (ofF (List.zipWith (bits .xor .i64) (y.take k) (m.take k)) : Int)) = true := by
  rw [List.take_of_length_le (l := x) (by omega), List.take_of_length_le (l := y) (by omega), List.take_of_length_le (l := m) (by omega), xor_small _ _ (ofF_lt _) (ofF_lt _), xor_small _ _ (ofF_lt _) (ofF_lt _), ofF_turns _ u64_xor x y m (by omega) (by omega)]
  exact beq_self_eq_true _

set_option maxRecDepth 100000 in
set_option maxHeartbeats 2000000 in
theorem walk_SumTurns (a1 : Option Addr) (len1 cap1 : Nat) (z1 : List Int) (a2 : Option Addr) (len2 cap2 : Nat) (z2 : List Int) (a3 : Option Addr) (len3 cap3 : Nat) (z3 : List Int) (w : World) (r1 : IsRow .i64 w a1 len1 cap1 z1) (r2 : IsRow .i64 w a2 len2 cap2 z2) (r3 : IsRow .i64 w a3 len3 cap3 z3) :
    Calls Try.prog 5 #[.slice a1 len1 cap1, .slice a2 len2 cap2, .slice a3 len3 cap3] w fun e w' => e = .returned (.bool true) ∧ Below w.heap.size w w' := by
  have s1 := r1.small
  have s2 := r2.small
  have s3 := r3.small
  by_cases h1 : (len1 : Int) > 100
  · go_enter Try.func5, Try.ntmps5
    go_wp2_with (go_at_call 9; refine (awake_any _).mono ?_; rintro e w1 ⟨rfl, hb1⟩)
    go_ret
    exact ⟨rfl, hb1⟩
  · by_cases h2 : len1 = len2
    · by_cases h3 : len1 = len3
      · subst h2
        subst h3
        have R1 := Rd.of_row r1 (by omega)
        have R2 := Rd.of_row r2 (by omega)
        have R3 := Rd.of_row r3 (by omega)
        have l1 := r1.len
        have l2 := r2.len
        have l3 := r3.len
        generalize z1.take len1 = x at R1 l1
        generalize z2.take len1 = y at R2 l2
        generalize z3.take len1 = m at R3 l3
        clear r1 r2 r3
        have d1 : decide ((100 : Int) < (len1 : Int)) = false := decide_eq_false (by omega)
        have d2 : ((len1 : Int) != (len1 : Int)) = false := by simp
        have g1 : len1 ≤ 100 := by omega
        obtain ⟨i0, hi, hz0, hz1, hz2⟩ := info_parts Try.info3
        go_enter Try.func5, Try.ntmps5
        go_wp2_with (go_at_call 9; refine (awake_any _).mono ?_; rintro e w1 ⟨rfl, hb1⟩)
        go_loopw [8, 9, 10] (fun t8 t9 i w3 => ∃ k : Nat, k ≤ len1 ∧ i = .int .i64 k ∧ w3.ownsRow w.heap.size 3 1 t8 k ((List.zipWith (bits .xor .i64) (x.take k) (m.take k)).map (Value.int .i64)) ∧ w3.ownsRow w.heap.size 3 1 t9 k ((List.zipWith (bits .xor .i64) (y.take k) (m.take k)).map (Value.int .i64)) ∧ Apart t8 t9 ∧ Below w.heap.size w w3) (fun _ _ i _ => len1 - (intOf i).toNat)
        case atStart => exact ⟨0, by omega, rfl, World.ownsRow_nil _ _ _ _, World.ownsRow_nil _ _ _ _, (fun g h => by cases h), hb1⟩
        case round =>
          obtain ⟨k, hk, rfl, o8, o9, hap, B3⟩ := hrel
          by_cases hlt : k < len1
          · have hltI : (k : Int) < (len1 : Int) := by omega
            obtain ⟨b1, off1, rfl, c1⟩ := (R1.below B3).at k (by omega)
            obtain ⟨b2, off2, rfl, c2⟩ := (R2.below B3).at k (by omega)
            obtain ⟨b3, off3, rfl, c3⟩ := (R3.below B3).at k (by omega)
            have O8 : OwnI wr w.heap.size u8 k _ := o8
            have O9 : OwnI wr w.heap.size u9 k _ := o9
            have HA : Hid (Apart u8 u9) := hap
            clear o8 o9 hap
            generalize hp : x[k]?.getD 0 = p at c1
            generalize hq : y[k]?.getD 0 = q at c2
            generalize hr : m[k]?.getD 0 = r at c3
            go_wp2
            have hS3 := B3.size
            have hk5 : k ≤ 100000 := by omega
            go_region_law (refine step_one rfl (.tmp 36) (.tmp 46) rfl w.heap.size u8 k _ (bits .xor .i64 p r) O8.out hk5 hS3 rfl rfl rfl ?_; intro g cap w4 o4 g4 at4 lt4)
            all_goals
              have B4 : Below w.heap.size w w4 := B3.grown g4 hS3 (fun q hq => (O8.out.lt q hq).1)
              have N9 : OwnI w4 w.heap.size u9 k _ := O9.out.kept g4 HA.out.kept
              have NA : Hid (Apart (.slice (some ⟨g, 0, none⟩) (k + 1) cap) u9) := apart_next HA.out O9.out at4
              have O4 : OwnI w4 w.heap.size (.slice (some ⟨g, 0, none⟩) (k + 1) cap) (k + 1) _ := o4
              have c2' := (R2.below B4).here k (by omega)
              have c3' := (R3.below B4).here k (by omega)
              rw [hq] at c2'
              rw [hr] at c3'
              have hS4 := B4.size
              clear o4 g4 at4 lt4 O8 O9 HA c1 c2 c3 B3 hS3
              go_wp2
              go_region_law (refine step_one rfl (.tmp 48) (.tmp 58) rfl w.heap.size u9 k _ (bits .xor .i64 q r) N9.out hk5 hS4 rfl rfl rfl ?_; intro g' cap' w5 o5 g5 at5 lt5)
              all_goals
                have B5 : Below w.heap.size w w5 := B4.grown g5 hS4 (fun q hq => (N9.out.lt q hq).1)
                have M8 : OwnI w5 w.heap.size (.slice (some ⟨g, 0, none⟩) (k + 1) cap) (k + 1) _ := O4.out.kept g5 NA.out.symm.kept
                have MA : Hid (Apart (.slice (some ⟨g, 0, none⟩) (k + 1) cap) (.slice (some ⟨g', 0, none⟩) (k + 1) cap')) := (apart_next NA.out.symm O4.out at5).symm
                have M9 : OwnI w5 w.heap.size (.slice (some ⟨g', 0, none⟩) (k + 1) cap') (k + 1) _ := o5
                clear o5 g5 at5 lt5 O4 N9 NA c2' c3' B4 hS4
                go_wp2
                go_roundw
                case rel => exact ⟨k + 1, by omega, by go_num, by rw [zip_next x m k p r (by omega) (by omega) hp hr]; exact M8.out, by rw [zip_next y m k q r (by omega) (by omega) hq hr]; exact M9.out, MA.out, B5⟩
                case measure => simp [intOf]; omega
          · have hkl : k = len1 := by omega
            have X := own_zip o8 (by simp; omega)
            have Y := own_zip o9 (by simp; omega)
            have HT := turns_alike x y m k (by omega) (by omega) (by omega)
            generalize List.zipWith (bits .xor .i64) (x.take k) (m.take k) = p at X HT
            generalize List.zipWith (bits .xor .i64) (y.take k) (m.take k) = q at Y HT
            clear o8 o9 hap
            have t1 : Hid (0 = 0) := rfl
            have t2 : Hid (0 = 0) := rfl
            have t3 : Hid (0 = 0) := rfl
            go_wp2_with (first
              | (go_at_call 14; clear t1; refine (of_any _ _ _ (R1.below B3)).mono ?_; rintro e w4 ⟨rfl, hb4⟩)
              | (go_at_call 14; clear t2; refine (of_any _ _ _ (X.below hb4)).mono ?_; rintro e w5 ⟨rfl, hb5⟩)
              | (go_at_call 14; clear t3; refine (of_any _ _ _ (R2.below (bstep (bstep B3 hb4) hb5))).mono ?_; rintro e w6 ⟨rfl, hb6⟩)
              | (go_at_call 14; refine (of_any _ _ _ (Y.below (bstep (bstep hb4 hb5) hb6))).mono ?_; rintro e w7 ⟨rfl, hb7⟩))
            go_ret
            exact ⟨rfl, bstep (bstep (bstep (bstep B3 hb4) hb5) hb6) hb7⟩
      · subst h2
        have e3 : ((len1 : Int) != (len3 : Int)) = true := by simp; omega
        have e2 : ((len1 : Int) != (len1 : Int)) = false := by simp
        go_enter Try.func5, Try.ntmps5
        go_wp2_with (go_at_call 9; refine (awake_any _).mono ?_; rintro e w1 ⟨rfl, hb1⟩)
        go_ret
        exact ⟨rfl, hb1⟩
    · have e2 : ((len1 : Int) != (len2 : Int)) = true := by simp; omega
      go_enter Try.func5, Try.ntmps5
      go_wp2_with (go_at_call 9; refine (awake_any _).mono ?_; rintro e w1 ⟨rfl, hb1⟩)
      go_ret
      exact ⟨rfl, hb1⟩
end Go.Proofs.Ytnbcpoeabgcgdaa
