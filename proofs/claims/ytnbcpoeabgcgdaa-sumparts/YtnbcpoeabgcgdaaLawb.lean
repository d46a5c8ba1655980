/- Walks of layer 3's statements: the same words behind. -/
import Derived.Test.YtnbcpoeabgcgdaaLawa
namespace Go.Proofs.Ytnbcpoeabgcgdaa
open Go.RowKit

theorem Try.info3 : (Try.prog.info? 3).map (fun i => (i.zero, i.size, i.bytes)) = some (some (.int .i64 0), 1, 8) := by kernel_rfl

/-- 'append(s, x...)': a row of the call's own, and a slice that is read. -/
theorem wpList_append_rd {w : World} {ops : Array Oper} {rest : List Oper} {o : Oper} {a : Act} {Q : Exit → Act → World → Prop} (hgd : o.guard = none) (s x : Operand)
    (ho : o.op = .call { callee := .builtin .append, args := #[s, x], argTypes := #[23, 23] }) (base : Nat)
    (v : Value) (n : Nat) (xs : List Value) (hs : a.eval s = v) (hown : w.ownsRow base 3 1 v n xs)
    (v2 : Value) (zs : List Int) (hx : a.eval x = v2) (hR : Rd w v2 zs) (hn : n ≤ 100000) (hbase : base ≤ w.heap.size)
    (h : ∀ v' w', w'.ownsRow base 3 1 v' (n + zs.length) (xs ++ zs.map (Value.int .i64)) → w.grownBy w' v.ownBlock → wpList Try.prog ops Q rest (a.put o.dst v') w') : wpList Try.prog ops Q (o :: rest) a w := by
  obtain ⟨i0, hi, hz0, hz1, hz2⟩ := info_parts Try.info3
  obtain ⟨_, hl, ad, cap, rfl, h3⟩ := hR
  have h1 : ∀ u ∈ zs.map (Value.int .i64), u.oneCell' = true := fun u hu => by obtain ⟨y, _, rfl⟩ := List.mem_map.1 hu; rfl
  rcases h3 with ⟨rfl, hcap⟩ | ⟨b, off, rfl, _, hc⟩
  · cases ad with
    | none =>
      rw [hcap rfl] at hx
      exact wpList_append_own_none hgd s x 23 ho base 3 i0 1 Try.underlying23 hi v n xs hs hown hx (h v w (by simpa using hown) (World.grownBy.refl w _))
    | some p =>
      exact wpList_append_own w hgd s x 23 ho base 3 i0 (.int .i64 0) 1 8 Try.underlying23 hi hz0 hz1 hz2 rfl (by decide) v n xs hs hown p _ cap ([].map (Value.int .i64)) hx (by simp) (by intro j u hu; simp at hu) h1 (by unfold maxLen; simp; omega) (by simp; omega) hbase fun v' w' r1 r2 _ => h v' w' r1 r2
  · exact wpList_append_own w hgd s x 23 ho base 3 i0 (.int .i64 0) 1 8 Try.underlying23 hi hz0 hz1 hz2 rfl (by decide) v n xs hs hown ⟨b, off, none⟩ _ cap (zs.map (Value.int .i64)) hx (by simp) (by
      intro j u hu
      rw [List.getElem?_map] at hu
      obtain ⟨y, hy, rfl⟩ := Option.map_eq_some_iff.1 hu
      have hj : j < zs.length := (List.getElem?_eq_some_iff.1 hy).1
      rw [Addr.add_lit, hc j hj, hy]
      rfl) h1 (by unfold maxLen; omega) (by omega) hbase fun v' w' r1 r2 _ => h v' w' r1 r2

theorem own_below {W W' : World} {base : Nat} {e : TypeId} {size : Nat} {v : Value} {n : Nat} {xs : List Value} (h : W.ownsRow base e size v n xs) (hb : Below W.heap.size W W') : W'.ownsRow base e size v n xs := by
  refine ⟨h.1, ?_⟩
  rcases h.2 with hn | ⟨g, cap, cur, rfl, hg, hgg, rest⟩
  · exact .inl hn
  · exact .inr ⟨g, cap, cur, rfl, hg, (hb.block g (Array.getElem?_eq_some_iff.1 hgg).1).trans hgg, rest⟩
/-- What a call's own row holds is read. -/
theorem Rd.of_own {W : World} {base : Nat} {v : Value} {n : Nat} {zs : List Int} (h : W.ownsRow base 3 1 v n (zs.map (Value.int .i64))) (hb : ∀ z ∈ zs, -9223372036854775808 ≤ z ∧ z < 9223372036854775808) (hl : zs.length ≤ 1000) : Rd W v zs := by
  have hc := h
  have hn : zs.length = n := by simpa using h.1
  subst hn
  refine ⟨hb, hl, ?_⟩
  rcases h.2 with ⟨rfl, h0⟩ | ⟨g, cap, cur, rfl, _, hg, _⟩
  · have e : zs = [] := List.eq_nil_of_length_eq_zero h0
    subst e
    exact ⟨none, 0, rfl, .inl ⟨rfl, fun _ => rfl⟩⟩
  · refine ⟨some ⟨g, 0, none⟩, cap, rfl, .inr ⟨g, 0, rfl, (Array.getElem?_eq_some_iff.1 hg).1, ?_⟩⟩
    intro j hj
    have := hc.cells rfl j (.int .i64 (zs[j]?.getD 0)) (by simp [List.getElem?_eq_getElem hj])
    rwa [Addr.add_lit] at this
theorem own_two {W : World} {base : Nat} {v : Value} {n : Nat} {l m : List Int} (h : W.ownsRow base 3 1 v n ([] ++ l.map (Value.int .i64) ++ m.map (Value.int .i64))) (hl : ∀ z ∈ l, -9223372036854775808 ≤ z ∧ z < 9223372036854775808) (hm : ∀ z ∈ m, -9223372036854775808 ≤ z ∧ z < 9223372036854775808) (hlm : (l ++ m).length ≤ 1000) : Rd W v (l ++ m) := by
  refine Rd.of_own (n := n) (base := base) ?_ ?_ hlm
  · rw [List.map_append]; exact h
  · intro z hz
    rcases List.mem_append.1 hz with hz | hz
    · exact hl z hz
    · exact hm z hz

set_option maxRecDepth 100000 in
set_option maxHeartbeats 2000000 in
theorem walk_SumMore (a1 : Option Addr) (len1 cap1 : Nat) (z1 : List Int) (a2 : Option Addr) (len2 cap2 : Nat) (z2 : List Int) (a3 : Option Addr) (len3 cap3 : Nat) (z3 : List Int) (w : World) (r1 : IsRow .i64 w a1 len1 cap1 z1) (r2 : IsRow .i64 w a2 len2 cap2 z2) (r3 : IsRow .i64 w a3 len3 cap3 z3) :
    Calls Try.prog 8 #[.slice a1 len1 cap1, .slice a2 len2 cap2, .slice a3 len3 cap3] w fun e w' => e = .returned (.bool true) ∧ Below w.heap.size w w' := by
  have s1 := r1.small
  have s2 := r2.small
  have s3 := r3.small
  by_cases h1 : (len1 : Int) > 100
  · go_enter Try.func8, Try.ntmps8
    go_wp2_with (go_at_call 9; refine (awake_any _).mono ?_; rintro e w1 ⟨rfl, hb1⟩)
    go_ret
    exact ⟨rfl, hb1⟩
  · by_cases h2 : (len2 : Int) > 100
    · go_enter Try.func8, Try.ntmps8
      go_wp2_with (go_at_call 9; refine (awake_any _).mono ?_; rintro e w1 ⟨rfl, hb1⟩)
      go_ret
      exact ⟨rfl, hb1⟩
    · by_cases h3 : (len3 : Int) > 100
      · go_enter Try.func8, Try.ntmps8
        go_wp2_with (go_at_call 9; refine (awake_any _).mono ?_; rintro e w1 ⟨rfl, hb1⟩)
        go_ret
        exact ⟨rfl, hb1⟩
      · have R1 := Rd.of_row r1 (by omega)
        have R2 := Rd.of_row r2 (by omega)
        have R3 := Rd.of_row r3 (by omega)
        have l1 := r1.len
        have l2 := r2.len
        have l3 := r3.len
        generalize z1.take len1 = x at R1 l1
        generalize z2.take len2 = y at R2 l2
        generalize z3.take len3 = m at R3 l3
        clear r1 r2 r3
        obtain ⟨p, q1⟩ : ∃ p, decide (ofF x = ofF y) = p := ⟨_, rfl⟩
        have e1 : ((ofF x : Int) == (ofF y : Int)) = p := by rw [eq_nat]; exact q1
        have e2 : ((ofF (x ++ m) : Int) == (ofF (y ++ m) : Int)) = p := by rw [eq_nat, ← q1, decide_eq_decide]; exact ofF_more x y m
        clear q1
        have t1 : Hid (0 = 0) := rfl
        have t2 : Hid (0 = 0) := rfl
        have t3 : Hid (0 = 0) := rfl
        have t4 : Hid (0 = 0) := rfl
        have c1 : Hid (0 = 0) := rfl
        have c2 : Hid (0 = 0) := rfl
        have c3 : Hid (0 = 0) := rfl
        have c4 : Hid (0 = 0) := rfl
        go_enter Try.func8, Try.ntmps8
        go_wp2_with (first
          | (go_at_call 9; refine (awake_any _).mono ?_; rintro e w1 ⟨rfl, hb1⟩; have hs1 := hb1.size; have B1 := hb1.alloc hs1 (.cells #[] 3); have hE := World.ownsRow_made (base := w.heap.size) (e := 3) (size := 1) w1 #[] 0 hs1 (by omega) rfl; have hS1 := B1.size)
          | (at_builtin; clear t1; refine wpList_append_rd rfl _ _ rfl w.heap.size _ 0 [] rfl hE _ x rfl (R1.below B1) (by omega) hS1 ?_; intro v2 w2 o2 g2; clear hE; have B2 : Below w.heap.size w w2 := B1.grown g2 hS1 (by intro q hq; cases hq; exact hs1); have hS2 := B2.size)
          | (at_builtin; clear t2; refine wpList_append_rd rfl _ _ rfl w.heap.size _ _ _ rfl o2 _ m rfl (R3.below B2) (by omega) hS2 ?_; intro v3 w3 o3 g3; have B3 : Below w.heap.size w w3 := B2.grown g3 hS2 (fun q hq => (o2.lt q hq).1); have X3 := own_two o3 R1.1 R3.1 (by simp; omega); have C4 := (Below.refl _ w3).alloc (Nat.le_refl _) (.cells #[] 3))
          | (at_builtin; clear t3; refine wpList_append_rd rfl _ _ rfl w3.heap.size _ 0 [] rfl (World.ownsRow_made (base := w3.heap.size) (e := 3) (size := 1) w3 #[] 0 (Nat.le_refl _) (by omega) rfl) _ y rfl (R2.below (bstep B3 C4)) (by omega) (by simp) ?_; intro v5 w5 o5 g5; have C5 : Below w3.heap.size w3 w5 := C4.grown g5 (by simp) (by intro q hq; cases hq; exact Nat.le_refl _))
          | (at_builtin; clear t4; refine wpList_append_rd rfl _ _ rfl w3.heap.size _ _ _ rfl o5 _ m rfl (R3.below (bstep B3 C5)) (by omega) C5.size ?_; intro v6 w6 o6 g6; have C6 : Below w3.heap.size w3 w6 := C5.grown g6 C5.size (fun q hq => (o5.lt q hq).1); have X6 := X3.below C6; have Y6 := own_two o6 R2.1 R3.1 (by simp; omega); have B6 := bstep B3 C6)
          | (go_at_call 14; clear c1; refine (of_any _ _ _ (R1.below B6)).mono ?_; rintro e w7 ⟨rfl, hb7⟩)
          | (go_at_call 14; clear c2; refine (of_any _ _ _ (R2.below (bstep B6 hb7))).mono ?_; rintro e w8 ⟨rfl, hb8⟩)
          | (go_at_call 14; clear c3; refine (of_any _ _ _ (X6.below (bstep hb7 hb8))).mono ?_; rintro e w9 ⟨rfl, hb9⟩)
          | (go_at_call 14; clear c4; refine (of_any _ _ _ (Y6.below (bstep (bstep hb7 hb8) hb9))).mono ?_; rintro e w10 ⟨rfl, hb10⟩))
        go_ret
        exact ⟨rfl, bstep (bstep (bstep (bstep B6 hb7) hb8) hb9) hb10⟩
end Go.Proofs.Ytnbcpoeabgcgdaa
