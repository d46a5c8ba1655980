/- Walks of layer 2's statements: parts. -/
import Derived.Test.YtlpddphbkcifnaaLawb
namespace Go.Proofs.Ytlpddphbkcifnaa
open Go.RowKit

theorem own_below {W W' : World} {base : Nat} {e : TypeId} {size : Nat} {v : Value} {n : Nat} {xs : List Value} (h : W.ownsRow base e size v n xs) (hb : Below W.heap.size W W') : W'.ownsRow base e size v n xs := by
  refine ⟨h.1, ?_⟩
  rcases h.2 with hn | ⟨g, cap, cur, rfl, hg, hgg, rest⟩
  · exact .inl hn
  · exact .inr ⟨g, cap, cur, rfl, hg, (hb.block g (Array.getElem?_eq_some_iff.1 hgg).1).trans hgg, rest⟩
theorem own_base {W : World} {base base' : Nat} {e : TypeId} {size : Nat} {v : Value} {n : Nat} {xs : List Value} (h : W.ownsRow base e size v n xs) (hb : base' ≤ base) : W.ownsRow base' e size v n xs := by
  refine ⟨h.1, ?_⟩
  rcases h.2 with hn | ⟨g, cap, cur, rfl, hg, rest⟩
  · exact .inl hn
  · exact .inr ⟨g, cap, cur, rfl, Nat.le_trans hb hg, rest⟩

theorem own_two {W : World} {base : Nat} {v : Value} {n : Nat} {l m : List UInt8} (h : W.ownsRow base 3 1 v n ([] ++ (wsl l).map (Value.int .i64) ++ (wsl m).map (Value.int .i64))) (hl : (wsl l ++ wsl m).length ≤ 1000) : Rd W v (wsl l ++ wsl m) := by
  refine Rd.of_own (n := n) (base := base) ?_ ?_ hl
  · rw [List.map_append]; exact h
  · intro z hz
    rcases List.mem_append.1 hz with hz | hz
    · exact wsl_bd _ z hz
    · exact wsl_bd _ z hz

theorem wsl_parts (u t : List UInt8) (m : Nat) (h : u.length = 7 * m) : wsl (u ++ t) = wsl u ++ wsl t := by
  apply List.ext_getElem?
  intro i
  have hnu : nW u.length = m := by unfold nW; omega
  have hnut : nW (u ++ t).length = m + nW t.length := by unfold nW; rw [List.length_append]; omega
  by_cases h1 : i < m
  · rw [List.getElem?_append_left (by rw [wsl_length]; omega), wsl_get _ i (by omega), wsl_get _ i (by omega)]
    refine congrArg some (w7_congr _ _ 7 (fun j hj => ?_))
    unfold byt
    rw [List.getElem?_append_left (by omega)]
  · rw [List.getElem?_append_right (by rw [wsl_length]; omega), wsl_length, hnu]
    by_cases h2 : i < m + nW t.length
    · rw [wsl_get _ i (by omega), wsl_get _ (i - m) (by omega)]
      refine congrArg some (w7_congr _ _ 7 (fun j hj => ?_))
      unfold byt
      rw [List.getElem?_append_right (by omega), show 7 * i + j - u.length = 7 * (i - m) + j by omega]
    · rw [List.getElem?_eq_none (by rw [wsl_length]; omega), List.getElem?_eq_none (by rw [wsl_length]; omega)]

set_option maxRecDepth 100000 in
set_option maxHeartbeats 600000 in
theorem walk_KeyParts (s t : ByteArray) (w : World) (hs : s.size ≤ maxLen) (ht : t.size ≤ maxLen) :
    Calls Try.prog 6 #[.string s, .string t] w fun e w' => e = .returned (.bool true) ∧ Below w.heap.size w w' := by
  obtain ⟨i0, hi, hz0, hz1, hz2⟩ := info_parts Try.info3
  unfold maxLen at hs ht
  by_cases h1 : (s.size : Int) > 300
  · go_enter Try.func6, Try.ntmps6
    go_wp2_with (go_at_call 9; refine (awake_any _).mono ?_; rintro e w1 ⟨rfl, hb1⟩)
    go_ret
    exact ⟨rfl, hb1⟩
  · by_cases h2 : (t.size : Int) > 300
    · go_enter Try.func6, Try.ntmps6
      go_wp2_with (go_at_call 9; refine (awake_any _).mono ?_; rintro e w1 ⟨rfl, hb1⟩)
      go_ret
      exact ⟨rfl, hb1⟩
    · have hm0 : 0 ≤ (s.size : Int) - (s.size : Int) % 7 := by omega
      have hm1 : (s.size : Int) - (s.size : Int) % 7 ≤ (s.size : Int) := by omega
      obtain ⟨u, hu⟩ : ∃ u, s.extract 0 (s.size - s.size % 7) = u := ⟨_, rfl⟩
      have hun : u.size = 7 * (s.size / 7) := by rw [← hu]; simp; omega
      have hu7 : u.size ≤ 7000 := by omega
      have ht7 : t.size ≤ 7000 := by omega
      have hnu : nW u.size ≤ 100 := by unfold nW; omega
      have hnt : nW t.size ≤ 100 := by unfold nW; omega
      have hut7 : (u ++ t).size ≤ 7000 := by simp; omega
      have hp : wsl (u ++ t).data.toList = wsl u.data.toList ++ wsl t.data.toList := by
        rw [show (u ++ t).data.toList = u.data.toList ++ t.data.toList by simp]
        exact wsl_parts _ _ (s.size / 7) (by simpa using hun)
      have hl5 : (wsl u.data.toList ++ wsl t.data.toList).length ≤ 1000 := by rw [List.length_append, wsl_length, wsl_length]; simp; omega
      have hL : (wsl u.data.toList).length = u.size / 7 := by rw [wsl_length]; unfold nW; simp; omega
      have t1 : Hid (0 = 0) := rfl
      have t2 : Hid (0 = 0) := rfl
      have t3 : Hid (0 = 0) := rfl
      have t4 : Hid (0 = 0) := rfl
      have a1 : Hid (0 = 0) := rfl
      have a2 : Hid (0 = 0) := rfl
      go_enter Try.func6, Try.ntmps6
      go_wp2_with (first
        | (go_at_call 9; refine (awake_any _).mono ?_; rintro e w1 ⟨rfl, hb1⟩; have hs1 := hb1.size; have hE := World.ownsRow_made (base := w.heap.size) (e := 3) (size := 1) w1 #[] 0 hs1 (by omega) rfl)
        | (go_at_call 17; clear t1; refine (words_any _ _ hu7).mono ?_; rintro e w2 ⟨v2, rfl, hown2, _, hb2⟩; have hE2 := own_below hE hb2; clear hE; have hw2 := own_base hown2 (show w.heap.size ≤ _ by simp; omega); have B2 := bstep (bstep hb1 ((Below.refl _ w1).alloc (Nat.le_refl _) _)) hb2; have hs2 := B2.size)
        | (at_builtin; clear a1; refine wpList_append_two rfl _ _ 22 rfl w.heap.size w.heap.size 3 i0 (.int .i64 0) 1 8 Try.underlying22 hi hz0 hz1 hz2 rfl (by decide) _ 0 [] rfl hE2 v2 (nW u.size) _ rfl hw2 (fun x hx => by obtain ⟨y, _, rfl⟩ := List.mem_map.1 hx; rfl) (by unfold maxLen; omega) (by omega) hs2 ?_; intro v3 w3 hown3 hg3; clear hE2; have B3 : Below w.heap.size w w3 := B2.grown hg3 hs2 (by intro q hq; cases hq; exact hs1); have hs3 := B3.size)
        | (go_at_call 17; clear t2; refine (words_any _ _ ht7).mono ?_; rintro e w4 ⟨v4, rfl, hown4, _, hb4⟩; have hw3 := own_below hown3 hb4; have hw4 := own_base hown4 hs3; have B4 := bstep B3 hb4; have hs4 := B4.size)
        | (at_builtin; clear a2; refine wpList_append_two rfl _ _ 22 rfl w.heap.size w.heap.size 3 i0 (.int .i64 0) 1 8 Try.underlying22 hi hz0 hz1 hz2 rfl (by decide) v3 _ _ rfl hw3 v4 _ _ rfl hw4 (fun x hx => by obtain ⟨y, _, rfl⟩ := List.mem_map.1 hx; rfl) (by unfold maxLen; omega) (by omega) hs4 ?_; intro v5 w5 hown5 hg5; have B5 : Below w.heap.size w w5 := B4.grown hg5 hs4 (fun q hq => (hw3.lt q hq).1); have hr5 := own_two hown5 hl5)
        | (go_at_call 17; clear t3; refine (words_any _ _ hut7).mono ?_; rintro e w6 ⟨v6, rfl, _, hr6, hb6⟩; have hr6' := hr5.below hb6)
        | (go_at_call 16; refine (numbers_any _ _ _ _ _ hr6 hr6').mono ?_; rw [decide_eq_true hp]; rintro e w7 ⟨rfl, hb7⟩)
        | (go_at_call 17; clear t4; refine (words_any _ _ hu7).mono ?_; rintro e w8 ⟨v8, rfl, _, hr8, hb8⟩; obtain ⟨_, _, a8, c8, rfl, _⟩ := hr8))
      go_ret
      exact ⟨rfl, bstep (bstep (bstep B5 hb6) hb7) hb8⟩
end Go.Proofs.Ytlpddphbkcifnaa
