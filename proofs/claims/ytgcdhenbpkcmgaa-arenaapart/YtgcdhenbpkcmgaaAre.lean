/- Layer 11: what is reached of a node. -/
import Derived.Test.YtgcdhenbpkcmgaaArc
import Derived.Test.YtgcdhenbpkcmgaaArd
import Derived.Test.YtgcdhenbpkcmgaaArnum
namespace Go.Proofs.Ytgcdhenbpkcmgaa
open Go.RowKit
set_option linter.unusedVariables false

/-- A tour in a block of its own. -/
def Tb (W : World) (g : Nat) (v : Value) (b c : Nat) : Prop := W.heap[g]? = some (.cells #[v, .map (some b), .map (some c)] 79 (0, 0))
theorem Tb.lt {W : World} {g : Nat} {v : Value} {b c : Nat} (h : Tb W g v b c) : g < W.heap.size := (Array.getElem?_eq_some_iff.1 h).1
theorem Tb.belowN {W W' : World} {g n : Nat} {v : Value} {b c : Nat} (h : Tb W g v b c) (hb : Below n W W') (hg : g < n) : Tb W' g v b c := (hb.block g hg).trans h
theorem Tb.below {W W' : World} {g : Nat} {v : Value} {b c : Nat} (h : Tb W g v b c) (hb : Below W.heap.size W W') : Tb W' g v b c := h.belowN hb h.lt
theorem Tb.c {W : World} {g : Nat} {v : Value} {b c : Nat} (h : Tb W g v b c) : W.cell? ⟨g, 0, none⟩ = some v ∧ W.cell? ⟨g, 1, none⟩ = some (.map (some b)) ∧ W.cell? ⟨g, 2, none⟩ = some (.map (some c)) := by
  refine ⟨?_, ?_, ?_⟩ <;> simp [World.cell?, show W.heap[g]? = _ from h]
theorem Tb.tn {W W' : World} {b c d d' g : Nat} {v : Value} (h : Tb W g v b c) (ht : Tn d d' W W') (hb : Ma W d) (hc : Ma W d') : Tb W' g v b c := ht.cells hb hc h
theorem tb_new (W : World) (v : Value) (b c : Nat) : Tb (W.alloc (.cells #[v, .map (some b), .map (some c)] 79)) W.heap.size v b c := Go.heap_alloc_new _ _
theorem Tn.wide {b c : Nat} {w w' : World} (h : Tn b b w w') : Tn b c w w' := ⟨h.os, h.tape, h.output, h.size, fun k hk h1 _ => h.block k hk h1 h1⟩
theorem Ma.tn {W W' : World} {b c d : Nat} (h : Ma W d) (ht : Tn b c W W') (h1 : d ≠ b) (h2 : d ≠ c) : Ma W' d := by
  obtain ⟨es, ck, hb⟩ := h
  exact ⟨es, ck, (ht.block d (Array.getElem?_eq_some_iff.1 hb).1 h1 h2).trans hb⟩
theorem Ma.below {W W' : World} {d : Nat} (h : Ma W d) (hb : Below W.heap.size W W') : Ma W' d := by
  have hl := h.lt
  obtain ⟨es, ck, h2⟩ := h
  exact ⟨es, ck, (hb.block d hl).trans h2⟩
/-- What is reached of a node. -/
def rcN (n : Nd) (x : Int) : List Int := x :: ((if n.lo = 0 then [] else [n.lo]) ++ n.sl)
theorem rcN_len {n : Nd} (h : n.sl.length ≤ 13) (x : Int) : (rcN n x).length ≤ 15 := by
  unfold rcN
  split <;> simp <;> omega
theorem reach_start (w W : World) (v : Value) (b c : Nat) (lv tu nx lo : Int) (u : Value) (hW : W = (w.alloc (.cells #[v, .map (some b), .map (some c)] 79)).alloc (.cells #[.int .i64 lv, .int .i64 tu, .int .i64 nx, .int .i64 lo, u] 37)) :
    Tb W w.heap.size v b c ∧ Nb W (w.heap.size + 1) lv tu nx lo u ∧ Below w.heap.size w W := by
  subst hW
  refine ⟨(tb_new w v b c).below ((Below.refl _ _).alloc (Nat.le_refl _) _), ?_, ((Below.refl _ w).alloc (Nat.le_refl _) _).alloc (by simp) _⟩
  have := nb_new (w.alloc (.cells #[v, .map (some b), .map (some c)] 79)) lv tu nx lo u
  rw [show (w.alloc (.cells #[v, .map (some b), .map (some c)] 79)).heap.size = w.heap.size + 1 by simp] at this
  exact this

set_option maxRecDepth 100000 in
set_option maxHeartbeats 2000000 in
/-- The slots' loop, from a world in which the rest is reached. -/
theorem reach_any (v u : Value) (b c : Nat) (l : List Int) (n : Nd) (x : Int) (w : World) (hS : St w b l) (hR : Rd w u n.sl) (hl : l.length ≤ 50000) (hn : n.sl.length ≤ 13) (hlo : 0 ≤ n.lo ∧ n.lo ≤ 255) (hsl : ∀ y ∈ n.sl, 1 ≤ y ∧ y ≤ 255) (hx : 0 ≤ x ∧ x ≤ 100000)
    (va : Option Addr) (vl vc : Nat) (hv : v = .slice va vl vc) :
    Calls Try.prog 42 #[.agg #[v, .map (some b), .map (some c)], .int .i64 x, .agg #[.int .i64 n.lv, .int .i64 n.tu, .int .i64 n.nx, .int .i64 n.lo, u]] w fun e w' => e = .returned (.tuple #[]) ∧ St w' b (l ++ rcN n x) ∧ Tn b b w w' := by
  obtain ⟨lv, tu, nx, lo, sl⟩ := n
  subst hv
  dsimp only at *
  obtain ⟨hsz, a, cap, rfl⟩ := hR.form
  obtain ⟨W0, hW⟩ : ∃ W0, W0 = (w.alloc (.cells #[.slice va vl vc, .map (some b), .map (some c)] 79)).alloc (.cells #[.int .i64 lv, .int .i64 tu, .int .i64 nx, .int .i64 lo, .slice a sl.length cap] 37) := ⟨_, rfl⟩
  obtain ⟨T0, N0, B0⟩ := reach_start w W0 _ b c lv tu nx lo _ hW
  have T0 : Hid (Tb W0 w.heap.size (.slice va vl vc) b c) := T0
  have N0 : Hid (Nb W0 (w.heap.size + 1) lv tu nx lo (.slice a sl.length cap)) := N0
  have S0 : Hid (St W0 b l) := hS.below B0
  have R0 : Hid (Rd W0 (.slice a sl.length cap) sl) := hR.below B0
  have Q0 : Hid (Tn b b w W0) := Tn.of_below B0
  have HW : Hid (W0 = (w.alloc (.cells #[.slice va vl vc, .map (some b), .map (some c)] 79)).alloc (.cells #[.int .i64 lv, .int .i64 tu, .int .i64 nx, .int .i64 lo, .slice a sl.length cap] 37)) := hW
  obtain ⟨c0, c1, c2⟩ := T0.out.c
  obtain ⟨d0, d1, d2, d3, d4⟩ := N0.out.c
  rw [hW] at c1 d3
  clear c0 c2 d0 d1 d2 d4 hS hR B0 hW
  have t1 : Hid (0 = 0) := rfl
  have t2 : Hid (0 = 0) := rfl
  have Hsl : Hid (∀ y ∈ sl, 1 ≤ y ∧ y ≤ 255) := hsl
  have Hl : Hid (l.length ≤ 50000 ∧ sl.length ≤ 13) := ⟨hl, hn⟩
  have Hx : Hid (0 ≤ x ∧ x ≤ 100000) := hx
  have Hlo : Hid (0 ≤ lo ∧ lo ≤ 255) := hlo
  clear hsl hl hn hx hlo
  have Hx' : Hid (-9223372036854775808 ≤ x ∧ x < 9223372036854775808) := show _ ∧ _ by have := Hx.out; omega
  have Hlo' : Hid (-9223372036854775808 ≤ lo ∧ lo < 9223372036854775808) := show _ ∧ _ by have := Hlo.out; omega
  by_cases h0 : lo = 0
  · have hE : (lo != 0) = false := by simp [h0]
    have H0 : Hid (lo = 0) := h0
    clear h0
    go_enter Try.func42, Try.ntmps42
    go_wp2_with (first
      | (clear t1; go_at_call 41; rw [← HW.out]; refine (put_any b b _ x _ S0.out (by have := Hl.out; simp; omega) Hx'.out).mono ?_; rintro e w1 ⟨rfl, s1, tn1⟩; have S1 : Hid (St w1 b (l ++ [x])) := s1; have T1 : Hid (Tb w1 w.heap.size (.slice va vl vc) b c) := T0.out.tn tn1 S0.out.ma S0.out.ma; have N1 : Hid (Nb w1 (w.heap.size + 1) lv tu nx lo (.slice a sl.length cap)) := N0.out.tn tn1 S0.out.ma S0.out.ma; have R1 : Hid (Rd w1 (.slice a sl.length cap) sl) := R0.out.tn tn1 S0.out.ma S0.out.ma; have Q1 : Hid (Tn b b w w1) := Q0.out.trans tn1; clear c1 d3; obtain ⟨c0, c1, c2⟩ := T1.out.c; obtain ⟨d0, d1, d2, d3, d4⟩ := N1.out.c; clear c0 c2 d0 d1 d2 s1 tn1))
    go_loopw [23] (fun i wr => ∃ k : Nat, k ≤ sl.length ∧ i = .int .i64 k ∧ St wr b ((l ++ [x]) ++ sl.take k) ∧ Tn b b w1 wr) (fun i _ => sl.length - (Go.RowKit.intOf i).toNat)
    case atStart => exact ⟨0, Nat.zero_le _, rfl, by rw [List.take_zero, List.append_nil]; exact S1.out, Tn.refl _ _ _⟩
    case round =>
      obtain ⟨k, hk, rfl, s9, tn9⟩ := hrel
      have S9 : Hid (St wr b ((l ++ [x]) ++ sl.take k)) := s9
      have Q9 : Hid (Tn b b w1 wr) := tn9
      have T9 : Hid (Tb wr w.heap.size (.slice va vl vc) b c) := T1.out.tn tn9 S1.out.ma S1.out.ma
      have R9 : Rd wr (.slice a sl.length cap) sl := R1.out.tn tn9 S1.out.ma S1.out.ma
      clear s9 tn9
      by_cases hlt : k < sl.length
      · obtain ⟨e0, e1, e2⟩ := T9.out.c
        obtain ⟨b', off', rfl, hcell⟩ := R9.at k hlt
        have hy := Hsl.out _ (List.getElem_mem hlt)
        have Hk0 := List.getElem?_eq_getElem hlt
        obtain ⟨y, hyk⟩ : ∃ y, sl[k] = y := ⟨_, rfl⟩
        rw [hyk] at hcell hy Hk0
        have Hy : Hid (-9223372036854775808 ≤ y ∧ y < 9223372036854775808) := show _ ∧ _ by omega
        have Hk : Hid (sl.take (k + 1) = sl.take k ++ [y]) := show _ = _ by rw [List.take_add_one, Hk0]; rfl
        have hltI : (k : Int) < (sl.length : Int) := by omega
        have hlen : ((l ++ [x]) ++ sl.take k).length ≤ 100000 := by have := Hl.out; simp; omega
        have Hlen : Hid (((l ++ [x]) ++ sl.take k).length ≤ 100000) := hlen
        clear e0 e2 hy R9 hyk Hk0 hlen
        go_wp2_with (first
          | (go_at_call 41; refine (put_any b b _ y _ S9.out Hlen.out Hy.out).mono ?_; rintro e w3 ⟨rfl, s3, tn3⟩))
        go_roundw
        case rel => exact ⟨k + 1, by omega, by go_num, by rw [Hk.out, ← List.append_assoc]; exact s3, Q9.out.trans tn3⟩
        case measure => simp [Go.RowKit.intOf]; omega
      · have hltI : ¬ (k : Int) < (sl.length : Int) := by omega
        have Hk : Hid (sl.take k = sl) := show _ = _ from List.take_of_length_le (by omega)
        clear R9
        go_wp2
        have HS9 := S9.out
        rw [Hk.out] at HS9
        refine ⟨rfl, _, results_none rfl _ _ _, rfl, ?_, Q1.out.trans Q9.out⟩
        unfold rcN
        rw [if_pos H0.out]
        simpa using HS9
  · have hE : (lo != 0) = true := by simp [h0]
    have H0 : Hid (¬ lo = 0) := h0
    clear h0
    go_enter Try.func42, Try.ntmps42
    go_wp2_with (first
      | (clear t1; go_at_call 41; rw [← HW.out]; refine (put_any b b _ x _ S0.out (by have := Hl.out; simp; omega) Hx'.out).mono ?_; rintro e w1 ⟨rfl, s1, tn1⟩; have S1 : Hid (St w1 b (l ++ [x])) := s1; have T1 : Hid (Tb w1 w.heap.size (.slice va vl vc) b c) := T0.out.tn tn1 S0.out.ma S0.out.ma; have N1 : Hid (Nb w1 (w.heap.size + 1) lv tu nx lo (.slice a sl.length cap)) := N0.out.tn tn1 S0.out.ma S0.out.ma; have R1 : Hid (Rd w1 (.slice a sl.length cap) sl) := R0.out.tn tn1 S0.out.ma S0.out.ma; have Q1 : Hid (Tn b b w w1) := Q0.out.trans tn1; clear c1 d3; obtain ⟨c0, c1, c2⟩ := T1.out.c; obtain ⟨d0, d1, d2, d3, d4⟩ := N1.out.c; clear c0 c2 d0 d1 d2 s1 tn1)
      | (clear t2; go_at_call 41; refine (put_any b b _ lo _ S1.out (by have := Hl.out; simp; omega) Hlo'.out).mono ?_; rintro e w2 ⟨rfl, s1, tn1⟩; have S2 : Hid (St w2 b (l ++ [x] ++ [lo])) := s1; have T2 : Hid (Tb w2 w.heap.size (.slice va vl vc) b c) := T1.out.tn tn1 S1.out.ma S1.out.ma; have N2 : Hid (Nb w2 (w.heap.size + 1) lv tu nx lo (.slice a sl.length cap)) := N1.out.tn tn1 S1.out.ma S1.out.ma; have R2 : Hid (Rd w2 (.slice a sl.length cap) sl) := R1.out.tn tn1 S1.out.ma S1.out.ma; have Q2 : Hid (Tn b b w w2) := Q1.out.trans tn1; clear c1 d3; obtain ⟨c0, c1, c2⟩ := T2.out.c; obtain ⟨d0, d1, d2, d3, d4⟩ := N2.out.c; clear c0 c2 d0 d1 d2 s1 tn1))
    go_loopw [23] (fun i wr => ∃ k : Nat, k ≤ sl.length ∧ i = .int .i64 k ∧ St wr b ((l ++ [x] ++ [lo]) ++ sl.take k) ∧ Tn b b w2 wr) (fun i _ => sl.length - (Go.RowKit.intOf i).toNat)
    case atStart => exact ⟨0, Nat.zero_le _, rfl, by rw [List.take_zero, List.append_nil]; exact S2.out, Tn.refl _ _ _⟩
    case round =>
      obtain ⟨k, hk, rfl, s9, tn9⟩ := hrel
      have S9 : Hid (St wr b ((l ++ [x] ++ [lo]) ++ sl.take k)) := s9
      have Q9 : Hid (Tn b b w2 wr) := tn9
      have T9 : Hid (Tb wr w.heap.size (.slice va vl vc) b c) := T2.out.tn tn9 S2.out.ma S2.out.ma
      have R9 : Rd wr (.slice a sl.length cap) sl := R2.out.tn tn9 S2.out.ma S2.out.ma
      clear s9 tn9
      by_cases hlt : k < sl.length
      · obtain ⟨e0, e1, e2⟩ := T9.out.c
        obtain ⟨b', off', rfl, hcell⟩ := R9.at k hlt
        have hy := Hsl.out _ (List.getElem_mem hlt)
        have Hk0 := List.getElem?_eq_getElem hlt
        obtain ⟨y, hyk⟩ : ∃ y, sl[k] = y := ⟨_, rfl⟩
        rw [hyk] at hcell hy Hk0
        have Hy : Hid (-9223372036854775808 ≤ y ∧ y < 9223372036854775808) := show _ ∧ _ by omega
        have Hk : Hid (sl.take (k + 1) = sl.take k ++ [y]) := show _ = _ by rw [List.take_add_one, Hk0]; rfl
        have hltI : (k : Int) < (sl.length : Int) := by omega
        have hlen : ((l ++ [x] ++ [lo]) ++ sl.take k).length ≤ 100000 := by have := Hl.out; simp; omega
        have Hlen : Hid (((l ++ [x] ++ [lo]) ++ sl.take k).length ≤ 100000) := hlen
        clear e0 e2 hy R9 hyk Hk0 hlen
        go_wp2_with (first
          | (go_at_call 41; refine (put_any b b _ y _ S9.out Hlen.out Hy.out).mono ?_; rintro e w3 ⟨rfl, s3, tn3⟩))
        go_roundw
        case rel => exact ⟨k + 1, by omega, by go_num, by rw [Hk.out, ← List.append_assoc]; exact s3, Q9.out.trans tn3⟩
        case measure => simp [Go.RowKit.intOf]; omega
      · have hltI : ¬ (k : Int) < (sl.length : Int) := by omega
        have Hk : Hid (sl.take k = sl) := show _ = _ from List.take_of_length_le (by omega)
        clear R9
        go_wp2
        have HS9 := S9.out
        rw [Hk.out] at HS9
        refine ⟨rfl, _, results_none rfl _ _ _, rfl, ?_, Q2.out.trans Q9.out⟩
        unfold rcN
        rw [if_neg H0.out]
        simpa using HS9
end Go.Proofs.Ytgcdhenbpkcmgaa
