/- Walks of layer 3's statements: halves. -/
import Derived.Test.YtnbcpoeabgcgdaaLawc
namespace Go.Proofs.Ytnbcpoeabgcgdaa
open Go.RowKit

theorem wf_u16 {z : Int} (h : (Lit.int .u16 z).wf = true) : 0 ≤ z ∧ z < 65536 := by
  simp [Lit.wf, IntKind.min, IntKind.max, IntKind.bits, IntKind.signed] at h
  omega
theorem u64_bits (z : Int) : u64 z = (BitVec.ofInt 64 z).toNat := by
  rw [BitVec.toNat_ofInt]
  rfl
theorem u64_wrap (z : Int) : u64 (IntKind.i64.wrap z) = u64 z := by
  rw [IntKind.wrap_i64]
  unfold u64
  omega
theorem u64_nat (n : Nat) (h : n < 18446744073709551616) : u64 (n : Int) = n := by unfold u64; omega
theorem u64_xor (a b : Int) : u64 (bits .xor .i64 a b) = u64 a ^^^ u64 b := by
  show u64 (IntKind.i64.wrap ((BitVec.ofInt 64 a ^^^ BitVec.ofInt 64 b).toNat : Int)) = _
  rw [u64_wrap, BitVec.toNat_xor, ← u64_bits, ← u64_bits, u64_nat _ (Nat.xor_lt_two_pow (n := 64) (u64_lt a) (u64_lt b))]
theorem xor_bd (a b : Int) : -9223372036854775808 ≤ bits .xor .i64 a b ∧ bits .xor .i64 a b < 9223372036854775808 := by
  show -9223372036854775808 ≤ IntKind.i64.wrap ((BitVec.ofInt 64 a ^^^ BitVec.ofInt 64 b).toNat : Int) ∧ IntKind.i64.wrap ((BitVec.ofInt 64 a ^^^ BitVec.ofInt 64 b).toNat : Int) < _
  rw [IntKind.wrap_i64]
  omega

/-- A call's own row that is written at one place. -/
theorem own_set {W : World} {base : Nat} {v : Value} {n : Nat} {zs : List Int} (h : W.ownsRow base 3 1 v n (zs.map (Value.int .i64))) (hb : ∀ z ∈ zs, -9223372036854775808 ≤ z ∧ z < 9223372036854775808) (hl : zs.length ≤ 1000) (k : Nat) (hk : k < zs.length) :
    ∃ g cap, v = .slice (some ⟨g, 0, none⟩) zs.length cap ∧ base ≤ g ∧ W.cell? ⟨g, k, none⟩ = some (.int .i64 zs[k]) ∧ W.frozen? ⟨g, k, none⟩ = false ∧
      ∀ y : Int, -9223372036854775808 ≤ y ∧ y < 9223372036854775808 → Rd (W.setCell ⟨g, k, none⟩ (.int .i64 y)) v (zs.set k y) := by
  have hc := h
  have hn : zs.length = n := by simpa using h.1
  subst hn
  rcases h.2 with ⟨rfl, h0⟩ | ⟨g, cap, cur, rfl, hbg, hg, _⟩
  · omega
  · have cell : ∀ j, j < zs.length → W.cell? ⟨g, j, none⟩ = some (.int .i64 (zs[j]?.getD 0)) := by
      intro j hj
      have := hc.cells rfl j (.int .i64 (zs[j]?.getD 0)) (by simp [List.getElem?_eq_getElem hj])
      rwa [Addr.add_lit, Nat.zero_add] at this
    have hck := cell k hk
    rw [List.getElem?_eq_getElem hk] at hck
    refine ⟨g, cap, rfl, hbg, hck, by simp [World.frozen?, hg], ?_⟩
    intro y hy
    refine ⟨?_, by simpa using hl, some ⟨g, 0, none⟩, cap, by simp, .inr ⟨g, 0, rfl, by rw [Go.Deep.nblk_setCell]; exact (Array.getElem?_eq_some_iff.1 hg).1, ?_⟩⟩
    · intro z hz
      rcases List.mem_or_eq_of_mem_set hz with hz | rfl
      · exact hb z hz
      · exact hy
    · intro j hj
      rw [List.length_set] at hj
      rw [Nat.zero_add]
      by_cases e : k = j
      · subst e
        rw [World.cell?_setCell_same _ _ _ hck]
        simp [hj]
      · rw [World.cell?_setCell_other _ _ _ _ (by simp), cell j hj, List.getElem?_set_ne e]

theorem u64_high (d : Nat) (h : d < 4294967296) : u64 (wrap64 ((d : Int) * 4294967296)) = 4294967296 * d := by unfold u64 wrap64; omega
theorem halves_seen (x : List Int) (k : Nat) (hk : k < x.length) (d : Int) (h : wd 0 (u64 d) ≠ 0) : ((ofF x : Int) != (ofF (x.set k (bits .xor .i64 x[k] d)) : Int)) = true := by
  have := ofF_set x k (bits .xor .i64 x[k] d) hk (by rw [u64_xor, ← Nat.xor_assoc, Nat.xor_self, Nat.zero_xor]; exact h)
  simp
  omega

set_option maxRecDepth 100000 in
set_option maxHeartbeats 2000000 in
theorem walk_SumHalves (a1 : Option Addr) (len1 cap1 : Nat) (z1 : List Int) (at' by' : Int) (high : Bool) (w : World) (r1 : IsRow .i64 w a1 len1 cap1 z1) (fa : (Lit.int .u16 at').wf = true) (fb : (Lit.int .u32 by').wf = true) :
    Calls Try.prog 4 #[.slice a1 len1 cap1, .int .u16 at', .int .u32 by', .bool high] w fun e w' => e = .returned (.bool true) ∧ Below w.heap.size w w' := by
  have s1 := r1.small
  have ha := wf_u16 fa
  obtain ⟨d, rfl, hd⟩ := wf_u32 fb
  clear fa fb
  by_cases h0 : ((len1 : Int) == 0) = true
  · go_enter Try.func4, Try.ntmps4
    go_wp2_with (go_at_call 9; refine (awake_any _).mono ?_; rintro e w1 ⟨rfl, hb1⟩)
    go_ret
    exact ⟨rfl, hb1⟩
  · have h0 : ((len1 : Int) == 0) = false := by simpa using h0
    by_cases h1 : (len1 : Int) > 300
    · go_enter Try.func4, Try.ntmps4
      go_wp2_with (go_at_call 9; refine (awake_any _).mono ?_; rintro e w1 ⟨rfl, hb1⟩)
      go_ret
      exact ⟨rfl, hb1⟩
    · by_cases h2 : ((d : Int) == 0) = true
      · go_enter Try.func4, Try.ntmps4
        go_wp2_with (go_at_call 9; refine (awake_any _).mono ?_; rintro e w1 ⟨rfl, hb1⟩)
        go_ret
        exact ⟨rfl, hb1⟩
      · have h2 : ((d : Int) == 0) = false := by simpa using h2
        have hl0 : 0 < len1 := by simp at h0; omega
        have hd0 : d ≠ 0 := by simp at h2; omega
        have R1 := Rd.of_row r1 (by omega)
        have l1 := r1.len
        generalize z1.take len1 = x at R1 l1
        clear r1
        subst l1
        obtain ⟨k, hk⟩ : ∃ k : Nat, at' % (x.length : Int) = (k : Int) := ⟨(at' % (x.length : Int)).toNat, by have := Int.emod_nonneg at' (show (x.length : Int) ≠ 0 by omega); omega⟩
        have hkl : k < x.length := by have := Int.emod_lt_of_pos at' (show 0 < (x.length : Int) by omega); omega
        have hz : ¬ (x.length : Int) = 0 := by omega
        have t1 : Hid (0 = 0) := rfl
        cases high
        · have HN := halves_seen x k hkl (d : Int) (by rw [u64_nat _ (by omega)]; exact fun e => hd0 (wd_low hd e))
          go_enter Try.func4, Try.ntmps4
          go_wp2_with (first
            | (go_at_call 9; refine (awake_any _).mono ?_; rintro e w1 ⟨rfl, hb1⟩; have hs1 := hb1.size; have B1 := hb1.alloc hs1 (.cells #[] 3))
            | (at_builtin; refine wpList_append_rd rfl _ _ rfl w.heap.size _ 0 [] rfl (World.ownsRow_made (base := w.heap.size) (e := 3) (size := 1) w1 #[] 0 hs1 (by omega) rfl) _ x rfl (R1.below B1) (by omega) (by simp; omega) ?_; intro v2 w2 o2 g2; have B2 : Below w.heap.size w w2 := B1.grown g2 (by simp; omega) (by intro q hq; cases hq; exact hs1); obtain ⟨g, cap, rfl, hbg, hcell, hfr, hset⟩ := own_set o2 R1.1 R1.2.1 k hkl; have R3 := hset _ (xor_bd x[k] (d : Int)); have B3 := B2.setCell (p := ⟨g, k, none⟩) hbg (.int .i64 (bits .xor .i64 x[k] (d : Int))))
            | (go_at_call 14; clear t1; refine (of_any _ _ _ (R1.below B3)).mono ?_; rintro e w4 ⟨rfl, hb4⟩; have R4 := R3.below hb4)
            | (go_at_call 14; refine (of_any _ _ _ R4).mono ?_; rintro e w5 ⟨rfl, hb5⟩))
          go_ret
          exact ⟨rfl, bstep (bstep B3 hb4) hb5⟩
        · have HN := halves_seen x k hkl (wrap64 ((d : Int) * 4294967296)) (by rw [u64_high d hd]; exact fun e => hd0 (wd_high hd e))
          go_enter Try.func4, Try.ntmps4
          go_wp2_with (first
            | (go_at_call 9; refine (awake_any _).mono ?_; rintro e w1 ⟨rfl, hb1⟩; have hs1 := hb1.size; have B1 := hb1.alloc hs1 (.cells #[] 3))
            | (at_builtin; refine wpList_append_rd rfl _ _ rfl w.heap.size _ 0 [] rfl (World.ownsRow_made (base := w.heap.size) (e := 3) (size := 1) w1 #[] 0 hs1 (by omega) rfl) _ x rfl (R1.below B1) (by omega) (by simp; omega) ?_; intro v2 w2 o2 g2; have B2 : Below w.heap.size w w2 := B1.grown g2 (by simp; omega) (by intro q hq; cases hq; exact hs1); obtain ⟨g, cap, rfl, hbg, hcell, hfr, hset⟩ := own_set o2 R1.1 R1.2.1 k hkl; have R3 := hset _ (xor_bd x[k] (wrap64 ((d : Int) * 4294967296))); have B3 := B2.setCell (p := ⟨g, k, none⟩) hbg (.int .i64 (bits .xor .i64 x[k] (wrap64 ((d : Int) * 4294967296)))))
            | (go_at_call 14; clear t1; refine (of_any _ _ _ (R1.below B3)).mono ?_; rintro e w4 ⟨rfl, hb4⟩; have R4 := R3.below hb4)
            | (go_at_call 14; refine (of_any _ _ _ R4).mono ?_; rintro e w5 ⟨rfl, hb5⟩))
          go_ret
          exact ⟨rfl, bstep (bstep B3 hb4) hb5⟩
end Go.Proofs.Ytnbcpoeabgcgdaa
