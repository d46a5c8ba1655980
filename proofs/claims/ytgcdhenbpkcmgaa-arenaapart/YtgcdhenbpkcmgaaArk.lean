/- Layer 11: the nodes above the leaves. -/
import Derived.Test.YtgcdhenbpkcmgaaArf
namespace Go.Proofs.Ytgcdhenbpkcmgaa
open Go.RowKit Go.Shelf
set_option linter.unusedVariables false

theorem blk_bd {zs : List Int} {y : Int} (hB : rdB zs = true) (h : rnE zs y = 0) : 0 ≤ y ∧ y ≤ 255 := by
  have h1 : mbB (nbI zs) (rtI zs) = true := by
    unfold rdB at hB
    simp only [Bool.and_eq_true] at hB
    exact hB.1
  have h2 := (mbB_iff.1 h1).2.1
  have h3 := rnK_iff.1 (rn_may h).1
  unfold nbI at h2
  omega
theorem rc_may {zs : List Int} {y : Int} (h : RrdE zs y = 0) : OkR (rdX zs y) := by
  unfold RrdE at h
  split at h
  · rename_i h1
    split at h
    · rename_i h2
      unfold rdX
      rw [h1, h2]
      exact (isR_iff.1 h2).1
    · omega
  · omega
/-- What a way through nodes above the leaves leaves: behind what was reached, and gone through. -/
structure DS (zs : List Int) (b c : Nat) (w W : World) (lR lT lR2 lT2 : List Int) : Prop where
  sR : St W b (lR ++ lR2)
  sT : St W c (lT ++ lT2)
  nd : (lT ++ lT2).Nodup
  ok : ∀ y ∈ lT ++ lT2, rnE zs y = 0
  len : lR2.length ≤ 15 * lT2.length
  bd : ∀ y ∈ lR2, 0 ≤ y ∧ y ≤ 255
  tn : Tn b c w W
theorem DS.trans {zs : List Int} {b c : Nat} {u w W : World} {lR lT lR2 lT2 lR3 lT3 : List Int} (h : DS zs b c u w lR lT lR2 lT2) (k : DS zs b c w W (lR ++ lR2) (lT ++ lT2) lR3 lT3) : DS zs b c u W lR lT (lR2 ++ lR3) (lT2 ++ lT3) := by
  refine ⟨by rw [← List.append_assoc]; exact k.sR, by rw [← List.append_assoc]; exact k.sT, by rw [← List.append_assoc]; exact k.nd, by rw [← List.append_assoc]; exact k.ok, ?_, ?_, h.tn.trans k.tn⟩
  · have := h.len
    have := k.len
    simp only [List.length_append]
    omega
  · intro y hy
    rw [List.mem_append] at hy
    rcases hy with hy | hy
    · exact h.bd y hy
    · exact k.bd y hy
theorem DS.below {zs : List Int} {b c : Nat} {u w W : World} {lR lT lR2 lT2 : List Int} (h : DS zs b c u w lR lT lR2 lT2) (hb : Below w.heap.size w W) : DS zs b c u W lR lT lR2 lT2 :=
  ⟨h.sR.below hb, h.sT.below hb, h.nd, h.ok, h.len, h.bd, h.tn.trans (Tn.of_below hb)⟩
theorem DS.none {zs : List Int} {b c : Nat} {w W : World} {lR lT : List Int} (hR : St w b lR) (hT : St w c lT) (hn : lT.Nodup) (ho : ∀ y ∈ lT, rnE zs y = 0) (hb : Below w.heap.size w W) : DS zs b c w W lR lT [] [] := by
  refine ⟨by rw [List.append_nil]; exact hR.below hb, by rw [List.append_nil]; exact hT.below hb, by rw [List.append_nil]; exact hn, by rw [List.append_nil]; exact ho, by simp, by simp, Tn.of_below hb⟩
def DnP (zs : List Int) (v : Value) (b c : Nat) (m : Nat) : Prop := ∀ (lR lT : List Int) (blk lvl : Int) (w : World), Rl w v zs → St w b lR → St w c lT → lT.Nodup → (∀ y ∈ lT, rnE zs y = 0) → lR.length ≤ 15 * lT.length + 5000 → 256 - lT.length ≤ m →
    Calls Try.prog 43 #[.agg #[v, .map (some b), .map (some c)], .int .i64 blk, .int .i64 lvl] w fun e w' => e = .returned (.tuple #[]) ∧ ∃ lR2 lT2, DS zs b c w w' lR lT lR2 lT2 ∧ (lvl = 0 → lR2 = [])

set_option maxRecDepth 100000 in
set_option maxHeartbeats 4000000 in
/-- A way that ends at once. -/
theorem down_out (zs : List Int) (va : Option Addr) (vl vc : Nat) (b c : Nat) (lR lT : List Int) (blk lvl : Int) (w : World) (hR : Rl w (.slice va vl vc) zs) (hB : rdB zs = true) (h1 : St w b lR) (h2 : St w c lT) (hn : lT.Nodup) (ho : ∀ y ∈ lT, rnE zs y = 0)
    (hx : lvl = 0 ∨ rnE zs blk ≠ 0 ∨ (rnN zs blk).lv ≠ lvl ∨ blk ∈ lT) :
    Calls Try.prog 43 #[.agg #[.slice va vl vc, .map (some b), .map (some c)], .int .i64 blk, .int .i64 lvl] w fun e w' => e = .returned (.tuple #[]) ∧ DS zs b c w w' lR lT [] [] := by
  have D : Hid (∀ W, Below w.heap.size w W → DS zs b c w W lR lT [] []) := fun W hb => DS.none h1 h2 hn ho hb
  have k17 := fun W (hW : Rl W (.slice va vl vc) zs) => read_any (.slice va vl vc) zs blk W hW
  have K17 : Hid (∀ W (hW : Rl W (.slice va vl vc) zs), Calls Try.prog 17 #[.slice va vl vc, .int .i64 blk] W fun e w' => ∃ v', e = .returned (.tuple #[.agg #[.int .i64 (rnN zs blk).lv, .int .i64 (rnN zs blk).tu, .int .i64 (rnN zs blk).nx, .int .i64 (rnN zs blk).lo, v'], .int .i64 (rnE zs blk)]) ∧ OwnI w' W.heap.size v' (rnN zs blk).sl ∧ Below W.heap.size W w') := k17
  have HR : Hid (Rl w (.slice va vl vc) zs) := hR
  have T0 : Hid (Tb (w.alloc (.cells #[.slice va vl vc, .map (some b), .map (some c)] 79)) w.heap.size (.slice va vl vc) b c) := tb_new w _ b c
  have B0 : Hid (Below w.heap.size w (w.alloc (.cells #[.slice va vl vc, .map (some b), .map (some c)] 79))) := (Below.refl _ _).alloc (Nat.le_refl _) _
  have H2 : Hid (St w c lT) := h2
  have Hbd : Hid (rnE zs blk = 0 → 0 ≤ blk ∧ blk ≤ 255) := fun h => blk_bd hB h
  clear k17 h1 h2 hn ho hR hB
  generalize rnN zs blk = n at *
  generalize rnE zs blk = E at *
  obtain ⟨lv, tu, nx, lo, sl⟩ := n
  dsimp only at *
  by_cases hl : lvl = 0
  · subst hl
    clear hx
    go_enter Try.func43, Try.ntmps43
    go_wp2_with (first
      | (go_at_call 17; refine (K17.out _ (HR.out.below B0.out)).mono ?_; rintro e w1 ⟨v1, rfl, r1, hb1⟩; obtain ⟨a1, c1, rfl⟩ := r1.form; have B2 : Hid (Below w.heap.size w (w1.alloc (.cells #[.int .i64 lv, .int .i64 tu, .int .i64 nx, .int .i64 lo, .slice a1 sl.length c1] 37))) := (bstep B0.out hb1).alloc (bstep B0.out hb1).size _; have T2 : Hid (Tb (w1.alloc (.cells #[.int .i64 lv, .int .i64 tu, .int .i64 nx, .int .i64 lo, .slice a1 sl.length c1] 37)) w.heap.size (.slice va vl vc) b c) := (T0.out.below hb1).below ((Below.refl _ _).alloc (Nat.le_refl _) _); have X2 : Hid (Nb (w1.alloc (.cells #[.int .i64 lv, .int .i64 tu, .int .i64 nx, .int .i64 lo, .slice a1 sl.length c1] 37)) w1.heap.size lv tu nx lo (.slice a1 sl.length c1)) := nb_new w1 lv tu nx lo _; obtain ⟨e0, e1, e2⟩ := T2.out.c; obtain ⟨d0, d1, d2, d3, d4⟩ := X2.out.c; clear e0 e1 d1 d2 d3 d4 r1 hb1))
    exact ⟨rfl, _, results_none rfl _ _ _, rfl, D.out _ B2.out⟩
  · have hlE : (lvl == 0) = false := by simp [hl]
    by_cases hE : E = 0
    · subst hE
      by_cases hlv : lv = lvl
      · subst hlv
        have hin : blk ∈ lT := by
          rcases hx with h | h | h | h
          · exact absurd h hl
          · exact absurd rfl h
          · exact absurd rfl h
          · exact h
        have hd : decide (blk ∈ lT) = true := decide_eq_true hin
        have Hb : Hid (-9223372036854775808 ≤ blk ∧ blk < 9223372036854775808) := show _ ∧ _ by have := Hbd.out rfl; omega
        clear hx hin hl
        go_enter Try.func43, Try.ntmps43
        go_wp2_with (first
          | (go_at_call 17; refine (K17.out _ (HR.out.below B0.out)).mono ?_; rintro e w1 ⟨v1, rfl, r1, hb1⟩; obtain ⟨a1, c1, rfl⟩ := r1.form; have B2 : Hid (Below w.heap.size w (w1.alloc (.cells #[.int .i64 lv, .int .i64 tu, .int .i64 nx, .int .i64 lo, .slice a1 sl.length c1] 37))) := (bstep B0.out hb1).alloc (bstep B0.out hb1).size _; have T2 : Hid (Tb (w1.alloc (.cells #[.int .i64 lv, .int .i64 tu, .int .i64 nx, .int .i64 lo, .slice a1 sl.length c1] 37)) w.heap.size (.slice va vl vc) b c) := (T0.out.below hb1).below ((Below.refl _ _).alloc (Nat.le_refl _) _); have X2 : Hid (Nb (w1.alloc (.cells #[.int .i64 lv, .int .i64 tu, .int .i64 nx, .int .i64 lo, .slice a1 sl.length c1] 37)) w1.heap.size lv tu nx lo (.slice a1 sl.length c1)) := nb_new w1 lv tu nx lo _; obtain ⟨e0, e1, e2⟩ := T2.out.c; obtain ⟨d0, d1, d2, d3, d4⟩ := X2.out.c; clear e0 e1 d1 d2 d3 d4 r1 hb1)
          | (go_at_call 40; refine (has_any c lT blk _ (H2.out.below B2.out) Hb.out).mono ?_; rintro e w3 ⟨rfl, hb3⟩; rw [hd]))
        exact ⟨rfl, _, results_none rfl _ _ _, rfl, D.out _ (bstep B2.out hb3)⟩
      · have hlvE : (lv != lvl) = true := by simp [hlv]
        clear hx hlv hl
        go_enter Try.func43, Try.ntmps43
        go_wp2_with (first
          | (go_at_call 17; refine (K17.out _ (HR.out.below B0.out)).mono ?_; rintro e w1 ⟨v1, rfl, r1, hb1⟩; obtain ⟨a1, c1, rfl⟩ := r1.form; have B2 : Hid (Below w.heap.size w (w1.alloc (.cells #[.int .i64 lv, .int .i64 tu, .int .i64 nx, .int .i64 lo, .slice a1 sl.length c1] 37))) := (bstep B0.out hb1).alloc (bstep B0.out hb1).size _; have T2 : Hid (Tb (w1.alloc (.cells #[.int .i64 lv, .int .i64 tu, .int .i64 nx, .int .i64 lo, .slice a1 sl.length c1] 37)) w.heap.size (.slice va vl vc) b c) := (T0.out.below hb1).below ((Below.refl _ _).alloc (Nat.le_refl _) _); have X2 : Hid (Nb (w1.alloc (.cells #[.int .i64 lv, .int .i64 tu, .int .i64 nx, .int .i64 lo, .slice a1 sl.length c1] 37)) w1.heap.size lv tu nx lo (.slice a1 sl.length c1)) := nb_new w1 lv tu nx lo _; obtain ⟨e0, e1, e2⟩ := T2.out.c; obtain ⟨d0, d1, d2, d3, d4⟩ := X2.out.c; clear e0 e1 d1 d2 d3 d4 r1 hb1))
        exact ⟨rfl, _, results_none rfl _ _ _, rfl, D.out _ B2.out⟩
    · have hEE : (E != 0) = true := by simp [hE]
      clear hx hE hl
      go_enter Try.func43, Try.ntmps43
      go_wp2_with (first
        | (go_at_call 17; refine (K17.out _ (HR.out.below B0.out)).mono ?_; rintro e w1 ⟨v1, rfl, r1, hb1⟩; obtain ⟨a1, c1, rfl⟩ := r1.form; have B2 : Hid (Below w.heap.size w (w1.alloc (.cells #[.int .i64 lv, .int .i64 tu, .int .i64 nx, .int .i64 lo, .slice a1 sl.length c1] 37))) := (bstep B0.out hb1).alloc (bstep B0.out hb1).size _; have T2 : Hid (Tb (w1.alloc (.cells #[.int .i64 lv, .int .i64 tu, .int .i64 nx, .int .i64 lo, .slice a1 sl.length c1] 37)) w.heap.size (.slice va vl vc) b c) := (T0.out.below hb1).below ((Below.refl _ _).alloc (Nat.le_refl _) _); have X2 : Hid (Nb (w1.alloc (.cells #[.int .i64 lv, .int .i64 tu, .int .i64 nx, .int .i64 lo, .slice a1 sl.length c1] 37)) w1.heap.size lv tu nx lo (.slice a1 sl.length c1)) := nb_new w1 lv tu nx lo _; obtain ⟨e0, e1, e2⟩ := T2.out.c; obtain ⟨d0, d1, d2, d3, d4⟩ := X2.out.c; clear e0 e1 d1 d2 d3 d4 r1 hb1))
      exact ⟨rfl, _, results_none rfl _ _ _, rfl, D.out _ B2.out⟩
end Go.Proofs.Ytgcdhenbpkcmgaa
