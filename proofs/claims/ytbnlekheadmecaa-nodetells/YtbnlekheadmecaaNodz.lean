/- Walks of layer 9: awake. -/
import Derived.Test.YtbnlekheadmecaaNodr
import Derived.Test.YtbnlekheadmecaaNods
namespace Go.Proofs.Ytbnlekheadmecaa
open Go.RowKit Go.Shelf Classical
set_option linter.unusedVariables false

theorem eq51 (x y z x' y' z' : Int) (w : World) : (binOp .eql 51 (.agg #[.int .i64 x, .int .i64 y, .int .i64 z]) (.agg #[.int .i64 x', .int .i64 y', .int .i64 z'])).run Try.prog w = .ok (.bool (decide (Mi.mk x y z = Mi.mk x' y' z'))) w := by
  have u3 := Try.underlying3
  have a3 := Try.isAgg3
  have z3 := Try.sizeOf3
  have hS : Try.prog.underlying 51 = some (.struct (Try.prog.fieldsOf 51)) := by kernel_rfl
  have hp : Try.prog.stoodInHeld 51 = false := by kernel_rfl
  rw [run_eql_struct, show (10000 : Nat) = 9999 + 1 from rfl, run_equalIn_agg w 9999 51 _ _ hS hp]
  simp only [Program.fieldsOf, Try.underlying51]
  go_simp
  by_cases h1 : x = x' <;> by_cases h2 : y = y' <;> by_cases h3 : z = z' <;> simp [h1, h2, h3]
def aN : Nd := ⟨0, 1, 5, 0, [7, 9]⟩
theorem aN_may : May aN := nnB_iff.1 (by decide)
def aL : List Int := imN aN
theorem aL_len : aL.length = 16 := rfl
theorem aL_at : aL[0]? = some 1152921504606846992 ∧ aL[1]? = some 5 ∧ aL[3]? = some 7 := ⟨rfl, rfl, rfl⟩
theorem aw8 (v : Value) (w : World) (hR : Rd w v [7, 9]) : Calls Try.prog 8 #[.agg #[.int .i64 0, .int .i64 1, .int .i64 5, .int .i64 0, v]] w fun e w' => ∃ a c, e = .returned (.tuple #[.slice a 16 c, .int .i64 0]) ∧ Rd w' (.slice a 16 c) aL ∧ Below w.heap.size w w' := by
  refine (words_node aN v w hR).mono ?_
  obtain ⟨h1, h2⟩ := wn_yes (nnB_iff.2 aN_may)
  rw [h1, h2]
  rintro e w' ⟨v', rfl, hR', hb⟩
  obtain ⟨_, a, c, rfl⟩ := hR'.form
  exact ⟨a, c, rfl, hR', hb⟩
theorem aw10a (v : Value) (w : World) (hR : Rd w v aL) : Calls Try.prog 10 #[v, .int .i64 0] w fun e w' => ∃ a c, e = .returned (.tuple #[.agg #[.int .i64 0, .int .i64 1, .int .i64 5, .int .i64 0, .slice a 2 c], .int .i64 0]) ∧ Rd w' (.slice a 2 c) [7, 9] ∧ Below w.heap.size w w' := by
  refine (read_any v aL 0 w hR).mono ?_
  obtain ⟨h1, h2⟩ := rn_im aN_may
  rw [aL, h1, h2]
  rintro e w' ⟨v', rfl, hR', hb⟩
  obtain ⟨_, a, c, rfl⟩ := hR'.form
  exact ⟨a, c, rfl, hR', hb⟩
theorem aw10b (v : Value) (w : World) (hR : Rd w v aL) : Calls Try.prog 10 #[v, .int .i64 1] w fun e w' => e = .returned (.tuple #[.agg #[.int .i64 0, .int .i64 0, .int .i64 0, .int .i64 0, .slice none 0 0], .int .i64 1]) ∧ Below w.heap.size w w' := read_out v aL 1 w hR (by decide)
theorem aw10c (v : Value) (w : World) (hR : Rd w v (List.replicate 16 0)) : Calls Try.prog 10 #[v, .int .i64 0] w fun e w' => ∃ a c, e = .returned (.tuple #[.agg #[.int .i64 0, .int .i64 0, .int .i64 0, .int .i64 0, .slice a 0 c], .int .i64 90]) ∧ Below w.heap.size w w' := by
  refine (read_any v _ 0 w hR).mono ?_
  obtain ⟨h1, h2⟩ := rn_bad (zs := List.replicate 16 0) (b := 0) (by decide) (okB_no1 (by decide))
  rw [h1, h2]
  rintro e w' ⟨v', rfl, hR', hb⟩
  obtain ⟨_, a, c, rfl⟩ := hR'.form
  exact ⟨a, c, rfl, hb⟩
theorem aw12 (w : World) : Calls Try.prog 12 #[.int .i64 2, .int .i64 3] w fun e w' => ∃ a c, e = .returned (.tuple #[.slice a 2 c, .int .i64 0]) ∧ RdS w' (.slice a 2 c) [⟨1, 33, 3⟩, ⟨2, 4, 0⟩] ∧ Below w.heap.size w w' := by
  refine (next_any 2 3 w).mono ?_
  obtain ⟨h1, h2⟩ := nx_yes (b := 2) (x := 3) (by decide)
  rw [h1, h2]
  rintro e w' ⟨v, rfl, hR, hb⟩
  obtain ⟨_, a, c, rfl⟩ := hR.form
  exact ⟨a, c, rfl, hR, hb⟩
theorem aw19a (v : Value) (w : World) (hR : Rd w v [7, 9]) : Calls Try.prog 19 #[.int .i64 2, .agg #[.int .i64 0, .int .i64 1, .int .i64 5, .int .i64 0, v], .bool false] w fun e w' => ∃ a c, e = .returned (.slice a 1 c) ∧ RdS w' (.slice a 1 c) [⟨1, 32, 1152921504606847008⟩] ∧ Below w.heap.size w w' := by
  refine (turn_any 2 aN false v w hR).mono ?_
  rw [tn_yes (b := 2) (n := aN) (d := false) (by decide)]
  rintro e w' ⟨v', rfl, hR', hb⟩
  obtain ⟨_, a, c, rfl⟩ := hR'.form
  exact ⟨a, c, rfl, hR', hb⟩
theorem aw19b (v : Value) (w : World) (hR : Rd w v [7, 9]) : Calls Try.prog 19 #[.int .i64 2, .agg #[.int .i64 0, .int .i64 1, .int .i64 5, .int .i64 0, v], .bool true] w fun e w' => ∃ a c, e = .returned (.slice a 0 c) ∧ Below w.heap.size w w' := by
  refine (turn_any 2 aN true v w hR).mono ?_
  rw [tn_no (b := 2) (n := aN) (d := true) (by decide)]
  rintro e w' ⟨v', rfl, hR', hb⟩
  obtain ⟨_, a, c, rfl⟩ := hR'.form
  exact ⟨a, c, rfl, hb⟩
theorem aw17 (v : Value) (w : World) (hR : Rd w v [7, 9]) : Calls Try.prog 17 #[.agg #[.int .i64 0, .int .i64 1, .int .i64 5, .int .i64 0, v]] w fun e w' => e = .returned (.bool true) ∧ Below w.heap.size w w' := by
  have := check_node aN v w hR
  rw [nnB_iff.2 aN_may] at this
  exact this
theorem aw15 (v v' : Value) (w : World) (hR : Rd w v [7, 9]) (hR' : Rd w v' [7, 9]) : Calls Try.prog 15 #[.agg #[.int .i64 0, .int .i64 1, .int .i64 5, .int .i64 0, v], .agg #[.int .i64 0, .int .i64 1, .int .i64 5, .int .i64 0, v']] w fun e w' => e = .returned (.bool true) ∧ Below w.heap.size w w' := by
  have := same_any aN aN v v' w hR hR'
  rw [decide_eq_true rfl] at this
  exact this
theorem awake_start (w : World) : Nb ((w.alloc (.cells #[.int .i64 7, .int .i64 9] 3)).alloc (.cells #[.int .i64 0, .int .i64 1, .int .i64 5, .int .i64 0, .slice (some ⟨w.heap.size, 0, none⟩) 2 2] 24)) (w.heap.size + 1) 0 1 5 0 (.slice (some ⟨w.heap.size, 0, none⟩) 2 2) ∧ Rd ((w.alloc (.cells #[.int .i64 7, .int .i64 9] 3)).alloc (.cells #[.int .i64 0, .int .i64 1, .int .i64 5, .int .i64 0, .slice (some ⟨w.heap.size, 0, none⟩) 2 2] 24)) (.slice (some ⟨w.heap.size, 0, none⟩) 2 2) [7, 9] ∧ Below w.heap.size w ((w.alloc (.cells #[.int .i64 7, .int .i64 9] 3)).alloc (.cells #[.int .i64 0, .int .i64 1, .int .i64 5, .int .i64 0, .slice (some ⟨w.heap.size, 0, none⟩) 2 2] 24)) := by
  refine ⟨?_, ?_, ((Below.refl _ w).alloc (Nat.le_refl _) _).alloc (by simp) _⟩
  · have := nb_new (w.alloc (.cells #[.int .i64 7, .int .i64 9] 3)) 0 1 5 0 (.slice (some ⟨w.heap.size, 0, none⟩) 2 2)
    rw [show (w.alloc (.cells #[.int .i64 7, .int .i64 9] 3)).heap.size = w.heap.size + 1 by simp] at this
    exact this
  · exact (rd_lit [7, 9] rfl (by simp)).below ((Below.refl _ _).alloc (Nat.le_refl _) _)

set_option maxRecDepth 100000 in
set_option maxHeartbeats 2000000 in
theorem awake_any (w : World) : Calls Try.prog 7 #[] w fun e w' => e = .returned (.bool true) ∧ Below w.heap.size w w' := by
  obtain ⟨i0, hi, hz0, hz1, hz2⟩ := info_parts Try.info3
  obtain ⟨hN, hRn, hB1⟩ := awake_start w
  have HN : Hid (Nb ((w.alloc (.cells #[.int .i64 7, .int .i64 9] 3)).alloc (.cells #[.int .i64 0, .int .i64 1, .int .i64 5, .int .i64 0, .slice (some ⟨w.heap.size, 0, none⟩) 2 2] 24)) (w.heap.size + 1) 0 1 5 0 (.slice (some ⟨w.heap.size, 0, none⟩) 2 2)) := hN
  have HRn : Hid (Rd ((w.alloc (.cells #[.int .i64 7, .int .i64 9] 3)).alloc (.cells #[.int .i64 0, .int .i64 1, .int .i64 5, .int .i64 0, .slice (some ⟨w.heap.size, 0, none⟩) 2 2] 24)) (.slice (some ⟨w.heap.size, 0, none⟩) 2 2) [7, 9]) := hRn
  have HB : Hid (Below w.heap.size w ((w.alloc (.cells #[.int .i64 7, .int .i64 9] 3)).alloc (.cells #[.int .i64 0, .int .i64 1, .int .i64 5, .int .i64 0, .slice (some ⟨w.heap.size, 0, none⟩) 2 2] 24))) := hB1
  have lA : Hid (aL.length = 16) := aL_len
  have A0 : Hid (aL[0]? = some 1152921504606846992 ∧ aL[1]? = some 5 ∧ aL[3]? = some 7) := aL_at
  have k8 : Hid (∀ v w, Rd w v [7, 9] → Calls Try.prog 8 #[.agg #[.int .i64 0, .int .i64 1, .int .i64 5, .int .i64 0, v]] w fun e w' => ∃ a c, e = .returned (.tuple #[.slice a 16 c, .int .i64 0]) ∧ Rd w' (.slice a 16 c) aL ∧ Below w.heap.size w w') := aw8
  have k10a : Hid (∀ v w, Rd w v aL → Calls Try.prog 10 #[v, .int .i64 0] w fun e w' => ∃ a c, e = .returned (.tuple #[.agg #[.int .i64 0, .int .i64 1, .int .i64 5, .int .i64 0, .slice a 2 c], .int .i64 0]) ∧ Rd w' (.slice a 2 c) [7, 9] ∧ Below w.heap.size w w') := aw10a
  have k10b : Hid (∀ v w, Rd w v aL → Calls Try.prog 10 #[v, .int .i64 1] w fun e w' => e = .returned (.tuple #[.agg #[.int .i64 0, .int .i64 0, .int .i64 0, .int .i64 0, .slice none 0 0], .int .i64 1]) ∧ Below w.heap.size w w') := aw10b
  generalize aL = A at *
  have q51 := eq51 1 33 3 1 33 3
  rw [decide_eq_true rfl] at q51
  have t1 : Hid (0 = 0) := rfl
  have t2 : Hid (0 = 0) := rfl
  have t3 : Hid (0 = 0) := rfl
  have t4 : Hid (0 = 0) := rfl
  have t5 : Hid (0 = 0) := rfl
  clear hN hRn hB1
  go_enter Try.func7, Try.ntmps7
  go_wp2_with (first
    | (go_at_call 8; refine (k8.out _ _ HRn.out).mono ?_; rintro e w1 ⟨a1, c1, rfl, r1, hb1⟩; have R1 : Hid (Rd w1 (.slice a1 16 c1) A) := r1; have G1 : Hid (Below (((w.alloc (.cells #[.int .i64 7, .int .i64 9] 3)).alloc (.cells #[.int .i64 0, .int .i64 1, .int .i64 5, .int .i64 0, .slice (some ⟨w.heap.size, 0, none⟩) 2 2] 24))).heap.size ((w.alloc (.cells #[.int .i64 7, .int .i64 9] 3)).alloc (.cells #[.int .i64 0, .int .i64 1, .int .i64 5, .int .i64 0, .slice (some ⟨w.heap.size, 0, none⟩) 2 2] 24)) w1) := hb1; clear r1 hb1)
    | (clear t1; go_at_call 10; refine (k10a.out _ _ R1.out).mono ?_; rintro e w2 ⟨a2, c2, rfl, r2, hb2⟩; have B2 : Hid (Below w1.heap.size w1 (w2.alloc (.cells #[.int .i64 0, .int .i64 1, .int .i64 5, .int .i64 0, .slice a2 2 c2] 24))) := hb2.alloc hb2.size _; have X2 : Hid (Nb (w2.alloc (.cells #[.int .i64 0, .int .i64 1, .int .i64 5, .int .i64 0, .slice a2 2 c2] 24)) w2.heap.size 0 1 5 0 (.slice a2 2 c2)) := nb_new w2 _ _ _ _ _; have R2 : Hid (Rd (w2.alloc (.cells #[.int .i64 0, .int .i64 1, .int .i64 5, .int .i64 0, .slice a2 2 c2] 24)) (.slice a2 2 c2) [7, 9]) := r2.below ((Below.refl _ _).alloc (Nat.le_refl _) _); clear r2 hb2)
    | (clear t2; go_at_call 10; refine (k10b.out _ _ (R1.out.below B2.out)).mono ?_; rintro e w3 ⟨rfl, hb3⟩; have B3 : Hid (Below (w2.alloc (.cells #[.int .i64 0, .int .i64 1, .int .i64 5, .int .i64 0, .slice a2 2 c2] 24)).heap.size (w2.alloc (.cells #[.int .i64 0, .int .i64 1, .int .i64 5, .int .i64 0, .slice a2 2 c2] 24)) (w3.alloc (.cells #[.int .i64 0, .int .i64 0, .int .i64 0, .int .i64 0, .slice none 0 0] 24))) := hb3.alloc hb3.size _; clear hb3)
    | (clear t3; at_make; refine wpList_make_full _ rfl _ _ 22 rfl (w3.alloc (.cells #[.int .i64 0, .int .i64 0, .int .i64 0, .int .i64 0, .slice none 0 0] 24)).heap.size 3 i0 (.int .i64 0) 1 Try.underlying22 hi hz0 hz1 .i64 .i64 _ _ 16 rfl rfl rfl rfl (by rw [hz2]; omega) (by unfold maxLen; omega) (Nat.le_refl _) ?_; intro w4 o4 g4; have b4 : Below (w3.alloc (.cells #[.int .i64 0, .int .i64 0, .int .i64 0, .int .i64 0, .slice none 0 0] 24)).heap.size (w3.alloc (.cells #[.int .i64 0, .int .i64 0, .int .i64 0, .int .i64 0, .slice none 0 0] 24)) w4 := below_grownN g4; have R4 : Hid (Rd w4 (.slice (some ⟨w3.heap.size + 1, 0, none⟩) 16 16) (List.replicate 16 0)) := (by have r4 := (own_zero o4).rd (by simp); rw [show (w3.alloc (.cells #[.int .i64 0, .int .i64 0, .int .i64 0, .int .i64 0, .slice none 0 0] 24)).heap.size = w3.heap.size + 1 by simp] at r4; exact r4); have B4 : Hid (Below (w2.alloc (.cells #[.int .i64 0, .int .i64 1, .int .i64 5, .int .i64 0, .slice a2 2 c2] 24)).heap.size (w2.alloc (.cells #[.int .i64 0, .int .i64 1, .int .i64 5, .int .i64 0, .slice a2 2 c2] 24)) w4) := bstep B3.out b4; clear o4 g4 b4)
    | (clear t4; go_at_call 10; refine (aw10c _ _ R4.out).mono ?_; rintro e w5 ⟨a5, c5, rfl, hb5⟩; have B5 : Hid (Below (w2.alloc (.cells #[.int .i64 0, .int .i64 1, .int .i64 5, .int .i64 0, .slice a2 2 c2] 24)).heap.size (w2.alloc (.cells #[.int .i64 0, .int .i64 1, .int .i64 5, .int .i64 0, .slice a2 2 c2] 24)) (w5.alloc (.cells #[.int .i64 0, .int .i64 0, .int .i64 0, .int .i64 0, .slice a5 0 c5] 24))) := (bstep B4.out hb5).alloc (bstep B4.out hb5).size _; clear hb5)
    | (go_at_call 12; refine (aw12 _).mono ?_; rintro e w6 ⟨a6, c6, rfl, r6, hb6⟩; have R6 : Hid (RdS w6 (.slice a6 2 c6) [⟨1, 33, 3⟩, ⟨2, 4, 0⟩]) := r6; have B6 : Hid (Below (w2.alloc (.cells #[.int .i64 0, .int .i64 1, .int .i64 5, .int .i64 0, .slice a2 2 c2] 24)).heap.size (w2.alloc (.cells #[.int .i64 0, .int .i64 1, .int .i64 5, .int .i64 0, .slice a2 2 c2] 24)) w6) := bstep B5.out hb6; have G6 : Hid (Below (((w.alloc (.cells #[.int .i64 7, .int .i64 9] 3)).alloc (.cells #[.int .i64 0, .int .i64 1, .int .i64 5, .int .i64 0, .slice (some ⟨w.heap.size, 0, none⟩) 2 2] 24))).heap.size ((w.alloc (.cells #[.int .i64 7, .int .i64 9] 3)).alloc (.cells #[.int .i64 0, .int .i64 1, .int .i64 5, .int .i64 0, .slice (some ⟨w.heap.size, 0, none⟩) 2 2] 24)) w6) := bstep (bstep G1.out B2.out) B6.out; obtain ⟨n0, n1, n2, n3, n4⟩ := (HN.out.below G6.out).c; clear r6 hb6)
    | (clear t5; go_at_call 19; refine (aw19a _ _ (HRn.out.below G6.out)).mono ?_; rintro e w7 ⟨a7, c7, rfl, r7, hb7⟩; have B7 : Hid (Below (w2.alloc (.cells #[.int .i64 0, .int .i64 1, .int .i64 5, .int .i64 0, .slice a2 2 c2] 24)).heap.size (w2.alloc (.cells #[.int .i64 0, .int .i64 1, .int .i64 5, .int .i64 0, .slice a2 2 c2] 24)) w7) := bstep B6.out hb7; have G7 : Hid (Below (((w.alloc (.cells #[.int .i64 7, .int .i64 9] 3)).alloc (.cells #[.int .i64 0, .int .i64 1, .int .i64 5, .int .i64 0, .slice (some ⟨w.heap.size, 0, none⟩) 2 2] 24))).heap.size ((w.alloc (.cells #[.int .i64 7, .int .i64 9] 3)).alloc (.cells #[.int .i64 0, .int .i64 1, .int .i64 5, .int .i64 0, .slice (some ⟨w.heap.size, 0, none⟩) 2 2] 24)) w7) := bstep G6.out hb7; clear n0 n1 n2 n3 n4; obtain ⟨n0, n1, n2, n3, n4⟩ := (HN.out.below G7.out).c; obtain ⟨m0, m1, m2, m3, m4⟩ := (X2.out.below B7.out).c; obtain ⟨bl, ol, rfl, hcl⟩ := ((R1.out.below B2.out).below B7.out).base (by rw [lA.out]; omega); have l0 := hcl 0 _ A0.out.1; rw [Nat.add_zero] at l0; have l1 := hcl 1 _ A0.out.2.1; have l3 := hcl 3 _ A0.out.2.2; have R67 : Hid (RdS w7 (.slice a6 2 c6) [⟨1, 33, 3⟩, ⟨2, 4, 0⟩]) := R6.out.below hb7; have R7 : Hid (RdS w7 (.slice a7 1 c7) [⟨1, 32, 1152921504606847008⟩]) := r7; clear hcl r7 hb7)
    | (go_at_call 15; refine (aw15 _ _ _ (R2.out.below B7.out) (HRn.out.below G7.out)).mono ?_; rintro e w8 ⟨rfl, hb8⟩; have G8 : Hid (Below (((w.alloc (.cells #[.int .i64 7, .int .i64 9] 3)).alloc (.cells #[.int .i64 0, .int .i64 1, .int .i64 5, .int .i64 0, .slice (some ⟨w.heap.size, 0, none⟩) 2 2] 24))).heap.size ((w.alloc (.cells #[.int .i64 7, .int .i64 9] 3)).alloc (.cells #[.int .i64 0, .int .i64 1, .int .i64 5, .int .i64 0, .slice (some ⟨w.heap.size, 0, none⟩) 2 2] 24)) w8) := bstep G7.out hb8; clear n0 n1 n2 n3 n4 m0 m1 m2 m3 m4 l0 l1 l3; obtain ⟨n0, n1, n2, n3, n4⟩ := (HN.out.below G8.out).c; obtain ⟨b6, off6, rfl, y0, y1, y2⟩ := (R67.out.below hb8).get (k := 0) (x := ⟨1, 33, 3⟩) rfl; obtain ⟨b7, off7, rfl, z0, z1, z2⟩ := (R7.out.below hb8).get (k := 0) (x := ⟨1, 32, 1152921504606847008⟩) rfl; simp only [Nat.zero_mul, Nat.add_zero] at y0 y1 y2 z0 z1 z2; (try dsimp only at y0 y1 y2 z0 z1 z2); clear hb8)
    | (go_at_call 19; refine (aw19b _ _ (HRn.out.below G8.out)).mono ?_; rintro e w9 ⟨a9, c9, rfl, hb9⟩; have G9 : Hid (Below (((w.alloc (.cells #[.int .i64 7, .int .i64 9] 3)).alloc (.cells #[.int .i64 0, .int .i64 1, .int .i64 5, .int .i64 0, .slice (some ⟨w.heap.size, 0, none⟩) 2 2] 24))).heap.size ((w.alloc (.cells #[.int .i64 7, .int .i64 9] 3)).alloc (.cells #[.int .i64 0, .int .i64 1, .int .i64 5, .int .i64 0, .slice (some ⟨w.heap.size, 0, none⟩) 2 2] 24)) w9) := bstep G8.out hb9; clear n0 n1 n2 n3 n4; obtain ⟨n0, n1, n2, n3, n4⟩ := (HN.out.below G9.out).c; clear hb9)
    | (go_at_call 17; refine (aw17 _ _ (HRn.out.below G9.out)).mono ?_; rintro e w10 ⟨rfl, hb10⟩; have G10 := bstep HB.out (bstep G9.out hb10)))
  go_ret
  exact ⟨ret_bool rfl, G10⟩
end Go.Proofs.Ytbnlekheadmecaa
