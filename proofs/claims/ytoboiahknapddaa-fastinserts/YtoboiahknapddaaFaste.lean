/- Walks of layer 6: awake. -/
import Derived.Test.YtoboiahknapddaaFastc
import Derived.Test.YtoboiahknapddaaFastd
import Derived.Test.YtoboiahknapddaaWalkl
import Derived.Laws.StructEq
namespace Go.Proofs.Ytoboiahknapddaa
open Go.RowKit Go.Shelf
set_option linter.unusedVariables false

def aI : List Mi := insS 16 [5, 6] 0 9
def aJ : List Mi := insS 16 [5, 6] 3 9
def aD : List Mi := delS 0 [5, 6] 0
def aC : List Mi := cutS 0 [5, 6] 1
def aS : List Mi := swpS 0 [5, 6] 1 7
def aP : List Int := plN [1, 1, 2]
def aZ : List Int := List.replicate 16 0
def aE : List Int := slN aZ 0
theorem a_lens : aI.length = 4 ∧ aD.length = 3 ∧ aC.length = 2 ∧ aS.length = 2 ∧ aP.length = 2 ∧ aE.length = 0 := by decide +kernel
theorem a_errs : insE 16 [5, 6] 0 9 = 0 ∧ insE 16 [5, 6] 3 9 = 1 ∧ delE 0 [5, 6] 0 = 0 ∧ cutE 0 [5, 6] 1 = 0 ∧ swpE 0 [5, 6] 1 7 = 0 ∧ plc 16 0 = 19 ∧ plc 1 0 = -1 := by decide +kernel
theorem a_at : aI[0]? = some ⟨1, 21, 6⟩ ∧ aI[3]? = some ⟨2, 2, 0⟩ ∧ aD[1]? = some ⟨1, 4, 0⟩ := ⟨by kernel_rfl, by kernel_rfl, by kernel_rfl⟩
theorem rd_112 (W : World) {b : Nat} (hb : b = W.heap.size) : Rd (W.alloc (.cells #[.int .i64 1, .int .i64 1, .int .i64 2] 3)) (.slice (some ⟨b, 0, none⟩) 3 3) [1, 1, 2] := by
  subst hb
  refine ⟨rfl, by simp, _, _, rfl, Nat.le_refl _, .inr ⟨_, _, rfl, by simp, fun j u hj => ?_⟩⟩
  match j, hj with
  | 0, h => cases h; simp
  | 1, h => cases h; simp
  | 2, h => cases h; simp
def zc : Array Value := madeCells (Value.int .i64 0).cells 16
theorem mk16 : ∀ w, (Instr.makeSlice 22 (.int .i64 16) (.int .i64 16)).run Try.prog w = .ok (.slice (some ⟨w.heap.size, 0, none⟩) 16 16) (w.alloc (.cells zc 3)) := by
  intro w
  obtain ⟨i0, hi, hz0, hz1, hz2⟩ := info_parts Try.info3
  have := run_make (P := Try.prog) w 22 3 i0 (.int .i64 0) Try.underlying22 hi hz0 .i64 .i64 16 16 (by omega) (by omega) (by rw [hz2]; omega) (by omega)
  rw [hz1] at this
  exact this
theorem rd_zc (W : World) {b : Nat} (hb : b = W.heap.size) : Rd (W.alloc (.cells zc 3)) (.slice (some ⟨b, 0, none⟩) 16 16) aZ := by
  subst hb
  refine ⟨rfl, by decide, _, _, rfl, Nat.le_refl _, .inr ⟨_, _, rfl, by simp, fun j u hj => ?_⟩⟩
  have hj' : j < 16 := by have := (List.getElem?_eq_some_iff.1 hj).1; simpa [aZ] using this
  have e : u = .int .i64 0 := by
    rw [List.getElem?_map] at hj
    obtain ⟨z, hz, rfl⟩ := Option.map_eq_some_iff.1 hj
    unfold aZ at hz
    rw [List.getElem?_replicate, if_pos hj'] at hz
    cases hz; rfl
  subst e
  have e2 : zc[j]? = some (.int .i64 0) := by
    have e : zc.toList = List.replicate 16 (Value.int .i64 0) := toList_madeCells_one _ _
    rw [← Array.getElem?_toList, e, List.getElem?_replicate, if_pos hj']
  rw [Nat.zero_add]
  simp [e2]
open Classical in
theorem eq51 (x y z x' y' z' : Int) (w : World) : (binOp .eql 51 (.agg #[.int .i64 x, .int .i64 y, .int .i64 z]) (.agg #[.int .i64 x', .int .i64 y', .int .i64 z'])).run Try.prog w = .ok (.bool (decide (Mi.mk x y z = Mi.mk x' y' z'))) w := by
  have u3 := Try.underlying3
  have a3 := Try.isAgg3
  have z3 := Try.sizeOf3
  have hS : Try.prog.underlying 51 = some (.struct (Try.prog.fieldsOf 51)) := by kernel_rfl
  have hp : Try.prog.stoodInHeld 51 = false := by kernel_rfl
  rw [run_eql_struct, show (10000 : Nat) = 9999 + 1 from rfl, run_equalIn_agg w 9999 51 _ _ hS hp]
  simp only [Program.fieldsOf, Try.underlying51]
  go_simp
  by_cases h1 : x = x' <;> by_cases h2 : y = y' <;> by_cases h3 : z = z' <;> simp [h1, h2, h3]

set_option maxRecDepth 100000 in
set_option maxHeartbeats 8000000 in
theorem awake_any (w : World) : Calls Try.prog 9 #[] w fun e w' => e = .returned (.bool true) ∧ Below w.heap.size w w' := by
  have m16 := mk16
  obtain ⟨n1, n2, n3, n4, n5, n6⟩ := a_lens
  obtain ⟨e1, e2, e3, e4, e5, e6, e7⟩ := a_errs
  have N6 : Hid (aE.length = 0) := n6
  have e6' := eq51
  have t1 : Hid (0 = 0) := rfl
  have t2 : Hid (0 = 0) := rfl
  have t6 : Hid (0 = 0) := rfl
  have t7 : Hid (0 = 0) := rfl
  go_enter Try.func9, Try.ntmps9
  go_wp2_with (first
    | (go_at_call 10; clear t1; refine (insert_any 16 _ [5, 6] 0 9 _ (rd_two _ 5 6 rfl)).mono ?_; rintro e w1 ⟨v1, rfl, R1, b1⟩; have R1 : RdS w1 v1 aI := R1; obtain ⟨_, a1, c1, rfl⟩ := R1.form; have HR1 : Hid (RdS w1 (.slice a1 aI.length c1) aI) := R1; have HB1 : Hid (Below w.heap.size w w1) := bstep ((Below.refl _ _).alloc (Nat.le_refl _) _) b1; clear R1 b1)
    | (go_at_call 10; clear t2; refine (insert_any 16 _ [5, 6] 3 9 _ (rd_two _ 5 6 rfl)).mono ?_; rintro e w2 ⟨v2, rfl, R2, b2⟩; have R2 : RdS w2 v2 aJ := R2; obtain ⟨_, a2, c2, rfl⟩ := R2.form; have b2' := bstep ((Below.refl _ _).alloc (Nat.le_refl _) _) b2; have HR2 : Hid (RdS w2 (.slice a1 aI.length c1) aI) := HR1.out.below b2'; have HB2 : Hid (Below w.heap.size w w2) := bstep HB1.out b2'; clear R2 b2 b2' HR1 HB1)
    | (go_at_call 12; refine (delete_any 0 _ [5, 6] 0 _ (rd_two _ 5 6 rfl)).mono ?_; rintro e w3 ⟨v3, rfl, R3, b3⟩; have R3 : RdS w3 v3 aD := R3; obtain ⟨_, a3, c3, rfl⟩ := R3.form; have b3' := bstep ((Below.refl _ _).alloc (Nat.le_refl _) _) b3; have HR3 : Hid (RdS w3 (.slice a1 aI.length c1) aI) := HR2.out.below b3'; have HD3 : Hid (RdS w3 (.slice a3 aD.length c3) aD) := R3; have HB3 : Hid (Below w.heap.size w w3) := bstep HB2.out b3'; clear R3 b3 b3' HR2 HB2)
    | (go_at_call 16; refine (cut_any 0 _ [5, 6] 1 _ (rd_two _ 5 6 rfl)).mono ?_; rintro e w4 ⟨v4, rfl, R4, b4⟩; have R4 : RdS w4 v4 aC := R4; obtain ⟨_, a4, c4, rfl⟩ := R4.form; have b4' := bstep ((Below.refl _ _).alloc (Nat.le_refl _) _) b4; have HR4 : Hid (RdS w4 (.slice a1 aI.length c1) aI) := HR3.out.below b4'; have HD4 : Hid (RdS w4 (.slice a3 aD.length c3) aD) := HD3.out.below b4'; have HB4 : Hid (Below w.heap.size w w4) := bstep HB3.out b4'; clear R4 b4 b4' HR3 HB3 HD3)
    | (go_at_call 14; refine (swap_any 0 _ [5, 6] 1 7 _ (rd_two _ 5 6 rfl)).mono ?_; rintro e w5 ⟨v5, rfl, R5, b5⟩; have R5 : RdS w5 v5 aS := R5; obtain ⟨_, a5, c5, rfl⟩ := R5.form; have b5' := bstep ((Below.refl _ _).alloc (Nat.le_refl _) _) b5; obtain ⟨g1, o1, rfl, x0, x1, x2⟩ := (HR4.out.below b5').get a_at.1; obtain ⟨y0, y1, y2⟩ := (HR4.out.below b5').cells a_at.2.1; obtain ⟨g3, o3, rfl, z0, z1, z2⟩ := (HD4.out.below b5').get a_at.2.2; simp only [Nat.reduceMul, Nat.add_zero, Nat.add_assoc, Nat.reduceAdd] at x0 x1 x2 y0 y1 y2 z0 z1 z2; have HB5 : Hid (Below w.heap.size w w5) := bstep HB4.out b5'; clear R5 b5 b5' HR4 HB4 HD4)
    | (go_at_call 19; clear t6; refine (place_any 16 0 _).mono ?_; rintro e w' ⟨rfl, hw⟩; rw [hw]; clear hw w')
    | (go_at_call 19; clear t7; refine (place_any 1 0 _).mono ?_; rintro e w' ⟨rfl, hw⟩; rw [hw]; clear hw w')
    | (go_at_call 24; refine (plain_any _ [1, 1, 2] _ (rd_112 _ rfl)).mono ?_; rintro e w6 ⟨v6, rfl, R6, b6⟩; have R6 : Rd w6 v6 aP := R6; obtain ⟨_, a6, c6, rfl⟩ := R6.form; have HB6 : Hid (Below w.heap.size w w6) := bstep HB5.out (bstep ((Below.refl _ _).alloc (Nat.le_refl _) _) b6); clear R6 b6)
    | (go_at_call 22; refine (slots_any _ aZ 0 _ (rd_zc _ rfl)).mono ?_; rintro e w8 ⟨v8, rfl, R8, b8⟩; have R8 : Rd w8 v8 aE := R8; obtain ⟨_, a8, c8, rfl⟩ := R8.form; have HB8 : Hid (Below w.heap.size w w8) := bstep HB6.out (bstep ((Below.refl _ _).alloc (Nat.le_refl _) _) b8); clear R8 b8))
  go_ret
  exact ⟨rfl, HB8.out⟩
end Go.Proofs.Ytoboiahknapddaa
