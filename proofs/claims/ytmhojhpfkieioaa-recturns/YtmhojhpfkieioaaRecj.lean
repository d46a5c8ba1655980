/- Walks of layer 7: awake. -/
import Derived.Test.YtmhojhpfkieioaaReci
namespace Go.Proofs.Ytmhojhpfkieioaa
open Go.RowKit Go.Shelf Classical
set_option linter.unusedVariables false

theorem ba_iff (a b : ByteArray) : a.toList = b.toList ↔ a = b := by
  constructor
  · intro h
    have := beq_toListBytes a b
    rw [h, beq_self_eq_true] at this
    obtain ⟨x⟩ := a
    obtain ⟨y⟩ := b
    have e : (x == y) = true := this
    rw [eq_of_beq e]
  · intro h
    rw [h]
open Classical in
theorem eq23 (x y : Rc) (w : World) : (binOp .eql 23 (.agg #[.int .i64 x.k, .string x.key, .string x.val, .int .i64 x.ch]) (.agg #[.int .i64 y.k, .string y.key, .string y.val, .int .i64 y.ch])).run Try.prog w = .ok (.bool (decide (x = y))) w := by
  have u3 := Try.underlying3
  have a3 := Try.isAgg3
  have z3 := Try.sizeOf3
  have u9 := Try.underlying9
  have a9 := Try.isAgg9
  have z9 := Try.sizeOf9
  have hS : Try.prog.underlying 23 = some (.struct (Try.prog.fieldsOf 23)) := by kernel_rfl
  have hp : Try.prog.stoodInHeld 23 = false := by kernel_rfl
  rw [run_eql_struct, show (10000 : Nat) = 9999 + 1 from rfl, run_equalIn_agg w 9999 23 _ _ hS hp]
  simp only [Program.fieldsOf, Try.underlying23]
  go_simp
  obtain ⟨x1, x2, x3, x4⟩ := x
  obtain ⟨y1, y2, y3, y4⟩ := y
  simp only [ba_iff]
  by_cases h1 : x1 = y1 <;> by_cases h2 : x2 = y2 <;> by_cases h3 : x3 = y3 <;> by_cases h4 : x4 = y4 <;> simp [h1, h2, h3, h4]
open Classical in
theorem eq52 (x y z x' y' z' : Int) (w : World) : (binOp .eql 52 (.agg #[.int .i64 x, .int .i64 y, .int .i64 z]) (.agg #[.int .i64 x', .int .i64 y', .int .i64 z'])).run Try.prog w = .ok (.bool (decide (Mi.mk x y z = Mi.mk x' y' z'))) w := by
  have u3 := Try.underlying3
  have a3 := Try.isAgg3
  have z3 := Try.sizeOf3
  have hS : Try.prog.underlying 52 = some (.struct (Try.prog.fieldsOf 52)) := by kernel_rfl
  have hp : Try.prog.stoodInHeld 52 = false := by kernel_rfl
  rw [run_eql_struct, show (10000 : Nat) = 9999 + 1 from rfl, run_equalIn_agg w 9999 52 _ _ hS hp]
  simp only [Program.fieldsOf, Try.underlying52]
  go_simp
  by_cases h1 : x = x' <;> by_cases h2 : y = y' <;> by_cases h3 : z = z' <;> simp [h1, h2, h3]
theorem imL_fits {x : Rc} (hx : OkR x) : Fits (imL x) := by
  intro z hz
  have hr := rest_fits hx
  unfold imL at hz
  rcases List.mem_append.1 hz with h | h
  · exact hr z (List.mem_append.2 (.inl h))
  · rcases List.mem_cons.1 h with h | h
    · rw [h]
      have := Sm.ofF_lt (hdL x ++ bdL x)
      omega
    · exact hr z (List.mem_append.2 (.inr h))
def aX : Rc := ⟨1, ⟨#[97]⟩, ⟨#[98]⟩, 0⟩
def aO : Rc := ⟨0, ⟨#[]⟩, ⟨#[]⟩, 0⟩
theorem aX_ok : OkR aX := .inl ⟨rfl, by decide, by decide, by decide, rfl⟩
def aL : List Int := imL aX
theorem aL_len : aL.length = 16 := imL_length aX_ok
theorem aL_1 : aL[1]? = some 33 := rfl
theorem rc0_eq : rc0 = aO := rfl
theorem aO_no : rcB aO = false := by rw [rcB_3] <;> decide
theorem rd_im {x : Rc} (hx : OkR x) {zs : List Int} {n : Nat} (hn : 16 * n + 16 ≤ zs.length) (h : blk zs n = imL x) : rdX zs (n : Int) = x ∧ rdE zs (n : Int) = 0 := by
  have hi : inB zs.length (n : Int) = true := decide_eq_true (by omega)
  have e : blk zs (n : Int).toNat = imL x := h
  unfold rdX rdE
  rw [hi, e, isR_of hx, gs_back hx]
  exact ⟨rfl, rfl⟩
theorem aL_read : rdX aL 0 = aX ∧ rdE aL 0 = 0 := by
  have := rd_im aX_ok (zs := aL) (n := 0) (by rw [aL_len]; omega) (by unfold blk; rw [List.take_of_length_le (by simp [aL_len])]; rfl)
  exact this
theorem nil_read : rdX [] 0 = aO ∧ rdE [] 0 = 1 := ⟨rfl, rfl⟩
theorem zero_read : rdX zeros16 0 = aO ∧ rdE zeros16 0 = 70 := by
  have h : isR (blk zeros16 (0 : Int).toNat) = false := by
    unfold isR
    rw [rcB_3 (x := gsR (blk zeros16 (0 : Int).toNat)) (by decide) (by decide)]
    rfl
  have hi : inB zeros16.length 0 = true := rfl
  unfold rdX rdE
  rw [hi, h]
  exact ⟨rfl, rfl⟩
def aS : List Mi := stpS 1 aL
theorem aS_E : stpE 1 aL = 0 := by unfold stpE stpB; rw [aL_len]; rfl
theorem aS_eq : aS = stoL 1 aL ++ perL 1 := by unfold aS stpS stpB; rw [aL_len]; rfl
theorem aS_len : aS.length = 18 := by rw [aS_eq, List.length_append, stoL_length, aL_len]; rfl
theorem aS_17 : aS[17]? = some ⟨2, 3, 0⟩ := by
  rw [aS_eq, List.getElem?_append_right (by rw [stoL_length, aL_len]; omega), stoL_length, aL_len]
  rfl
theorem nil_rd (W : World) : Rd W (.slice none 0 0) [] := ⟨rfl, by simp, none, 0, rfl, Nat.le_refl _, .inl ⟨rfl, fun _ => rfl⟩⟩
def zc : Array Value := madeCells (Value.int .i64 0).cells 16
theorem mk16 : ∀ w, (Instr.makeSlice 24 (.int .i64 16) (.int .i64 16)).run Try.prog w = .ok (.slice (some ⟨w.heap.size, 0, none⟩) 16 16) (w.alloc (.cells zc 3)) := by
  intro w
  obtain ⟨i0, hi, hz0, hz1, hz2⟩ := info_parts Try.info3
  have := run_make (P := Try.prog) w 24 3 i0 (.int .i64 0) Try.underlying24 hi hz0 .i64 .i64 16 16 (by omega) (by omega) (by rw [hz2]; omega) (by omega)
  rw [hz1] at this
  exact this
theorem rd_zc (W : World) {b : Nat} (hb : b = W.heap.size) : Rd (W.alloc (.cells zc 3)) (.slice (some ⟨b, 0, none⟩) 16 16) zeros16 := by
  subst hb
  refine ⟨rfl, by decide, _, _, rfl, Nat.le_refl _, .inr ⟨_, _, rfl, by simp, fun j u hj => ?_⟩⟩
  have hj' : j < 16 := by have := (List.getElem?_eq_some_iff.1 hj).1; simpa [zeros16] using this
  have e : u = .int .i64 0 := by
    rw [List.getElem?_map] at hj
    obtain ⟨z, hz, rfl⟩ := Option.map_eq_some_iff.1 hj
    unfold zeros16 at hz
    rw [List.getElem?_replicate, if_pos hj'] at hz
    cases hz; rfl
  subst e
  have e2 : zc[j]? = some (.int .i64 0) := by
    have e : zc.toList = List.replicate 16 (Value.int .i64 0) := toList_madeCells_one _ _
    rw [← Array.getElem?_toList, e, List.getElem?_replicate, if_pos hj']
  rw [Nat.zero_add]
  simp [e2]
theorem nil_fits : Fits [] := fun _ h => by cases h
theorem zero_fits : Fits zeros16 := fun z h => by rw [List.eq_of_mem_replicate h]; omega
theorem i0 : (-9223372036854775808 : Int) ≤ 0 ∧ (0 : Int) < 9223372036854775808 := by omega
/-- The calls of awake. -/
theorem aw_words (w : World) : Calls Try.prog 9 #[.agg #[.int .i64 1, .string ⟨#[97]⟩, .string ⟨#[98]⟩, .int .i64 0]] w fun e w' => ∃ v, e = .returned (.tuple #[v, .int .i64 0]) ∧ Rd w' v aL ∧ Below w.heap.size w w' := by
  have h : rcB aX = true := rcB_iff.2 aX_ok
  have h1 : wLs aX = aL := by unfold wLs; rw [h]; rfl
  have h2 : wEs aX = 0 := by unfold wEs; rw [h]; rfl
  have := wordsr_any aX w
  rw [h1, h2] at this
  exact this
theorem aw_words0 (w : World) : Calls Try.prog 9 #[.agg #[.int .i64 0, .string ⟨#[]⟩, .string ⟨#[]⟩, .int .i64 0]] w fun e w' => ∃ v, e = .returned (.tuple #[v, .int .i64 70]) ∧ Rd w' v [] ∧ Below w.heap.size w w' := by
  have h1 : wLs aO = [] := by unfold wLs; rw [aO_no]; rfl
  have h2 : wEs aO = 70 := by unfold wEs; rw [aO_no]; rfl
  have := wordsr_any aO w
  rw [h1, h2] at this
  exact this
theorem aw_read (v : Value) (w : World) (h : Rd w v aL) : Calls Try.prog 11 #[v, .int .i64 0] w fun e w' => e = .returned (.tuple #[.agg #[.int .i64 1, .string ⟨#[97]⟩, .string ⟨#[98]⟩, .int .i64 0], .int .i64 0]) ∧ Below w.heap.size w w' := by
  have := read_any v aL 0 w h (imL_fits aX_ok) i0
  rw [aL_read.1, aL_read.2] at this
  exact this
theorem aw_read0 (w : World) : Calls Try.prog 11 #[.slice none 0 0, .int .i64 0] w fun e w' => e = .returned (.tuple #[.agg #[.int .i64 0, .string ⟨#[]⟩, .string ⟨#[]⟩, .int .i64 0], .int .i64 1]) ∧ Below w.heap.size w w' := by
  have := read_any _ [] 0 w (nil_rd w) nil_fits i0
  rw [nil_read.1, nil_read.2] at this
  exact this
theorem aw_readz (v : Value) (w : World) (h : Rd w v zeros16) : Calls Try.prog 11 #[v, .int .i64 0] w fun e w' => e = .returned (.tuple #[.agg #[.int .i64 0, .string ⟨#[]⟩, .string ⟨#[]⟩, .int .i64 0], .int .i64 70]) ∧ Below w.heap.size w w' := by
  have := read_any v zeros16 0 w h zero_fits i0
  rw [zero_read.1, zero_read.2] at this
  exact this
theorem aw_steps (v : Value) (w : World) (h : Rd w v aL) : Calls Try.prog 13 #[.int .i64 1, v] w fun e w' => ∃ v', e = .returned (.tuple #[v', .int .i64 0]) ∧ RdS w' v' aS ∧ Below w.heap.size w w' := by
  have := stepsr_any 1 v aL w h
  rw [aS_E] at this
  exact this
theorem aw_check (w : World) : Calls Try.prog 15 #[.agg #[.int .i64 1, .string ⟨#[97]⟩, .string ⟨#[98]⟩, .int .i64 0]] w fun e w' => e = .returned (.bool true) ∧ Below w.heap.size w w' := by
  have h : rcB aX = true := rcB_iff.2 aX_ok
  have := rcheck_any aX w
  rw [h] at this
  exact this
set_option maxRecDepth 100000 in
set_option maxHeartbeats 8000000 in
theorem awake_any (w : World) : Calls Try.prog 8 #[] w fun e w' => e = .returned (.bool true) ∧ Below w.heap.size w w' := by
  have m16 := mk16
  have e52 := eq52
  have q23 : ∀ w, (binOp .eql 23 (.agg #[.int .i64 1, .string ⟨#[97]⟩, .string ⟨#[98]⟩, .int .i64 0]) (.agg #[.int .i64 1, .string ⟨#[97]⟩, .string ⟨#[98]⟩, .int .i64 0])).run Try.prog w = .ok (.bool true) w := fun w => by
    have := eq23 aX aX w
    rw [decide_eq_true rfl] at this
    exact this
  have n1 := aL_len
  have n2 := aS_len
  have t1 : Hid (0 = 0) := rfl
  have t2 : Hid (0 = 0) := rfl
  have t3 : Hid (0 = 0) := rfl
  have t4 : Hid (0 = 0) := rfl
  go_enter Try.func8, Try.ntmps8
  go_wp2_with (first
    | (go_at_call 9; clear t1; refine (aw_words _).mono ?_; rintro e w1 ⟨v1, rfl, R1, b1⟩; obtain ⟨_, a1, c1, rfl⟩ := R1.form; have HR1 : Hid (Rd w1 (.slice a1 aL.length c1) aL) := R1; have HB1 : Hid (Below w.heap.size w w1) := b1; clear R1 b1)
    | (go_at_call 11; clear t2; refine (aw_read _ _ HR1.out).mono ?_; rintro e w2 ⟨rfl, b2⟩; have HB2 : Hid (Below w1.heap.size w1 w2) := b2; have HX2 : Hid (RcAt (w2.alloc (.cells #[.int .i64 1, .string ⟨#[97]⟩, .string ⟨#[98]⟩, .int .i64 0] 23)) w2.heap.size aX) := (rc_new w2 aX); clear b2)
    | (go_at_call 11; clear t3; refine (aw_read0 _).mono ?_; rintro e w3 ⟨rfl, b3⟩; have HX3 : Hid (RcAt w3 w2.heap.size aX) := HX2.out.below b3; have HB3 : Hid (Below w1.heap.size w1 w3) := bstep (HB2.out.alloc HB2.out.size _) b3; clear b3)
    | (go_at_call 11; clear t4; refine (aw_readz _ _ (rd_zc _ (by simp))).mono ?_; rintro e w4 ⟨rfl, b4⟩; have b4' := bstep (((Below.refl _ w3).alloc (Nat.le_refl _) _).alloc (by simp) _) b4; have HX4 : Hid (RcAt w4 w2.heap.size aX) := HX3.out.below b4'; have HB4 : Hid (Below w1.heap.size w1 w4) := bstep HB3.out b4'; clear b4 b4')
    | (go_at_call 13; refine (aw_steps _ _ ((HR1.out.below HB4.out).below ((Below.refl _ w4).alloc (Nat.le_refl _) _))).mono ?_; rintro e w5 ⟨v5, rfl, R5, b5⟩; obtain ⟨_, a5, c5, rfl⟩ := R5.form; have b5' := bstep ((Below.refl _ w4).alloc (Nat.le_refl _) _) b5; have HX5 : Hid (RcAt w5 w2.heap.size aX) := HX4.out.below b5'; have HB5 : Hid (Below w1.heap.size w1 w5) := bstep HB4.out b5'; have HS5 : Hid (RdS w5 (.slice a5 aS.length c5) aS) := R5; clear b5 b5' R5)
    | (go_at_call 9; refine (aw_words0 _).mono ?_; rintro e w6 ⟨v6, rfl, R6, b6⟩; obtain ⟨_, a6, c6, rfl⟩ := R6.form; obtain ⟨x0, x1, x2, x3⟩ := (HX5.out.below b6).c; have HB6 : Hid (Below w1.heap.size w1 w6) := bstep HB5.out b6; obtain ⟨g1, o1, rfl, hc1⟩ := (HR1.out.below HB6.out).base (by rw [aL_len]; omega); have y1 := hc1 1 33 aL_1; obtain ⟨g3, o3, rfl, z0, z1, z2⟩ := (HS5.out.below b6).get aS_17; dsimp only [aX] at x0 x1 x2 x3; simp only [Nat.reduceMul, Nat.add_assoc, Nat.reduceAdd] at z0 z1 z2; clear b6 R6 hc1)
    | (go_at_call 15; refine (aw_check _).mono ?_; rintro e w7 ⟨rfl, b7⟩; have HB7 : Hid (Below w.heap.size w w7) := bstep (bstep HB1.out HB6.out) b7))
  go_ret
  exact ⟨rfl, HB7.out⟩
end Go.Proofs.Ytmhojhpfkieioaa
