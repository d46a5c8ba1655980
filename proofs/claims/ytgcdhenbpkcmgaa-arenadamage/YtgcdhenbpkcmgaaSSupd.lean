/- Set over from a lower layer: Supd. -/
import Derived.Test.YtgcdhenbpkcmgaaNNodz
import Derived.Test.YtgcdhenbpkcmgaaNNumz
import Derived.Test.YtgcdhenbpkcmgaaBase
import Derived.Test.YtgcdhenbpkcmgaaSSupa
import Derived.Laws.StructEq
namespace Go.Proofs.Ytgcdhenbpkcmgaa
open Go.RowKit Go.Shelf
set_option linter.unusedVariables false
theorem eq_arr (w : World) (d : Nat) (xs ys : List Int) (hx : xs.length = 12) (hy : ys.length = 12) :
    (Op.equalIn (d + 2) 66 (.agg (xs.map (Value.int .i64)).toArray) (.agg (ys.map (Value.int .i64)).toArray)).run Try.prog w = .ok (xs == ys) w := by
  have ht := Try.underlying66
  have he := Try.underlying3
  have hsz : ∀ w, (sizeOf 3).run Try.prog w = .ok 1 w := fun w => Try.sizeOf3 w
  rw [← all_range_int xs ys (hx.trans hy.symm), hx, List.range_eq_range', Op.equalIn]
  simp only [Sem.run_bind, run_underlying ht, Result.andThen_ok, hsz, Std.Legacy.Range.forIn_eq_forIn_range', Std.Legacy.Range.size, Nat.sub_zero, Nat.add_sub_cancel, Nat.div_one]
  have hl : ∀ i ∈ List.range' 0 12 1, i < 12 := fun i hi => by simpa using (List.mem_range'_1.1 hi).2
  generalize List.range' 0 12 1 = l at hl ⊢
  induction l with
  | nil => simp
  | cons i l ih =>
    have hi : i < 12 := hl i (by simp)
    have px : (part 3 (xs.map (Value.int .i64)).toArray (i * 1)).run Try.prog w = .ok (.int .i64 (xs.getD i 0)) w := by
      simp [part, isAgg, run_underlying he, List.getD, List.getElem?_eq_getElem (show i < xs.length by omega)]
    have py : (part 3 (ys.map (Value.int .i64)).toArray (i * 1)).run Try.prog w = .ok (.int .i64 (ys.getD i 0)) w := by
      simp [part, isAgg, run_underlying he, List.getD, List.getElem?_eq_getElem (show i < ys.length by omega)]
    have pe : (Op.equalIn (d + 1) 3 (.int .i64 (xs.getD i 0)) (.int .i64 (ys.getD i 0))).run Try.prog w = .ok (xs.getD i 0 == ys.getD i 0) w := run_equalIn_int w d 3 .i64 .i64 _ _ he
    simp only [List.forIn_cons, Sem.run_bind, px, py, pe, Result.andThen_ok, List.all_cons]
    cases hb : (xs.getD i 0 == ys.getD i 0)
    · simp
    · simp only [Bool.not_true, Bool.false_eq_true, if_false, Sem.run_pure, Result.andThen_ok, Bool.true_and]
      exact ih fun j hj => hl j (by simp [hj])
theorem list16 {l : List Int} (h : l.length = 16) : ∃ x0 x1 x2 x3 r, l = x0 :: x1 :: x2 :: x3 :: r ∧ r.length = 12 := by
  match l, h with
  | x0 :: x1 :: x2 :: x3 :: r, h => exact ⟨x0, x1, x2, x3, r, rfl, by simpa using h⟩
theorem part46 (x0 x1 x2 x3 : Int) (r : List Int) (h : r.length = 12) (w : World) : (part 66 ((x0 :: x1 :: x2 :: x3 :: r).map (Value.int .i64)).toArray 4).run Try.prog w = .ok (.agg (r.map (Value.int .i64)).toArray) w := by
  have hu := Try.underlying66
  have hs : ∀ w, (sizeOf 66).run Try.prog w = .ok 12 w := fun w => Try.sizeOf66 w
  simp [part, isAgg, run_underlying hu, hs]
  exact List.take_of_length_le (by simp [h])
theorem part3 (L : List Int) (k : Nat) (x : Int) (h : L[k]? = some x) (w : World) : (part 3 (L.map (Value.int .i64)).toArray k).run Try.prog w = .ok (.int .i64 x) w := by
  have he := Try.underlying3
  simp [part, isAgg, run_underlying he, h]
theorem neq48 (w : World) (xs ys : List Int) (hx : xs.length = 16) (hy : ys.length = 16) : (binOp .neq 68 (.agg (xs.map (Value.int .i64)).toArray) (.agg (ys.map (Value.int .i64)).toArray)).run Try.prog w = .ok (.bool (!decide (xs = ys))) w := by
  obtain ⟨x0, x1, x2, x3, r, rfl, hr⟩ := list16 hx
  obtain ⟨y0, y1, y2, y3, s, rfl, hs⟩ := list16 hy
  have u3 := Try.underlying3
  have hS : Try.prog.underlying 68 = some (.struct (Try.prog.fieldsOf 68)) := by kernel_rfl
  have hp : Try.prog.stoodInHeld 68 = false := by kernel_rfl
  have e : ∀ (x y : Int), (Op.equalIn 9999 3 (.int .i64 x) (.int .i64 y)).run Try.prog w = .ok (x == y) w := fun x y => run_equalIn_int w 9998 3 .i64 .i64 _ _ u3
  have ea : (Op.equalIn 9999 66 (.agg (r.map (Value.int .i64)).toArray) (.agg (s.map (Value.int .i64)).toArray)).run Try.prog w = .ok (r == s) w := eq_arr w 9997 r s hr hs
  have p46 := part46 x0 x1 x2 x3 r hr w
  have q46 := part46 y0 y1 y2 y3 s hs w
  have p0 := part3 (x0 :: x1 :: x2 :: x3 :: r) 0 x0 rfl w
  have p1 := part3 (x0 :: x1 :: x2 :: x3 :: r) 1 x1 rfl w
  have p2 := part3 (x0 :: x1 :: x2 :: x3 :: r) 2 x2 rfl w
  have p3 := part3 (x0 :: x1 :: x2 :: x3 :: r) 3 x3 rfl w
  have q0 := part3 (y0 :: y1 :: y2 :: y3 :: s) 0 y0 rfl w
  have q1 := part3 (y0 :: y1 :: y2 :: y3 :: s) 1 y1 rfl w
  have q2 := part3 (y0 :: y1 :: y2 :: y3 :: s) 2 y2 rfl w
  have q3 := part3 (y0 :: y1 :: y2 :: y3 :: s) 3 y3 rfl w
  rw [run_neq_struct, show (10000 : Nat) = 9999 + 1 from rfl, run_equalIn_agg w 9999 68 _ _ hS hp]
  simp only [Program.fieldsOf, Try.underlying68]
  obtain ⟨X, hX⟩ : ∃ X, X = ((x0 :: x1 :: x2 :: x3 :: r).map (Value.int .i64)).toArray := ⟨_, rfl⟩
  obtain ⟨Y, hY⟩ : ∃ Y, Y = ((y0 :: y1 :: y2 :: y3 :: s).map (Value.int .i64)).toArray := ⟨_, rfl⟩
  rw [← hX] at p0 p1 p2 p3 p46 ⊢
  rw [← hY] at q0 q1 q2 q3 q46 ⊢
  simp [Op.eqFields, p0, p1, p2, p3, q0, q1, q2, q3, p46, q46, e, ea]
  clear p0 p1 p2 p3 q0 q1 q2 q3 p46 q46 hX hY
  by_cases h0 : x0 = y0 <;> by_cases h1 : x1 = y1 <;> by_cases h2 : x2 = y2 <;> by_cases h3 : x3 = y3 <;> by_cases h4 : r = s <;> simp [h0, h1, h2, h3, h4]
end Go.Proofs.Ytgcdhenbpkcmgaa
