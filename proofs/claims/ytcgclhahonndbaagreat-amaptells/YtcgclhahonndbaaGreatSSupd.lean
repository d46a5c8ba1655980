/- Set over from a lower layer: SSupb. · Set over from a lower layer: SSupd. -/
import Derived.Test.YtcgclhahonndbaaGreatSSumz
import Derived.Test.YtcgclhahonndbaaGreatBase
import Derived.Test.YtcgclhahonndbaaGreatNNodz
import Derived.Test.YtcgclhahonndbaaGreatSSupa
import Derived.Test.YtcgclhahonndbaaGreatRReca
import Derived.Test.YtcgclhahonndbaaGreatNNumz
import Derived.Laws.StructEq
namespace Go.Proofs.YtcgclhahonndbaaGreat
open Go.RowKit Go.Shelf
set_option linter.unusedVariables false
def S4 (b off : Nat) (x0 x1 x2 x3 : Int) (W : World) : Prop := W.cell? ⟨b, off, none⟩ = some (.int .i64 x0) ∧ W.cell? ⟨b, off + 1, none⟩ = some (.int .i64 x1) ∧ W.cell? ⟨b, off + 2, none⟩ = some (.int .i64 x2) ∧ W.cell? ⟨b, off + 3, none⟩ = some (.int .i64 x3)
theorem S4.of {W : World} {b off n c : Nat} {zs : List Int} {x0 x1 x2 x3 : Int} (h : Rl W (.slice (some ⟨b, off, none⟩) n c) zs) (h0 : zs[0]? = some x0) (h1 : zs[1]? = some x1) (h2 : zs[2]? = some x2) (h3 : zs[3]? = some x3) : S4 b off x0 x1 x2 x3 W :=
  ⟨h.cell h0, h.cell h1, h.cell h2, h.cell h3⟩
def hd4 (x0 x1 x2 x3 : Int) : List Int := [x0, x1, x2, x3, 0, 0, 0, 0, 0, 0, 0, 0, 0, 0, 0, 0]
theorem hd4_splice {zs : List Int} {x0 x1 x2 x3 : Int} (h0 : zs[0]? = some x0) (h1 : zs[1]? = some x1) (h2 : zs[2]? = some x2) (h3 : zs[3]? = some x3) (h : 16 ≤ zs.length) : splice (hd4 x0 x1 x2 x3) 4 ((zs.drop 4).take 12) = zs.take 16 := by
  match zs with
  | y0 :: y1 :: y2 :: y3 :: ys =>
    simp at h0 h1 h2 h3
    subst h0 h1 h2 h3
    simp [splice, hd4]
    simp at h
    omega
  | [] => simp at h
  | [_] => simp at h
  | [_, _] => simp at h
  | [_, _, _] => simp at h
set_option maxRecDepth 100000 in
set_option maxHeartbeats 2000000 in
theorem taken_any (v : Value) (zs : List Int) (w : World) (hR : Rl w v zs) (h32 : 32 ≤ zs.length) : Calls Tryz.prog 112 #[v] w fun e w' => e = .returned (.agg ((zs.take 16).map (Value.int .i64)).toArray) ∧ Below w.heap.size w w' := by
  obtain ⟨hl, a, cap, rfl, hcap⟩ := hR.form
  obtain ⟨b, off, rfl, hc⟩ := hR.base (by omega)
  obtain ⟨x0, h0⟩ : ∃ x, zs[0]? = some x := ⟨_, List.getElem?_eq_getElem (by omega)⟩
  obtain ⟨x1, h1⟩ : ∃ x, zs[1]? = some x := ⟨_, List.getElem?_eq_getElem (by omega)⟩
  obtain ⟨x2, h2⟩ : ∃ x, zs[2]? = some x := ⟨_, List.getElem?_eq_getElem (by omega)⟩
  obtain ⟨x3, h3⟩ : ∃ x, zs[3]? = some x := ⟨_, List.getElem?_eq_getElem (by omega)⟩
  obtain ⟨n, hn⟩ : ∃ n, zs.length = n := ⟨_, rfl⟩
  have HN : Hid (zs.length = n) := hn
  rw [hn] at hl hcap hR h32 ⊢
  clear hn hc
  have d0 : (0 : Int) < (n : Int) := by omega
  have e0 : 0 < n := by omega
  have e1 : ¬ n = 0 := by omega
  have d1 : (1 : Int) < (n : Int) := by omega
  have d2 : (2 : Int) < (n : Int) := by omega
  have d3 : (3 : Int) < (n : Int) := by omega
  have d4 : (4 : Int) ≤ (n : Int) := by omega
  have d5 : (4 : Int) ≤ (cap : Int) := by omega
  have d6 : ¬ cap = 4 := by omega
  go_enter Tryz.func112, Tryz.ntmps112
  go_wp2
  generalize hW : World.alloc _ _ = W
  have hs1 : W.heap.size = w.heap.size + 1 := by rw [← hW]; simp
  have Z0 : Hid (SHw W.drew w.heap.size zeros16) := show SHw _ _ _ by rw [← hW]; exact Shw_new w zeros16
  have ZW : Hid (SHw W w.heap.size zeros16) := show SHw _ _ _ by rw [← hW]; exact Shw_new w zeros16
  have B0 : Hid (Below w.heap.size w W.drew) := show Below _ _ _ by rw [← hW]; exact ((Below.refl _ w).alloc (Nat.le_refl _) _).drew
  have BW : Below w.heap.size w W := by rw [← hW]; exact (Below.refl _ w).alloc (Nat.le_refl _) _
  clear hW
  have RW : Hid (Rl W (.slice (some ⟨b, off, none⟩) n cap) zs) := hR.below BW
  have R0 : Hid (Rl W.drew (.slice (some ⟨b, off, none⟩) n cap) zs) := hR.below B0.out
  have S0 : Hid (S4 b off x0 x1 x2 x3 W.drew) := S4.of R0.out h0 h1 h2 h3
  go_region_held3 (fun W2 => W2.cell? ⟨b, off, none⟩ = some (.int .i64 x0) ∧ W2.cell? ⟨b, off + 1, none⟩ = some (.int .i64 x1) ∧ W2.cell? ⟨b, off + 2, none⟩ = some (.int .i64 x2) ∧ W2.cell? ⟨b, off + 3, none⟩ = some (.int .i64 x3))
    (first | exact S0.out | exact S4.of (RW.out.below ((Below.refl _ _).alloc (Nat.le_refl _) _).drew) h0 h1 h2 h3)
    (fail)
  go_wp2
  generalize hW1 : World.drew (World.alloc _ _) = W1
  have I1 : Hid (SHw W1.drew (w.heap.size + 1) (hd4 x0 x1 x2 x3)) := show SHw _ _ _ by rw [← hW1, ← hs1]; exact Shw_new W (hd4 x0 x1 x2 x3)
  have B1 : Below W.heap.size W W1 := by rw [← hW1]; exact ((Below.refl _ W).alloc (Nat.le_refl _) _).drew
  clear hW1
  have Z1 : Hid (SHw W1.drew w.heap.size zeros16) := show SHw _ _ _ from ZW.out.below B1.drew
  have R1 : Hid (Rl W1.drew (.slice (some ⟨b, off + 4, none⟩) (n - 4) (cap - 4)) (zs.drop 4)) := show Rl _ _ _ from ((RW.out.below B1).below (Below.refl _ _).drew).drop 4 (by have := HN.out; omega)
  have BB : Hid (Below w.heap.size w W1.drew) := show Below _ _ _ from (bstep BW B1).drew
  clear Z0 ZW B0 RW R0 S0 B1 BW hs1
  go_region_held3 (fun _ => True) (exact trivial)
    (first
      | (refine Sstep_hw rfl (.tmp 18) (.tmp 20) rfl (w.heap.size + 1) 4 12 12 (zs.drop 4) (hd4 x0 x1 x2 x3) _ rfl rfl R1.out I1.out (Nat.le_refl 16) ?_; intro w2 I2 hb2))
  rw [hd4_splice h0 h1 h2 h3 (by have := HN.out; omega)] at I2
  have l16 : (zs.take 16).length = 16 := by have := HN.out; simp; omega
  have Z2 : SHw w2 w.heap.size zeros16 := Z1.out.belowN hb2 (by omega)
  have B2 : Below w.heap.size w w2 := BB.out.trans (hb2.mono (by omega))
  have hrange := I2.range
  have hthere : w2.there w.heap.size 0 ((zs.take 16).map (Value.int .i64)).toArray.size := by
    have := Z2.there
    have e : ((zs.take 16).map (Value.int .i64)).toArray.size = 16 := by rw [List.size_toArray, List.length_map, l16]
    rw [e]
    exact this
  have hlaid := Z2.laid (zs.take 16) l16
  have hs1 := Shw_size l16
  have hs2 := Shw_sizeL l16
  have ho := hw_one (zs.take 16)
  obtain ⟨M, hM⟩ : ∃ M, M = zs.take 16 := ⟨_, rfl⟩
  rw [← hM] at hrange hthere hlaid hs1 hs2 ho
  have HM : Hid (M = zs.take 16) := hM
  clear hM l16
  clear I1 Z1 R1 BB I2 Z2 hb2
  go_wp2_with (first
    | refine wpList_load_mid rfl 83 _ rfl (w.heap.size + 1) 0 rfl (M.map (Value.int .i64)) _ hrange Tryz.underlying83 rfl hs2 ?_
    | refine wpList_store_mid rfl 83 _ _ rfl w.heap.size 0 (M.map (Value.int .i64)).toArray rfl rfl hthere hs1 ho ?_)
  refine bodyPost_ret (v := .agg (M.map (Value.int .i64)).toArray) ?_ rfl ⟨by rw [HM.out], Sm.below_setCells _ _ _ (by omega) B2⟩
  have := run_loadVar_mid (P := Tryz.prog) _ w.heap.size 0 83 (M.map (Value.int .i64)) _ hlaid Tryz.underlying83 rfl hs2
  simp [results, Tryz.results112, asAddr, Act.put, this]
end Go.Proofs.YtcgclhahonndbaaGreat
namespace Go.Proofs.YtcgclhahonndbaaGreat
open Go.RowKit Go.Shelf
set_option linter.unusedVariables false
theorem eq_arr (w : World) (d : Nat) (xs ys : List Int) (hx : xs.length = 12) (hy : ys.length = 12) :
    (Op.equalIn (d + 2) 81 (.agg (xs.map (Value.int .i64)).toArray) (.agg (ys.map (Value.int .i64)).toArray)).run Tryz.prog w = .ok (xs == ys) w := by
  have ht := Tryz.underlying81
  have he := Tryz.underlying3
  have hsz : ∀ w, (sizeOf 3).run Tryz.prog w = .ok 1 w := fun w => Tryz.sizeOf3 w
  rw [← all_range_int xs ys (hx.trans hy.symm), hx, List.range_eq_range', Op.equalIn]
  simp only [Sem.run_bind, run_underlying ht, Result.andThen_ok, hsz, Std.Legacy.Range.forIn_eq_forIn_range', Std.Legacy.Range.size, Nat.sub_zero, Nat.add_sub_cancel, Nat.div_one]
  have hl : ∀ i ∈ List.range' 0 12 1, i < 12 := fun i hi => by simpa using (List.mem_range'_1.1 hi).2
  generalize List.range' 0 12 1 = l at hl ⊢
  induction l with
  | nil => simp
  | cons i l ih =>
    have hi : i < 12 := hl i (by simp)
    have px : (part 3 (xs.map (Value.int .i64)).toArray (i * 1)).run Tryz.prog w = .ok (.int .i64 (xs.getD i 0)) w := by
      simp [part, isAgg, run_underlying he, List.getD, List.getElem?_eq_getElem (show i < xs.length by omega)]
    have py : (part 3 (ys.map (Value.int .i64)).toArray (i * 1)).run Tryz.prog w = .ok (.int .i64 (ys.getD i 0)) w := by
      simp [part, isAgg, run_underlying he, List.getD, List.getElem?_eq_getElem (show i < ys.length by omega)]
    have pe : (Op.equalIn (d + 1) 3 (.int .i64 (xs.getD i 0)) (.int .i64 (ys.getD i 0))).run Tryz.prog w = .ok (xs.getD i 0 == ys.getD i 0) w := run_equalIn_int w d 3 .i64 .i64 _ _ he
    simp only [List.forIn_cons, Sem.run_bind, px, py, pe, Result.andThen_ok, List.all_cons]
    cases hb : (xs.getD i 0 == ys.getD i 0)
    · simp
    · simp only [Bool.not_true, Bool.false_eq_true, if_false, Sem.run_pure, Result.andThen_ok, Bool.true_and]
      exact ih fun j hj => hl j (by simp [hj])
theorem list16 {l : List Int} (h : l.length = 16) : ∃ x0 x1 x2 x3 r, l = x0 :: x1 :: x2 :: x3 :: r ∧ r.length = 12 := by
  match l, h with
  | x0 :: x1 :: x2 :: x3 :: r, h => exact ⟨x0, x1, x2, x3, r, rfl, by simpa using h⟩
theorem part46 (x0 x1 x2 x3 : Int) (r : List Int) (h : r.length = 12) (w : World) : (part 81 ((x0 :: x1 :: x2 :: x3 :: r).map (Value.int .i64)).toArray 4).run Tryz.prog w = .ok (.agg (r.map (Value.int .i64)).toArray) w := by
  have hu := Tryz.underlying81
  have hs : ∀ w, (sizeOf 81).run Tryz.prog w = .ok 12 w := fun w => Tryz.sizeOf81 w
  simp [part, isAgg, run_underlying hu, hs]
  exact List.take_of_length_le (by simp [h])
theorem part3 (L : List Int) (k : Nat) (x : Int) (h : L[k]? = some x) (w : World) : (part 3 (L.map (Value.int .i64)).toArray k).run Tryz.prog w = .ok (.int .i64 x) w := by
  have he := Tryz.underlying3
  simp [part, isAgg, run_underlying he, h]
theorem neq48 (w : World) (xs ys : List Int) (hx : xs.length = 16) (hy : ys.length = 16) : (binOp .neq 83 (.agg (xs.map (Value.int .i64)).toArray) (.agg (ys.map (Value.int .i64)).toArray)).run Tryz.prog w = .ok (.bool (!decide (xs = ys))) w := by
  obtain ⟨x0, x1, x2, x3, r, rfl, hr⟩ := list16 hx
  obtain ⟨y0, y1, y2, y3, s, rfl, hs⟩ := list16 hy
  have u3 := Tryz.underlying3
  have hS : Tryz.prog.underlying 83 = some (.struct (Tryz.prog.fieldsOf 83)) := by kernel_rfl
  have hp : Tryz.prog.stoodInHeld 83 = false := by kernel_rfl
  have e : ∀ (x y : Int), (Op.equalIn 9999 3 (.int .i64 x) (.int .i64 y)).run Tryz.prog w = .ok (x == y) w := fun x y => run_equalIn_int w 9998 3 .i64 .i64 _ _ u3
  have ea : (Op.equalIn 9999 81 (.agg (r.map (Value.int .i64)).toArray) (.agg (s.map (Value.int .i64)).toArray)).run Tryz.prog w = .ok (r == s) w := eq_arr w 9997 r s hr hs
  have p46 := part46 x0 x1 x2 x3 r hr w
  have q46 := part46 y0 y1 y2 y3 s hs w
  have p0 := part3 (x0 :: x1 :: x2 :: x3 :: r) 0 x0 rfl w
  have p1 := part3 (x0 :: x1 :: x2 :: x3 :: r) 1 x1 rfl w
  have p2 := part3 (x0 :: x1 :: x2 :: x3 :: r) 2 x2 rfl w
  have p3 := part3 (x0 :: x1 :: x2 :: x3 :: r) 3 x3 rfl w
  have q0 := part3 (y0 :: y1 :: y2 :: y3 :: s) 0 y0 rfl w
  have q1 := part3 (y0 :: y1 :: y2 :: y3 :: s) 1 y1 rfl w
  have q2 := part3 (y0 :: y1 :: y2 :: y3 :: s) 2 y2 rfl w
  have q3 := part3 (y0 :: y1 :: y2 :: y3 :: s) 3 y3 rfl w
  rw [run_neq_struct, show (10000 : Nat) = 9999 + 1 from rfl, run_equalIn_agg w 9999 83 _ _ hS hp]
  simp only [Program.fieldsOf, Tryz.underlying83]
  obtain ⟨X, hX⟩ : ∃ X, X = ((x0 :: x1 :: x2 :: x3 :: r).map (Value.int .i64)).toArray := ⟨_, rfl⟩
  obtain ⟨Y, hY⟩ : ∃ Y, Y = ((y0 :: y1 :: y2 :: y3 :: s).map (Value.int .i64)).toArray := ⟨_, rfl⟩
  rw [← hX] at p0 p1 p2 p3 p46 ⊢
  rw [← hY] at q0 q1 q2 q3 q46 ⊢
  simp [Op.eqFields, p0, p1, p2, p3, q0, q1, q2, q3, p46, q46, e, ea]
  clear p0 p1 p2 p3 q0 q1 q2 q3 p46 q46 hX hY
  by_cases h0 : x0 = y0 <;> by_cases h1 : x1 = y1 <;> by_cases h2 : x2 = y2 <;> by_cases h3 : x3 = y3 <;> by_cases h4 : r = s <;> simp [h0, h1, h2, h3, h4]
end Go.Proofs.YtcgclhahonndbaaGreat
