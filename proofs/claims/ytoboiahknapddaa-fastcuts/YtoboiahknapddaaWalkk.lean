/- Walks of layer 4: what a crash keeps: the closure. -/
import Derived.Test.YtoboiahknapddaaWalkj
import Derived.Test.YtoboiahknapddaaNumb
import Derived.Deep.RegionWith
import Derived.Laws.CopyOwn
namespace Go.Proofs.Ytoboiahknapddaa
open Go.RowKit Go.Shelf
set_option linter.unusedVariables false

theorem same_refl (n : Nat) (W : World) : Same n W W := ⟨Nat.le_refl _, fun _ _ _ => rfl⟩
theorem Same.trans {n : Nat} {a b c : World} (h : Same n a b) (k : Same n b c) : Same n a c := ⟨Nat.le_trans h.1 k.1, fun j h1 h2 => (k.2 j h1 (Nat.lt_of_lt_of_le h2 h.1)).trans (h.2 j h1 h2)⟩
theorem Same.set {n : Nat} {a b : World} (h : Same n a b) {g i : Nat} (hg : g < n) (u : Value) : Same n a (b.setCell ⟨g, i, none⟩ u) := ⟨by rw [Go.Deep.nblk_setCell]; exact h.1, fun j h1 h2 => (Below.heap_setCell b _ u j (by show j ≠ g; omega)).trans (h.2 j h1 h2)⟩
/-- What is held: what is pending, in its box; where a list stands, and one of it. -/
def SD (w : World) (b lb r l : Nat) (x y z u t : Value) (w2 : World) : Prop := (w2.cell? ⟨b, 0, none⟩ = some x ∧ w2.cell? ⟨b, 1, none⟩ = some y ∧ w2.cell? ⟨b, 2, none⟩ = some z) ∧ w2.cell? ⟨lb, 0, none⟩ = some u ∧ w2.cell? ⟨r, l, none⟩ = some t ∧ Below w.heap.size w w2
theorem SD.next {w W w2 : World} {b lb r l : Nat} {x y z u t : Value} (hb : Below W.heap.size W w2) (h : SD w b lb r l x y z u t W) : SD w b lb r l x y z u t w2 := ⟨⟨cell_held h.1.1 hb, cell_held h.1.2.1 hb, cell_held h.1.2.2 hb⟩, cell_held h.2.1 hb, cell_held h.2.2.1 hb, bstep h.2.2.2 hb⟩
theorem OwnI.at {W : World} {B r n c : Nat} {zs : List Int} (h : OwnI W B (.slice (some ⟨r, 0, none⟩) n c) zs) {k : Nat} {x : Int} (hx : zs[k]? = some x) : W.cell? ⟨r, k, none⟩ = some (.int .i64 x) ∧ W.frozen? ⟨r, k, none⟩ = false ∧ ∀ y : Int, OwnI (W.setCell ⟨r, k, none⟩ (.int .i64 y)) B (.slice (some ⟨r, 0, none⟩) n c) (zs.set k y) := by
  obtain ⟨hk, rfl⟩ := List.getElem?_eq_some_iff.1 hx
  obtain ⟨g, e, _, _, ⟨h1, h2⟩, h3⟩ := h.put hk
  cases e
  exact ⟨h1, h2, h3⟩

set_option maxRecDepth 100000 in
set_option maxHeartbeats 2000000 in
theorem crash1_any (q l : Nat) (pv : Int) (pf : Bool) (lb r c B N : Nat) (L : List Int) (x : Int) (w : World) (hql : q / 8 = l) (hq5 : q < 100000) (hc : w.cell? ⟨lb, 0, none⟩ = some (.slice (some ⟨r, 0, none⟩) L.length c)) (hn2 : L.length ≤ 1000)
    (hO : OwnI w B (.slice (some ⟨r, 0, none⟩) L.length c) L) (hx : L[l]? = some x) (hx0 : -9223372036854775808 ≤ x) (hx1 : x < 9223372036854775808) (hBr : B ≤ r) (hrN : r < N) (hlr : lb ≠ r) (hN : N ≤ w.heap.size) :
    Calls Try.prog 53 #[.agg #[.int .i64 (q : Int), .int .i64 pv, .bool pf], .pointer (some ⟨lb, 0, none⟩)] w fun e w' => e = .returned (.bool (crBit x)) ∧ w'.cell? ⟨lb, 0, none⟩ = some (.slice (some ⟨r, 0, none⟩) L.length c) ∧ OwnI w' B (.slice (some ⟨r, 0, none⟩) L.length c) (crSet L l x) ∧ Below B w w' ∧ Same N w w' := by
  obtain ⟨hlL, hxe⟩ := List.getElem?_eq_some_iff.1 hx
  have hln : (l : Int) < (L.length : Int) := by omega
  have b0 : Below w.heap.size w (w.alloc (.cells #[.int .i64 (q : Int), .int .i64 pv, .bool pf] 71)) := (Below.refl _ _).alloc (Nat.le_refl _) _
  have HB : Hid (B ≤ w.heap.size) := by (show B ≤ _; omega)
  have HR : Hid (w.heap.size ≠ r ∧ lb ≠ r ∧ B ≤ r) := ⟨by omega, hlr, hBr⟩
  have HS : Hid (SD w w.heap.size lb r l (.int .i64 (q : Int)) (.int .i64 pv) (.bool pf) (.slice (some ⟨r, 0, none⟩) L.length c) (.int .i64 x) (w.alloc (.cells #[.int .i64 (q : Int), .int .i64 pv, .bool pf] 71))) := ⟨by simp, cell_held hc b0, cell_held (hO.at hx).1 b0, b0⟩
  have HO : Hid (OwnI (w.alloc (.cells #[.int .i64 (q : Int), .int .i64 pv, .bool pf] 71)) B (.slice (some ⟨r, 0, none⟩) L.length c) L) := hO.below b0
  have HM : Hid (Same N w (w.alloc (.cells #[.int .i64 (q : Int), .int .i64 pv, .bool pf] 71))) := Below.sames b0
  have HX : Hid (L[l]? = some x) := hx
  clear b0 hO hxe hx hc
  have HW : Hid (∀ w3, Below w.heap.size w w3 → Below B w w3 ∧ Same N w w3) := fun w3 h => ⟨h.mono HB.out, Below.sames h⟩
  by_cases hpos : 0 < x
  · have HD : Hid (crBit x = true) := decide_eq_true hpos
    have HI : Hid (crSet L l x = L.set l (x - 1)) := if_pos hpos
    have HV : Hid (IntKind.i64.wrap (x - 1) = x - 1) := by (show IntKind.i64.wrap (x - 1) = x - 1; rw [IntKind.wrap_i64]; omega)
    go_enter Try.func53, Try.ntmps53
    go_wp2
    generalize w.alloc (.cells #[.int .i64 (q : Int), .int .i64 pv, .bool pf] 71) = W1 at HS HO ⊢
    go_region_held3 (fun w2 => (w2.cell? ⟨w.heap.size, 0, none⟩ = some (.int .i64 (q : Int)) ∧ w2.cell? ⟨w.heap.size, 1, none⟩ = some (.int .i64 pv) ∧ w2.cell? ⟨w.heap.size, 2, none⟩ = some (.bool pf)) ∧ w2.cell? ⟨lb, 0, none⟩ = some (.slice (some ⟨r, 0, none⟩) L.length c) ∧ w2.cell? ⟨r, l, none⟩ = some (.int .i64 x) ∧ Below w.heap.size w w2)
      (first | exact SD.next (Below.refl _ _).drew HS.out | exact SD.next (by assumption) (by assumption))
      (first | (go_at_call 54; refine (lineOf_nat q l _ _ _ hql hq5).mono ?_; rintro e w3 ⟨rfl, hb3⟩; have hb3' := bstep (Below.refl _ W1).drew hb3; have HO3 : Hid (OwnI w3 B (.slice (some ⟨r, 0, none⟩) L.length c) L) := HO.out.below hb3'; have HS3 : Hid (SD w w.heap.size lb r l (.int .i64 (q : Int)) (.int .i64 pv) (.bool pf) (.slice (some ⟨r, 0, none⟩) L.length c) (.int .i64 x) w3) := SD.next hb3' HS.out))
    go_wp2
    clear hb3 hb3'
    have HS' : Hid (SD w w.heap.size lb r l (.int .i64 (q : Int)) (.int .i64 pv) (.bool pf) (.slice (some ⟨r, 0, none⟩) L.length c) (.int .i64 x) w3.drew) := HS3.out.next (Below.refl _ _).drew
    obtain ⟨⟨p0, p1, p2⟩, pl, px, _⟩ := HS3.out
    go_region_with (first | (go_at_call 54; refine (lineOf_nat q l _ _ _ hql hq5).mono ?_; rintro e w4 ⟨rfl, hb4⟩; have HS4 : Hid (SD w w.heap.size lb r l (.int .i64 (q : Int)) (.int .i64 pv) (.bool pf) (.slice (some ⟨r, 0, none⟩) L.length c) (.int .i64 x) w4) := HS'.out.next hb4; have HO4 : Hid (OwnI w4 B (.slice (some ⟨r, 0, none⟩) L.length c) L) := HO3.out.below (bstep (Below.refl _ w3).drew hb4); obtain ⟨⟨s0, s1, s2⟩, sl, sx, _⟩ := HS4.out; have sf := (HO4.out.at HX.out).2.1))
    all_goals
      go_wp2
      go_ret
      have hb4' := HS4.out.2.2.2
      exact ⟨ret_bool HD.out.symm, (World.cell?_of_block (Below.heap_setCell w4 _ _ _ hlr)).trans HS4.out.2.1, by rw [HI.out, HV.out]; exact (HO4.out.at HX.out).2.2 (x - 1), (HW.out _ hb4').1.setCell (p := ⟨r, l, none⟩) hBr _, (HW.out _ hb4').2.set hrN _⟩
  · have HD : Hid (crBit x = false) := decide_eq_false hpos
    have HI : Hid (crSet L l x = L) := if_neg hpos
    go_enter Try.func53, Try.ntmps53
    go_wp2
    generalize w.alloc (.cells #[.int .i64 (q : Int), .int .i64 pv, .bool pf] 71) = W1 at HS HO ⊢
    go_region_held3 (fun w2 => (w2.cell? ⟨w.heap.size, 0, none⟩ = some (.int .i64 (q : Int)) ∧ w2.cell? ⟨w.heap.size, 1, none⟩ = some (.int .i64 pv) ∧ w2.cell? ⟨w.heap.size, 2, none⟩ = some (.bool pf)) ∧ w2.cell? ⟨lb, 0, none⟩ = some (.slice (some ⟨r, 0, none⟩) L.length c) ∧ w2.cell? ⟨r, l, none⟩ = some (.int .i64 x) ∧ Below w.heap.size w w2)
      (first | exact SD.next (Below.refl _ _).drew HS.out | exact SD.next (by assumption) (by assumption))
      (first | (go_at_call 54; refine (lineOf_nat q l _ _ _ hql hq5).mono ?_; rintro e w3 ⟨rfl, hb3⟩; have hb3' := bstep (Below.refl _ W1).drew hb3; have HO3 : Hid (OwnI w3 B (.slice (some ⟨r, 0, none⟩) L.length c) L) := HO.out.below hb3'; have HS3 : Hid (SD w w.heap.size lb r l (.int .i64 (q : Int)) (.int .i64 pv) (.bool pf) (.slice (some ⟨r, 0, none⟩) L.length c) (.int .i64 x) w3) := SD.next hb3' HS.out))
    go_wp2
    go_ret
    have hb4' := HS3.out.2.2.2
    exact ⟨ret_bool rfl, HS3.out.2.1, by rw [HI.out]; exact HO3.out, (HW.out _ hb4').1, (HW.out _ hb4').2⟩

theorem own_belowN {W W' : World} {base n : Nat} {e : TypeId} {size : Nat} {v : Value} {k : Nat} {xs : List Value} (h : W.ownsRow base e size v k xs) (hb : Below n W W') (hn : ∀ g, v.ownBlock = some g → g < n) : W'.ownsRow base e size v k xs := by
  refine ⟨h.1, ?_⟩
  rcases h.2 with hn | ⟨g, cap, cur, rfl, hg, hgg, rest⟩
  · exact .inl hn
  · exact .inr ⟨g, cap, cur, rfl, hg, (hb.block g (hn g rfl)).trans hgg, rest⟩
theorem tells_crash (m : Mm) (L : List Int) (lb r c B N : Nat) (hI : InPl m.per.length m.pend) (hl : m.per.length ≤ 1000) (h8 : m.per.length % 8 = 0) (hL : L.length = m.per.length / 8) (hBd : Bd L) (hBr : B ≤ r) (hrN : r < N) (hlN : lb < N) (hlr : lb ≠ r) :
    Tells m (crB L m.pend) 53 #[.pointer (some ⟨lb, 0, none⟩)] B N (fun k W => W.cell? ⟨lb, 0, none⟩ = some (.slice (some ⟨r, 0, none⟩) L.length c) ∧ OwnI W B (.slice (some ⟨r, 0, none⟩) L.length c) (crL L (m.pend.take k))) := by
  refine ⟨enter53, crB_length _ _, ?_, ?_⟩
  · rintro k W W' ⟨h1, h2⟩ hb
    exact ⟨(hb.cell (p := ⟨lb, 0, none⟩) hlN).trans h1, own_belowN h2 hb (fun g hg => by have : r = g := by simpa [Value.ownBlock] using hg
                                                                                         omega)⟩
  · rintro k p b W hp hb ⟨hc, hO⟩ hn
    rw [crB_get L _ k p hp] at hb
    cases hb
    have hin := hI p (List.mem_of_getElem? hp)
    have hT := take_next hp
    have hlen := crL_length L (m.pend.take k)
    have hx := bd_get (bd_all hBd (m.pend.take k)) (lnN p)
    rw [hT, crL_snoc]
    unfold crStep
    generalize crL L (m.pend.take k) = L1 at hO hlen hx ⊢
    obtain ⟨pa, pv, pf⟩ := p
    dsimp only at hin
    obtain ⟨q, rfl⟩ := Int.eq_ofNat_of_zero_le hin.1
    have hln : lnN ⟨(q : Int), pv, pf⟩ = q / 8 := by show ((q : Int) / 8).toNat = _; omega
    rw [hln] at hx ⊢
    have hxe : L1[q / 8]? = some (L1.getD (q / 8) 0) := by
      rw [List.getD_eq_getElem?_getD, List.getElem?_eq_getElem (show q / 8 < L1.length by omega)]
      rfl
    generalize L1.getD (q / 8) 0 = x at hx hxe ⊢
    rw [← hlen] at hc hO ⊢
    refine (crash1_any q (q / 8) pv pf lb r c B N L1 x W rfl (by omega) hc (by omega) hO hxe hx.1 hx.2 hBr hrN hlr hn).mono ?_
    rintro e W' ⟨rfl, h1, h2, h3, h4⟩
    exact ⟨rfl, ⟨h1, h2⟩, h3, h4⟩

/-- 'copy(left, keep)': a row of noughts of the call's own, and a slice that is read. -/
theorem copy_left {W : World} {ops : Array Oper} {rest : List Oper} {o : Oper} {a : Act} {Q : Exit → Act → World → Prop} (hgd : o.guard = none) (d s : Operand)
    (ho : o.op = .call { callee := .builtin .copy, args := #[d, s], argTypes := #[22, 22] }) (base g n : Nat) (v2 : Value) (zs : List Int)
    (hO : OwnI W base (.slice (some ⟨g, 0, none⟩) n n) (List.replicate n 0)) (hR : Rd W v2 zs) (hd : a.eval d = .slice (some ⟨g, 0, none⟩) n n) (hs : a.eval s = v2)
    (h : ∀ k W', OwnI W' base (.slice (some ⟨g, 0, none⟩) n n) (leftL zs n) → Below base W W' → (∀ j, j ≠ g → W'.heap[j]? = W.heap[j]?) → wpList Try.prog ops Q rest (a.put o.dst (goInt k)) W') : wpList Try.prog ops Q (o :: rest) a W := by
  have hsz : (Try.prog.info? 3).map (·.size) = some 1 := by
    obtain ⟨i0, hi, _, hz1, _⟩ := info_parts Try.info3
    rw [hi]; simp [hz1]
  have hOe : leftL [] n = List.replicate n 0 := by simp [leftL]
  obtain ⟨hl, hk, ad, cap, rfl, -, h3⟩ := hR
  by_cases h0 : Nat.min zs.length n = 0
  · refine wpList_copy_nothing hgd d s 22 22 ho 3 Try.underlying22 hsz _ _ _ _ _ _ hd hs h0 ?_
    refine h _ W ?_ (Below.refl _ _) (fun _ _ => rfl)
    have : leftL zs n = List.replicate n 0 := by
      unfold leftL
      have e : zs.take n = [] := by
        have : min zs.length n = 0 := h0
        rw [List.take_eq_nil_iff]
        rcases Nat.min_eq_zero_iff.1 this with e | e
        · exact .inr (List.eq_nil_of_length_eq_zero e)
        · exact .inl e
      rw [e]; simp
    rw [this]; exact hO
  · rcases h3 with ⟨hz, _⟩ | ⟨b, off, rfl, _, hc⟩
    · rw [hz] at h0; simp at h0
    · unfold OwnI at hO
      rw [List.length_replicate] at hO
      rcases hO.2 with ⟨e, _⟩ | ⟨g', cap', cur, e, hbg, hg, hn, hm, hcs, htk⟩
      · cases e
      · cases e
        have hcur : cur.toList = (List.replicate n (0 : Int)).map (Value.int .i64) := by
          rw [← htk, List.take_of_length_le]
          rw [Array.length_toList, hcs]
          exact Nat.le_refl _
        refine wpList_copy_own hgd d s 22 22 ho 3 Try.underlying22 hsz g 0 n n ⟨b, off, none⟩ zs.length cap hd hs cur 3 hg ((zs.take n).map (Value.int .i64)) (by simp; rw [Nat.min_comm]) ?_ ?_ (ints_one _) ?_
        · intro j v hv
          rw [Addr.add_lit]
          refine hc j v ?_
          rw [← hv, List.map_take, List.getElem?_take]
          have hj := (List.getElem?_eq_some_iff.1 hv).1
          rw [if_pos (by simp at hj; omega)]
        · rw [hcs]; simp; omega
        · refine h _ _ ?_ (below_setRow (Below.refl _ _) hbg _) (fun j hj => setRow_other W g j _ hj)
          have e : (cur.toList.take 0 ++ ((zs.take n).map (Value.int .i64) ++ cur.toList.drop (0 + ((zs.take n).map (Value.int .i64)).length))) = (leftL zs n).map (Value.int .i64) := by
            rw [hcur]
            unfold leftL
            simp
          have hll : ((leftL zs n).map (Value.int .i64)).length = n := by rw [List.length_map, leftL_length]
          rw [e]
          unfold OwnI
          rw [leftL_length]
          refine ⟨by rw [hll, Nat.mul_one], .inr ⟨g, n, _, rfl, hbg, setRow_heap W g cur _ 3 (0, 0) hg, Nat.le_refl _, hm, by simp [leftL_length], ?_⟩⟩
          rw [List.take_of_length_le (by simp [leftL_length])]
end Go.Proofs.Ytoboiahknapddaa
