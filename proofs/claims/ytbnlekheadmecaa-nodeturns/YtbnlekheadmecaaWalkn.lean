/- Walks of layer 4: Flush. -/
import Derived.Test.YtbnlekheadmecaaWalkk
import Derived.Test.YtbnlekheadmecaaNuma
namespace Go.Proofs.Ytbnlekheadmecaa
open Go.RowKit Go.Shelf
set_option linter.unusedVariables false

attribute [local go_sem] Oper.semAt_some

set_option maxRecDepth 100000 in
theorem ofLine_in (n : Nat) (a : Option Addr) (len cap : Nat) (line : Int) (w : World) :
    CallsIn Fence.wide n Try.prog 59 #[.slice a len cap, .int .i64 line] w fun e w' => e = .returned (.func (.func 61) #[] #[.pointer (some ⟨w.heap.size, 0, none⟩), .pointer (some ⟨w.heap.size + 1, 0, none⟩)]) ∧ w' = (w.alloc (.cells #[.slice a len cap] 41)).alloc (.cells #[.int .i64 line] 3) := by
  refine callsIn_of_wp Try.func59 rfl trivial ?_ rfl
  simp only [Try.ntmps59, List.size_toArray, List.length_cons, List.length_nil, Nat.reduceAdd, Nat.reduceSub, Array.replicate_succ, Array.replicate_zero, List.push_toArray, List.append_toArray, List.nil_append, List.cons_append]
  gi_wp2
  go_ret
  exact ⟨rfl, rfl⟩
theorem ofLine_stops (n : Nat) (hn : 1 ≤ n) (Bs Bl n₀ : Nat) (a : Option Addr) (cap : Nat) (ps : List Pd) (line : Int) (w : World) (hBs : w.cell? ⟨Bs, 0, none⟩ = some (.slice a ps.length cap)) (hBl : w.cell? ⟨Bl, 0, none⟩ = some (.int .i64 line)) (hP : ∀ W', Below n₀ w W' → RdP W' (.slice a ps.length cap) ps) (hI : ∀ p ∈ ps, 0 ≤ p.a ∧ p.a < 1000) (hn0 : n₀ ≤ w.heap.size) :
    SeqStopsK Fence.wide n Try.prog 61 #[.pointer (some ⟨Bs, 0, none⟩), .pointer (some ⟨Bl, 0, none⟩)] (fun x : Fin ps.length => #[Value.int .i64 (x.1 : Int)]) (Kps n₀ Bl) (fun xs => ∀ j : Fin ps.length, j ∈ xs ↔ (ps[j.1]'j.2).a / 8 = line) (fun _ => True) ps.length w := fun l J Jx W hW hAb _ hY h0 =>
  ofLine1_in n hn l Bs Bl n₀ W.heap.size a cap ps line J Jx hAb hY W (cell_held hBs hW) (cell_held hBl hW) (fun W' h => hP W' ((hW.mono hn0).trans h)) hI (Nat.le_trans hn0 hW.size) h0

theorem Bx.bare {W W' : World} {row : Option Nat} {b : Nat} {va vb vc : Value} (h : Bx W b va vb vc) (hg : W.grownBy W' row) (hr : ∀ r, row = some r → ∃ o : Obj, W.heap[r]? = some o ∧ o.isCells = false) : Bx W' b va vb vc := by
  obtain ⟨o, ho, hc⟩ := cells_of_cell h.1.1
  exact h.kept (grownBy_keeps_cells hg hr ho hc)
theorem own_bare {W W' : World} {row : Option Nat} {base : Nat} {e : TypeId} {size : Nat} {v : Value} {k : Nat} {xs : List Value} (h : W.ownsRow base e size v k xs) (hg : W.grownBy W' row) (hr : ∀ r, row = some r → ∃ o : Obj, W.heap[r]? = some o ∧ o.isCells = false) : W'.ownsRow base e size v k xs := by
  refine ⟨h.1, ?_⟩
  rcases h.2 with hn | ⟨g, cap, cur, rfl, hg', hgg, rest⟩
  · exact .inl hn
  · exact .inr ⟨g, cap, cur, rfl, hg', (grownBy_keeps_cells hg hr hgg rfl).trans hgg, rest⟩
theorem Out.bare {W W' : World} {row : Option Nat} {base ob : Nat} {v1 v2 v3 : Value} {m : Mm} (h : Out W base ob v1 v2 v3 m) (hg : W.grownBy W' row) (hr : ∀ r, row = some r → ∃ o : Obj, W.heap[r]? = some o ∧ o.isCells = false) : Out W' base ob v1 v2 v3 m :=
  ⟨h.box.bare hg hr, ⟨own_bare h.own.vol hg hr, own_bare h.own.per hg hr, own_bare h.own.pend hg hr, h.own.ab, h.own.ac, h.own.bc⟩, h.hb, h.n1, h.n2, h.n3⟩
theorem RdC.bare {W W' : World} {row : Option Nat} {size : Nat} {v : Value} {n : Nat} {xs : List Value} (h : RdC W size v n xs) (hg : W.grownBy W' row) (hr : ∀ r, row = some r → ∃ o : Obj, W.heap[r]? = some o ∧ o.isCells = false) : RdC W' size v n xs := by
  obtain ⟨h1, h2, a, cap, rfl, hcap, h3⟩ := h
  refine ⟨h1, h2, a, cap, rfl, hcap, ?_⟩
  rcases h3 with h | ⟨b, off, rfl, hlt, hc⟩
  · exact .inl h
  · exact .inr ⟨b, off, rfl, Nat.lt_of_lt_of_le hlt hg.size, fun j u hj => cell_kept (hc j u hj) hg hr⟩
theorem RdM.bare {W W' : World} {row : Option Nat} {va vb vc : Value} {m : Mm} (h : RdM W va vb vc m) (hg : W.grownBy W' row) (hr : ∀ r, row = some r → ∃ o : Obj, W.heap[r]? = some o ∧ o.isCells = false) : RdM W' va vb vc m := ⟨RdC.bare h.vol hg hr, RdC.bare h.per hg hr, RdC.bare h.pend hg hr⟩
theorem kps_b {n₀ b : Nat} {w : World} (hn : n₀ ≤ w.heap.size) (hb : b < w.heap.size) (W : World) (l : Nat) (o o' : Obj) (hl : w.heap.size ≤ l) (h : W.heap[l]? = some o) (h1 : o.isCells = false) (h2 : o.isWalk = false) : Kps n₀ b W (W.putObj l o') :=
  ⟨belowK_b hn W l o o' hl h h1 h2, World.putObj_heap_other (by omega)⟩

set_option maxRecDepth 100000 in
set_option maxHeartbeats 4000000 in
theorem flush_any (va vb vc : Value) (m : Mm) (line : Int) (w : World) (hR : RdM w va vb vc m) : Calls Try.prog 56 #[.agg #[va, vb, vc], .int .i64 line] w fun e w' => ∃ va' vb' vc', e = .returned (.tuple #[.agg #[va', vb', vc'], .int .i64 (lnE m line)]) ∧ RdM w' va' vb' vc' (fluM m line) ∧ Below w.heap.size w w' := by
  obtain ⟨l1, l2, l3⟩ := hR.lens
  obtain ⟨a1, c1, a2, c2, a3, c3, rfl, rfl, rfl⟩ := hR.forms
  have HB : Hid (Below w.heap.size w ((w.alloc (.cells #[.slice a1 m.vol.length c1, .slice a2 m.per.length c2, .slice a3 m.pend.length c3] 43)).alloc (.cells #[.slice none 0 0, .slice none 0 0, .slice none 0 0] 43))) := ((Below.refl _ _).alloc (Nat.le_refl _) _).alloc (by simp) _
  have X0 : Hid (Bx ((w.alloc (.cells #[.slice a1 m.vol.length c1, .slice a2 m.per.length c2, .slice a3 m.pend.length c3] 43)).alloc (.cells #[.slice none 0 0, .slice none 0 0, .slice none 0 0] 43)) w.heap.size (.slice a1 m.vol.length c1) (.slice a2 m.per.length c2) (.slice a3 m.pend.length c3)) := by (show Bx _ _ _ _ _; simp [Bx])
  have Y0 : Hid (Bx ((w.alloc (.cells #[.slice a1 m.vol.length c1, .slice a2 m.per.length c2, .slice a3 m.pend.length c3] 43)).alloc (.cells #[.slice none 0 0, .slice none 0 0, .slice none 0 0] 43)) (w.heap.size + 1) (.slice none 0 0) (.slice none 0 0) (.slice none 0 0)) := by (show Bx _ _ _ _ _; simp [Bx])
  have Hs : Hid (w.heap.size + 2 = ((w.alloc (.cells #[.slice a1 m.vol.length c1, .slice a2 m.per.length c2, .slice a3 m.pend.length c3] 43)).alloc (.cells #[.slice none 0 0, .slice none 0 0, .slice none 0 0] 43)).heap.size) := by (show _ = _; simp)
  have HR : Hid (RdM w (.slice a1 m.vol.length c1) (.slice a2 m.per.length c2) (.slice a3 m.pend.length c3) m) := hR
  clear hR
  obtain ⟨n, hn5⟩ : ∃ n, 5 ≤ n := ⟨5, by omega⟩
  have hro : Fence.wide.round = none := rfl
  have h1 : 1 ≤ n := by omega
  have h2 : 1 ≤ n - 1 := by omega
  cases e1 : ok m
  · have HN : Hid (lnB m line = false) := lnB_no1 e1
    have HE : Hid (lnE m line = 40) := by (show lnE m line = _; unfold lnE; rw [HN.out]; rfl)
    have HM : Hid (fluM m line = m) := by (show fluM m line = _; unfold fluM; rw [HN.out]; rfl)
    refine (callsIn_wide (n := n)).1 ?_
    refine callsIn_of_wp_marks Try.func56 rfl trivial ?_ rfl
    simp only [Try.ntmps56, List.size_toArray, List.length_cons, List.length_nil, Nat.reduceAdd, Nat.reduceSub, Array.replicate_succ, Array.replicate_zero, List.push_toArray, List.append_toArray, List.nil_append, List.cons_append]
    gi_wp2_with (first
      | (refine ⟨trivial, ?_⟩; gi_at_call 54; refine (callsIn_wide.2 (clone_any _ _ _ m _ (HR.out.below HB.out))).mono ?_; rintro e w1 ⟨v1, v2, v3, rfl, O1, hb1⟩; obtain ⟨b1, d1, b2, d2, b3, d3, rfl, rfl, rfl⟩ := (O1.rd l1 l2 l3).forms; have U1 := Out.made (w := w) O1 hb1.size; have T1 := hb1.alloc hb1.size (.cells #[.slice b1 m.vol.length d1, .slice b2 m.per.length d2, .slice b3 m.pend.length d3] 43); obtain ⟨⟨x0, x1, x2⟩, _⟩ := X0.out.far T1 (by have := Hs.out; omega); rw [← Hs.out] at U1; have HU1 : Hid (Out _ _ _ (.slice b1 m.vol.length d1) (.slice b2 m.per.length d2) (.slice b3 m.pend.length d3) m) := U1; have HT1 : Hid (Below _ _ _) := T1; clear U1 T1 O1 hb1)
      | (refine ⟨trivial, ?_⟩; gi_at_call 40; refine (callsIn_wide.2 (check_any _ _ _ m _ (HR.out.below (HB.out.trans (HT1.out.mono HB.out.size))))).mono ?_; rintro e w3 ⟨rfl, hb3⟩; have HU3 : Hid (Out w3 _ _ (.slice b1 m.vol.length d1) (.slice b2 m.per.length d2) (.slice b3 m.pend.length d3) m) := HU1.out.below hb3; have HT3 : Hid (Below _ ((w.alloc (.cells #[.slice a1 m.vol.length c1, .slice a2 m.per.length c2, .slice a3 m.pend.length c3] 43)).alloc (.cells #[.slice none 0 0, .slice none 0 0, .slice none 0 0] 43)) w3) := bstep HT1.out hb3; obtain ⟨⟨z0, z1, z2⟩, zf⟩ := HU3.out.box; obtain ⟨⟨y0, y1, y2⟩, yf0, yf1, yf2⟩ := Y0.out.far HT3.out (by have := Hs.out; omega); obtain ⟨⟨q0, q1, q2⟩, _⟩ := X0.out.far HT3.out (by have := Hs.out; omega); clear zf HU1 HT1 hb3)
      | (refine ⟨(show Fence.wide.fn 56 from trivial), ?_⟩))
    obtain ⟨f1, f2, f3⟩ := finish3 HU3.out.own l1 l2 l3 (Y0.out.far HT3.out (by have := Hs.out; omega)) (Nat.lt_succ_self _) (HB.out.trans (HT3.out.mono HB.out.size)) (Nat.le_succ _)
    exact ⟨_, ret_cell2 (p := 4) (u := 5) Try.results56 rfl f1, _, _, _, by rw [HE.out]; rfl, by rw [HM.out]; exact f2, f3⟩
  · cases e2 : lineB m.vol.length line
    · have HN : Hid (lnB m line = false) := lnB_no2 e2
      have HE : Hid (lnE m line = 40) := by (show lnE m line = _; unfold lnE; rw [HN.out]; rfl)
      have HM : Hid (fluM m line = m) := by (show fluM m line = _; unfold fluM; rw [HN.out]; rfl)
      refine (callsIn_wide (n := n)).1 ?_
      refine callsIn_of_wp_marks Try.func56 rfl trivial ?_ rfl
      simp only [Try.ntmps56, List.size_toArray, List.length_cons, List.length_nil, Nat.reduceAdd, Nat.reduceSub, Array.replicate_succ, Array.replicate_zero, List.push_toArray, List.append_toArray, List.nil_append, List.cons_append]
      gi_wp2_with (first
        | (refine ⟨trivial, ?_⟩; gi_at_call 54; refine (callsIn_wide.2 (clone_any _ _ _ m _ (HR.out.below HB.out))).mono ?_; rintro e w1 ⟨v1, v2, v3, rfl, O1, hb1⟩; obtain ⟨b1, d1, b2, d2, b3, d3, rfl, rfl, rfl⟩ := (O1.rd l1 l2 l3).forms; have U1 := Out.made (w := w) O1 hb1.size; have T1 := hb1.alloc hb1.size (.cells #[.slice b1 m.vol.length d1, .slice b2 m.per.length d2, .slice b3 m.pend.length d3] 43); obtain ⟨⟨x0, x1, x2⟩, _⟩ := X0.out.far T1 (by have := Hs.out; omega); rw [← Hs.out] at U1; have HU1 : Hid (Out _ _ _ (.slice b1 m.vol.length d1) (.slice b2 m.per.length d2) (.slice b3 m.pend.length d3) m) := U1; have HT1 : Hid (Below _ _ _) := T1; clear U1 T1 O1 hb1)
        | (refine ⟨trivial, ?_⟩; gi_at_call 40; refine (callsIn_wide.2 (check_any _ _ _ m _ (HR.out.below (HB.out.trans (HT1.out.mono HB.out.size))))).mono ?_; rintro e w3 ⟨rfl, hb3⟩; have HU3 : Hid (Out w3 _ _ (.slice b1 m.vol.length d1) (.slice b2 m.per.length d2) (.slice b3 m.pend.length d3) m) := HU1.out.below hb3; have HT3 : Hid (Below _ ((w.alloc (.cells #[.slice a1 m.vol.length c1, .slice a2 m.per.length c2, .slice a3 m.pend.length c3] 43)).alloc (.cells #[.slice none 0 0, .slice none 0 0, .slice none 0 0] 43)) w3) := bstep HT1.out hb3; obtain ⟨⟨z0, z1, z2⟩, zf⟩ := HU3.out.box; obtain ⟨⟨y0, y1, y2⟩, yf0, yf1, yf2⟩ := Y0.out.far HT3.out (by have := Hs.out; omega); obtain ⟨⟨q0, q1, q2⟩, _⟩ := X0.out.far HT3.out (by have := Hs.out; omega); clear zf HU1 HT1 hb3)
        | (refine ⟨trivial, ?_⟩; gi_at_call 58; refine (callsIn_wide.2 (hasLine_any _ _ _ m line _ (HR.out.below (HB.out.trans (HT3.out.mono HB.out.size))))).mono ?_; rintro e w4 ⟨rfl, hb4⟩; have HU4 : Hid (Out w4 _ _ (.slice b1 m.vol.length d1) (.slice b2 m.per.length d2) (.slice b3 m.pend.length d3) m) := HU3.out.below hb4; have HT4 : Hid (Below _ ((w.alloc (.cells #[.slice a1 m.vol.length c1, .slice a2 m.per.length c2, .slice a3 m.pend.length c3] 43)).alloc (.cells #[.slice none 0 0, .slice none 0 0, .slice none 0 0] 43)) w4) := bstep HT3.out hb4; obtain ⟨⟨z0', z1', z2'⟩, _⟩ := HU4.out.box; obtain ⟨⟨y0', y1', y2'⟩, yf0', yf1', yf2'⟩ := Y0.out.far HT4.out (by have := Hs.out; omega); obtain ⟨⟨q0', q1', q2'⟩, _⟩ := X0.out.far HT4.out (by have := Hs.out; omega)))
      obtain ⟨f1, f2, f3⟩ := finish3 HU4.out.own l1 l2 l3 (Y0.out.far HT4.out (by have := Hs.out; omega)) (Nat.lt_succ_self _) (HB.out.trans (HT4.out.mono HB.out.size)) (Nat.le_succ _)
      exact ⟨_, ret_cell2 (p := 4) (u := 5) Try.results56 rfl f1, _, _, _, by rw [HE.out]; rfl, by rw [HM.out]; exact f2, f3⟩
    · have HN : Hid (lnB m line = true) := lnB_yes e1 e2
      have HE : Hid (lnE m line = 0) := by (show lnE m line = _; unfold lnE; rw [HN.out]; rfl)
      have HM : Hid (fluM m line = ⟨m.vol, m.per, m.pend.map (fluP line)⟩) := by (show fluM m line = _; unfold fluM; rw [HN.out]; rfl)
      refine (callsIn_wide (n := n)).1 ?_
      refine callsIn_of_wp_marks Try.func56 rfl trivial ?_ rfl
      simp only [Try.ntmps56, List.size_toArray, List.length_cons, List.length_nil, Nat.reduceAdd, Nat.reduceSub, Array.replicate_succ, Array.replicate_zero, List.push_toArray, List.append_toArray, List.nil_append, List.cons_append]
      gi_wp2_with (first
        | (refine ⟨trivial, ?_⟩; gi_at_call 54; refine (callsIn_wide.2 (clone_any _ _ _ m _ (HR.out.below HB.out))).mono ?_; rintro e w1 ⟨v1, v2, v3, rfl, O1, hb1⟩; obtain ⟨b1, d1, b2, d2, b3, d3, rfl, rfl, rfl⟩ := (O1.rd l1 l2 l3).forms; have U1 := Out.made (w := w) O1 hb1.size; have T1 := hb1.alloc hb1.size (.cells #[.slice b1 m.vol.length d1, .slice b2 m.per.length d2, .slice b3 m.pend.length d3] 43); obtain ⟨⟨x0, x1, x2⟩, _⟩ := X0.out.far T1 (by have := Hs.out; omega); rw [← Hs.out] at U1; have HU1 : Hid (Out _ _ _ (.slice b1 m.vol.length d1) (.slice b2 m.per.length d2) (.slice b3 m.pend.length d3) m) := U1; have HT1 : Hid (Below _ _ _) := T1; clear U1 T1 O1 hb1)
        | (refine ⟨trivial, ?_⟩; gi_at_call 40; refine (callsIn_wide.2 (check_any _ _ _ m _ (HR.out.below (HB.out.trans (HT1.out.mono HB.out.size))))).mono ?_; rintro e w3 ⟨rfl, hb3⟩; have HU3 : Hid (Out w3 _ _ (.slice b1 m.vol.length d1) (.slice b2 m.per.length d2) (.slice b3 m.pend.length d3) m) := HU1.out.below hb3; have HT3 : Hid (Below _ ((w.alloc (.cells #[.slice a1 m.vol.length c1, .slice a2 m.per.length c2, .slice a3 m.pend.length c3] 43)).alloc (.cells #[.slice none 0 0, .slice none 0 0, .slice none 0 0] 43)) w3) := bstep HT1.out hb3; obtain ⟨⟨z0, z1, z2⟩, zf⟩ := HU3.out.box; obtain ⟨⟨y0, y1, y2⟩, yf0, yf1, yf2⟩ := Y0.out.far HT3.out (by have := Hs.out; omega); obtain ⟨⟨q0, q1, q2⟩, _⟩ := X0.out.far HT3.out (by have := Hs.out; omega); clear zf HU1 HT1 hb3)
        | (refine ⟨trivial, ?_⟩; gi_at_call 58; refine (callsIn_wide.2 (hasLine_any _ _ _ m line _ (HR.out.below (HB.out.trans (HT3.out.mono HB.out.size))))).mono ?_; rintro e w4 ⟨rfl, hb4⟩; have HU4 : Hid (Out w4 _ _ (.slice b1 m.vol.length d1) (.slice b2 m.per.length d2) (.slice b3 m.pend.length d3) m) := HU3.out.below hb4; have HT4 : Hid (Below _ ((w.alloc (.cells #[.slice a1 m.vol.length c1, .slice a2 m.per.length c2, .slice a3 m.pend.length c3] 43)).alloc (.cells #[.slice none 0 0, .slice none 0 0, .slice none 0 0] 43)) w4) := bstep HT3.out hb4; obtain ⟨⟨z0', z1', z2'⟩, _⟩ := HU4.out.box; obtain ⟨⟨y0', y1', y2'⟩, yf0', yf1', yf2'⟩ := Y0.out.far HT4.out (by have := Hs.out; omega); obtain ⟨⟨q0', q1', q2'⟩, _⟩ := X0.out.far HT4.out (by have := Hs.out; omega))
        | (refine ⟨trivial, ?_⟩; gi_at_call 59; refine (ofLine_in _ _ _ _ _ _).mono ?_; rintro e w' ⟨rfl, rfl⟩))
      have bS : ((w4.alloc (.cells #[.slice a3 m.pend.length c3] 41)).alloc (.cells #[.int .i64 line] 3)).cell? ⟨w4.heap.size, 0, none⟩ = some (.slice a3 m.pend.length c3) := by simp
      have bL : ((w4.alloc (.cells #[.slice a3 m.pend.length c3] 41)).alloc (.cells #[.int .i64 line] 3)).cell? ⟨w4.heap.size + 1, 0, none⟩ = some (.int .i64 line) := by simp
      have b5 : Below w4.heap.size w4 ((w4.alloc (.cells #[.slice a3 m.pend.length c3] 41)).alloc (.cells #[.int .i64 line] 3)) := ((Below.refl _ _).alloc (Nat.le_refl _) _).alloc (by simp) _
      have U5 := HU4.out.below b5
      have B4 := HB.out.trans (HT4.out.mono HB.out.size)
      have B5 := bstep B4 b5
      have Y5 := (Y0.out.far HT4.out (by have := Hs.out; omega)).below b5
      have hsz : ((w4.alloc (.cells #[.slice a3 m.pend.length c3] 41)).alloc (.cells #[.int .i64 line] 3)).heap.size = w4.heap.size + 2 := by simp
      have hs4 := B4.size
      have hg1 := Nat.lt_of_lt_of_le U5.box.lt (Nat.le_of_eq hsz)
      have hin : ∀ p ∈ m.pend, 0 ≤ p.a ∧ p.a < 1000 := fun p hp => by have := ok_in e1 p hp; omega
      have hob : w1.heap.size < w4.heap.size := HU4.out.box.lt
      have hrow : ∀ g, b3 = some ⟨g, 0, none⟩ → g < w4.heap.size := fun g hg => (World.ownsRow.lt HU4.out.own.pend g (by rw [hg]; rfl)).2
      clear z0 z1 z2 y0 y1 y2 yf0 yf1 yf2 q0 q1 q2 z0' z1' z2' y0' y1' y2' yf0' yf1' yf2' q0' q1' q2'
      refine wpIn_rangeFunc_ownG hro h1 (gf := 61) (lb := #[.pointer (some ⟨w4.heap.size, 0, none⟩), .pointer (some ⟨w4.heap.size + 1, 0, none⟩)]) rfl trivial (enters_of Try.func61 (by kernel_rfl) rfl)
        (ofLine_stops (n - 1) (by omega) w4.heap.size (w4.heap.size + 1) w.heap.size a3 c3 m.pend line _ bS bL (fun W' h => (HR.out.below (B5.trans h)).pend) hin B5.size) Kps.trans (kps_b B5.size (by rw [hsz]; omega)) (Below.refl _ _) (fun _ => rfl)
        (fun (pre : List (Fin m.pend.length)) W => (Out W (w.heap.size + 2) w1.heap.size (.slice b1 m.vol.length d1) (.slice b2 m.per.length d2) (.slice b3 m.pend.length d3) ⟨m.vol, m.per, flPre m.pend pre⟩ ∧ Bx W (w.heap.size + 1) (.slice none 0 0) (.slice none 0 0) (.slice none 0 0)) ∧ Below w.heap.size w W)
        (fun _ _ _ => False)
        (OwnFrom.and (Own.from (fun s W W' row hs hg hr => ⟨hs.1.bare hg hr, hs.2.bare hg hr⟩) _) (ownFrom_below (Nat.le_refl _) B5.size))
        (fun _ _ _ _ _ hs _ _ => hs)
        ⟨⟨by rw [flPre_nil]; exact U5, Y5⟩, B5⟩
        (fun x => { tmps := #[(.agg #[.slice a1 m.vol.length c1, .slice a2 m.per.length c2, .slice a3 m.pend.length c3]), .int .i64 line, .pointer (some ⟨w.heap.size, 0, none⟩), undef, .pointer (some ⟨w.heap.size + 1, 0, none⟩), .int .i64 0, .pointer (some ⟨w1.heap.size, 0, none⟩), .int .i64 (x.1 : Int), (.agg #[.slice a1 m.vol.length c1, .slice a2 m.per.length c2, .slice a3 m.pend.length c3]), (.agg #[.slice b1 m.vol.length d1, .slice b2 m.per.length d2, .slice b3 m.pend.length d3]), (.agg #[.slice a1 m.vol.length c1, .slice a2 m.per.length c2, .slice a3 m.pend.length c3]), .bool true, .bool false, .bool false, (.agg #[.slice a1 m.vol.length c1, .slice a2 m.per.length c2, .slice a3 m.pend.length c3]), .int .i64 line, .bool true, .bool false, .bool false, undef, .pointer (some ⟨w.heap.size, 2, none⟩), .slice a3 m.pend.length c3, .int .i64 line, .func (.func 61) #[] #[.pointer (some ⟨w4.heap.size, 0, none⟩), .pointer (some ⟨w4.heap.size + 1, 0, none⟩)], .int .i64 (x.1 : Int), undef, undef, undef, undef, undef, undef], defers := [] }) ?assign ?body ?done ?stop
      case assign =>
        intro l x W K hK
        gi_wp2
        exact hK
      case body =>
        rintro l pre x W ⟨⟨hO, hY⟩, hB⟩ hlt
        have hd : 1 ≤ n - 1 - 1 := by omega
        obtain ⟨p, hp, hset⟩ := flPre_at m.pend pre x
        obtain ⟨g, rfl, ⟨hc, hf⟩, hO', hB'⟩ := hO.flag hp
        obtain ⟨⟨o0, o1, o2⟩, _⟩ := hO.box
        have hxI : (x.1 : Int) < (m.pend.length : Int) := by have := x.2; omega
        have HO' : Hid (Out _ _ _ _ _ _ _) := hO'
        have HS : Hid ((flPre m.pend pre).set x.1 ⟨p.a, p.v, true⟩ = flPre m.pend (pre ++ [x])) := hset
        have hgl := hrow g rfl
        clear hset hO'
        gi_wp2
        exact ⟨(KeepsOthers.setCell _ _ _).from _, ⟨hB'.mono (Nat.le_add_right _ 2), Below.heap_setCell W _ _ _ (by show w4.heap.size + 1 ≠ g; omega)⟩, ⟨⟨by rw [← HS.out]; exact HO'.out, hY.far hB' (Nat.lt_succ_self _)⟩, hB.trans (hB'.mono (Nat.le_add_right _ 2))⟩⟩
      case done =>
        rintro D xs W hD hS ⟨⟨hO, hY⟩, hB⟩ hK
        have HO : Hid (Out W (w.heap.size + 2) w1.heap.size (.slice b1 m.vol.length d1) (.slice b2 m.per.length d2) (.slice b3 m.pend.length d3) ⟨m.vol, m.per, m.pend.map (fluP line)⟩) := by (rw [flPre_all _ _ _ hS] at hO; exact hO)
        obtain ⟨⟨o0, o1, o2⟩, _⟩ := hO.box
        have HY : Hid (Bx W (w.heap.size + 1) (.slice none 0 0) (.slice none 0 0) (.slice none 0 0)) := hY
        obtain ⟨⟨y0, y1, y2⟩, yf0, yf1, yf2⟩ := hY
        clear hO
        gi_wp2
        obtain ⟨f1, f2, f3⟩ := finish3 HO.out.own l1 l2 (by (show (m.pend.map _).length ≤ 1000; rw [List.length_map]; exact l3)) HY.out (Nat.lt_succ_self _) hB (Nat.le_succ _)
        have hDw : w.heap.size + 1 < D := by rw [hsz] at hD; omega
        have hK' : (((W.setCell ⟨w.heap.size + 1, 0, none⟩ (.slice b1 m.vol.length d1)).setCell ⟨w.heap.size + 1, 1, none⟩ (.slice b2 m.per.length d2)).setCell ⟨w.heap.size + 1, 2, none⟩ (.slice b3 m.pend.length d3)).heap[D]? = some (.deferred (some [])) := ((Below.heap_setCell _ _ _ D (by show D ≠ w.heap.size + 1; omega)).trans ((Below.heap_setCell _ _ _ D (by show D ≠ w.heap.size + 1; omega)).trans (Below.heap_setCell _ _ _ D (by show D ≠ w.heap.size + 1; omega)))).trans hK
        refine ⟨by simp, .inl ⟨_, _, rfl, run_takeDeferred hK', ?_⟩⟩
        have hgr := grownBy_putObj' (((W.setCell ⟨w.heap.size + 1, 0, none⟩ (.slice b1 m.vol.length d1)).setCell ⟨w.heap.size + 1, 1, none⟩ (.slice b2 m.per.length d2)).setCell ⟨w.heap.size + 1, 2, none⟩ (.slice b3 m.pend.length d3)) D (.deferred none)
        have hrr : ∀ r, some D = some r → ∃ o : Obj, (((W.setCell ⟨w.heap.size + 1, 0, none⟩ (.slice b1 m.vol.length d1)).setCell ⟨w.heap.size + 1, 1, none⟩ (.slice b2 m.per.length d2)).setCell ⟨w.heap.size + 1, 2, none⟩ (.slice b3 m.pend.length d3)).heap[r]? = some o ∧ o.isCells = false := fun r e => by (cases e; exact ⟨_, hK', rfl⟩)
        exact ⟨_, ret_cell2 (p := 4) (u := 5) Try.results56 rfl (f1.bare hgr hrr), _, _, _, by rw [HE.out]; rfl, by rw [HM.out]; exact f2.bare hgr hrr, f3.trans (belowK_b (w := w) (Nat.le_refl _) _ D _ _ (by omega) hK' rfl rfl)⟩
      case stop =>
        rintro D c pre W _ _ h _
        exact h.elim
end Go.Proofs.Ytbnlekheadmecaa

