/- Walks of layer 4: in order; a memory may be. · Walks of layer 4: a memory may be. -/
import Derived.Test.YtmhojhpfkieioaaWalkb
namespace Go.Proofs.Ytmhojhpfkieioaa
open Go.RowKit
set_option linter.unusedVariables false

theorem zero60 : ∃ Z : Array Value, (∀ w, Sem.run Try.prog (zeroValue 100) w = .ok (.agg Z) w) ∧ Z.toList = List.replicate 512 (.bool false) :=
  ⟨Array.replicate 512 (.bool false), fun w => by kernel_rfl, by simp⟩
/-- Block b holds the lines that are open. -/
def OpR (W : World) (base b : Nat) (l : List Bool) : Prop := W.ownsRow base 100 512 (.slice (some ⟨b, 0, none⟩) 1 1) 1 (l.map Value.bool)
theorem OpR.below {W W' : World} {base b : Nat} {l : List Bool} (h : OpR W base b l) (hb : Below W.heap.size W W') : OpR W' base b l := own_below h hb
theorem OpR.at {W : World} {base b : Nat} {l : List Bool} (h : OpR W base b l) (hl : l.length = 512) {q : Nat} (hq : q < 512) {u : Bool} (hu : l[q]? = some u) : W.cell? ⟨b, q, none⟩ = some (.bool u) := by
  rw [h.cellAt q (by omega), List.getElem?_map, hu]; rfl
theorem OpR.fz {W : World} {base b : Nat} {l : List Bool} (h : OpR W base b l) (q : Nat) : W.frozen? ⟨b, q, none⟩ = false := h.frozenAt q
theorem OpR.set {W : World} {base b : Nat} {l : List Bool} (h : OpR W base b l) (q : Nat) (u : Bool) : OpR (W.setCell ⟨b, q, none⟩ (.bool u)) base b (l.set q u) := by
  have := (World.ownsRow.stored h q (.bool u)).1
  unfold OpR
  rwa [List.map_set]
theorem RdP.get {W : World} {a : Option Addr} {n cap : Nat} {ps : List Pd} (h : RdP W (.slice a n cap) ps) {k : Nat} {p : Pd} (hp : ps[k]? = some p) :
    ∃ b off, a = some ⟨b, off, none⟩ ∧ W.cell? ⟨b, off + k * 3, none⟩ = some (.int .i64 p.a) ∧ W.cell? ⟨b, off + k * 3 + 1, none⟩ = some (.int .i64 p.v) ∧ W.cell? ⟨b, off + k * 3 + 2, none⟩ = some (.bool p.f) := by
  obtain ⟨hk, rfl⟩ := List.getElem?_eq_some_iff.1 hp
  exact h.at k hk

theorem lineOf_nat (q l : Nat) (pv : Int) (pf : Bool) (w : World) (hl : q / 8 = l) (hq : q < 100000) : Calls Try.prog 65 #[.agg #[.int .i64 (q : Int), .int .i64 pv, .bool pf]] w fun e w' => e = .returned (.int .i64 (l : Int)) ∧ Below w.heap.size w w' := by
  refine (lineOf_any ⟨q, pv, pf⟩ w (by show (0 : Int) ≤ (q : Int); omega) (by show (q : Int) < 100000; omega)).mono ?_
  rintro e w' ⟨rfl, hb⟩
  exact ⟨ret_int (by show (q : Int) / 8 = l; omega), hb⟩
theorem OpR.step {W : World} {base b : Nat} {L : List Bool} (h : OpR W base b L) {q l : Nat} (hl : q / 8 = l) (pv : Int) (pf : Bool) : OpR (W.setCell ⟨b, l, none⟩ (.bool (!pf))) base b (opStep L ⟨q, pv, pf⟩) := by
  have : opStep L ⟨q, pv, pf⟩ = L.set l (!pf) := by
    show L.set ((q : Int) / 8).toNat (!pf) = _
    rw [show ((q : Int) / 8).toNat = l by omega]
  rw [this]
  exact h.set l _
theorem OpR.lt {W : World} {base b : Nat} {l : List Bool} (h : OpR W base b l) : b < W.heap.size := (World.ownsRow.lt h b rfl).2

set_option maxRecDepth 100000 in
set_option maxHeartbeats 1000000 in
theorem inOrder_any (v : Value) (ps : List Pd) (n : Nat) (w : World) (hR : RdP w v ps) (hn : n ≤ 4096) : Calls Try.prog 54 #[v, .int .i64 n] w fun e w' => e = .returned (.bool (ordB n ps)) ∧ Below w.heap.size w w' := by
  have hR' := hR
  obtain ⟨hl, a, cap, rfl⟩ := hR.form
  obtain ⟨Z, hZ, hZl⟩ := zero60
  have O0 : OpR (w.alloc (.cells Z 100)) w.heap.size w.heap.size (opL []) := by
    have := World.ownsRow_lit (base := w.heap.size) (e := 100) (size := 512) w Z 1 (Nat.le_refl _) (by unfold maxLen; omega) (by rw [← Array.length_toList, hZl, List.length_replicate])
    rw [hZl] at this
    unfold OpR opL
    rw [List.foldl_nil, List.map_replicate]
    exact this
  have HZ : Hid (Z.toList = List.replicate 512 (.bool false)) := hZl
  clear hZl
  go_enter Try.func54, Try.ntmps54
  go_wp2
  go_loopw [10] (fun i w1 => ∃ k : Nat, k ≤ ps.length ∧ i = .int .i64 k ∧ InPl n (ps.take k) ∧ Ahead (ps.take k) ∧ OpR w1 w.heap.size w.heap.size (opL (ps.take k)) ∧ Below w.heap.size w w1) (fun i _ => ps.length - (intOf i).toNat)
  case atStart => exact ⟨0, Nat.zero_le _, rfl, by intro p hp; simp at hp, by simp [Ahead], O0, (Below.refl _ _).alloc (Nat.le_refl _) _⟩
  case round =>
    obtain ⟨k, hk, rfl, hI, hA, hO, hbel⟩ := hrel
    by_cases hlt : k < ps.length
    · have hltI : (k : Int) < (ps.length : Int) := by omega
      obtain ⟨p, hp⟩ : ∃ p, ps[k]? = some p := ⟨_, List.getElem?_eq_getElem hlt⟩
      have hT := take_next hp
      obtain ⟨b, off, rfl, c0, c1, c2⟩ := (hR'.below hbel).get hp
      obtain ⟨pa, pv, pf⟩ := p
      dsimp only at c0 c1 c2
      by_cases h0 : pa < 0
      · have H : Hid (ordB n ps = false) := ordB_false (fun h => by have := inPl_take h.1 (k + 1); rw [hT, inPl_snoc] at this; have := this.2.1; dsimp only at this; omega)
        clear hT hI hA hO
        go_wp2
        go_ret
        exact ⟨ret_bool H.out.symm, hbel.alloc hbel.size _⟩
      · by_cases h1 : (n : Int) ≤ pa
        · have H : Hid (ordB n ps = false) := ordB_false (fun h => by have := inPl_take h.1 (k + 1); rw [hT, inPl_snoc] at this; have := this.2.2; dsimp only at this; omega)
          clear hT hI hA hO
          go_wp2
          go_ret
          exact ⟨ret_bool H.out.symm, hbel.alloc hbel.size _⟩
        · obtain ⟨q, rfl⟩ := Int.eq_ofNat_of_zero_le (show 0 ≤ pa by omega)
          obtain ⟨l, hql⟩ : ∃ l, q / 8 = l := ⟨_, rfl⟩
          have hq5 : q < 100000 := by omega
          have hl512 : l < 512 := by omega
          have hlI : (l : Int) < 512 := by omega
          have HG : Hid ((opL (ps.take k))[l]? = some (someU (ps.take k) l)) := opL_get hn _ hI hA l hl512
          have HE : Hid ((q : Int) / 8 = (l : Int)) := by show (q : Int) / 8 = _; omega
          have hlt2 : w.heap.size < wr.heap.size := hO.lt
          have HI : Hid (InPl n (ps.take (k + 1))) := by rw [hT]; exact inPl_snoc.2 ⟨hI, by show (0 : Int) ≤ (q : Int); omega, by show (q : Int) < _; omega⟩
          have B1 : Below w.heap.size w (wr.alloc (.cells #[.int .i64 (q : Int), .int .i64 pv, .bool pf] 76)) := hbel.alloc hbel.size _
          have O1 : OpR (wr.alloc (.cells #[.int .i64 (q : Int), .int .i64 pv, .bool pf] 76)) w.heap.size w.heap.size (opL (ps.take k)) := hO.below ((Below.refl _ _).alloc (Nat.le_refl _) _)
          have C1 : SC w wr.heap.size (.int .i64 (q : Int)) (.int .i64 pv) (.bool pf) (wr.alloc (.cells #[.int .i64 (q : Int), .int .i64 pv, .bool pf] 76)) := ⟨by simp, B1⟩
          have HB1 : Hid (Below w.heap.size w (wr.alloc (.cells #[.int .i64 (q : Int), .int .i64 pv, .bool pf] 76))) := B1
          have HO1 : Hid (OpR (wr.alloc (.cells #[.int .i64 (q : Int), .int .i64 pv, .bool pf] 76)) w.heap.size w.heap.size (opL (ps.take k))) := O1
          have HC1 : Hid (SC w wr.heap.size (.int .i64 (q : Int)) (.int .i64 pv) (.bool pf) (wr.alloc (.cells #[.int .i64 (q : Int), .int .i64 pv, .bool pf] 76))) := C1
          have HT : Hid (ps.take (k + 1) = ps.take k ++ [⟨(q : Int), pv, pf⟩]) := hT
          have HA : Hid (Ahead (ps.take k)) := hA
          clear hT hI hA hO B1 O1 C1
          cases pf
          · have HF : Hid (Ahead (ps.take (k + 1))) := by rw [HT.out]; exact ahead_snoc.2 ⟨HA.out, fit_bare rfl⟩
            go_wp2
            generalize wr.alloc (.cells #[.int .i64 (q : Int), .int .i64 pv, .bool false] 76) = W1 at HB1 HO1 HC1 ⊢
            have HO1 : Hid (OpR W1.drew w.heap.size w.heap.size (opL (ps.take k))) := HO1.out
            go_region_held3 (fun w2 => (w2.cell? ⟨wr.heap.size, 0, none⟩ = some (.int .i64 (q : Int)) ∧ w2.cell? ⟨wr.heap.size, 1, none⟩ = some (.int .i64 pv) ∧ w2.cell? ⟨wr.heap.size, 2, none⟩ = some (.bool false)) ∧ Below w.heap.size w w2)
              (first | exact SC.next (Below.refl _ _).drew HC1.out | exact SC.next (by assumption) (by assumption) | exact SC.store (by assumption) (by omega) (Nat.le_refl _) _ _)
              (first | (go_at_call 65; refine (lineOf_nat q l _ _ _ hql hq5).mono ?_; rintro e w3 ⟨rfl, hb3⟩; have O3 := HO1.out.below hb3; have hc := O3.at (opL_length _) hl512 HG.out; have hf := O3.fz l; have HO3 : Hid (OpR w3 w.heap.size w.heap.size (opL (ps.take k))) := O3; clear O3))
            go_wp2
            have hB3 := (bstep HB1.out.drew hb3).setCell (p := ⟨w.heap.size, l, none⟩) (Nat.le_refl _) (.bool true)
            exact ⟨⟨k + 1, by omega, by go_num, HI.out, HF.out, by rw [HT.out, opL_snoc]; exact HO3.out.step hql pv false, hB3⟩, by simp [intOf]; omega⟩
          · cases hu : someU (ps.take k) l
            · have HF : Hid (Ahead (ps.take (k + 1))) := by rw [HT.out]; exact ahead_snoc.2 ⟨HA.out, (fit_all HE.out rfl).2 hu⟩
              rw [hu] at HG
              clear hu
              go_wp2_with (first | (go_at_call 65; refine (lineOf_nat q l _ _ _ hql hq5).mono ?_; rintro e w2 ⟨rfl, hb2⟩; have HB2 : Hid (Below w.heap.size w w2) := bstep HB1.out hb2; have O2 := HO1.out.below hb2; have hc2 := O2.at (opL_length _) hl512 HG.out; have HO2 : Hid (OpR w2 w.heap.size w.heap.size (opL (ps.take k))) := O2; have C2 := HC1.out.next hb2; have HC2 : Hid (SC w wr.heap.size (.int .i64 (q : Int)) (.int .i64 pv) (.bool true) w2) := C2; clear O2 C2))
              have HO1 : Hid (OpR w2.drew w.heap.size w.heap.size (opL (ps.take k))) := HO2.out
              have HC1 := HC2
              clear hc2
              go_region_held3 (fun w2 => (w2.cell? ⟨wr.heap.size, 0, none⟩ = some (.int .i64 (q : Int)) ∧ w2.cell? ⟨wr.heap.size, 1, none⟩ = some (.int .i64 pv) ∧ w2.cell? ⟨wr.heap.size, 2, none⟩ = some (.bool true)) ∧ Below w.heap.size w w2)
                (first | exact SC.next (Below.refl _ _).drew HC1.out | exact SC.next (by assumption) (by assumption) | exact SC.store (by assumption) (by omega) (Nat.le_refl _) _ _)
                (first | (go_at_call 65; refine (lineOf_nat q l _ _ _ hql hq5).mono ?_; rintro e w3 ⟨rfl, hb3⟩; have O3 := HO1.out.below hb3; have hc := O3.at (opL_length _) hl512 HG.out; have hf := O3.fz l; have HO3 : Hid (OpR w3 w.heap.size w.heap.size (opL (ps.take k))) := O3; clear O3))
              go_wp2
              have hB3 := (bstep HB2.out.drew hb3).setCell (p := ⟨w.heap.size, l, none⟩) (Nat.le_refl _) (.bool false)
              exact ⟨⟨k + 1, by omega, by go_num, HI.out, HF.out, by rw [HT.out, opL_snoc]; exact HO3.out.step hql pv true, hB3⟩, by simp [intOf]; omega⟩
            · have H : Hid (ordB n ps = false) := ordB_false (fun h => by
                have := ahead_take h.2 (k + 1)
                rw [HT.out, ahead_snoc] at this
                have := (fit_all HE.out rfl).1 this.2
                rw [hu] at this
                cases this)
              rw [hu] at HG
              clear hu
              go_wp2_with (first | (go_at_call 65; refine (lineOf_nat q l _ _ _ hql hq5).mono ?_; rintro e w2 ⟨rfl, hb2⟩; have HB2 : Hid (Below w.heap.size w w2) := bstep HB1.out hb2; have O2 := HO1.out.below hb2; have hc2 := O2.at (opL_length _) hl512 HG.out; clear O2))
              go_ret
              exact ⟨ret_bool H.out.symm, HB2.out⟩
    · have H : Hid (ordB n ps = true) := ordB_true (by rw [List.take_of_length_le (by omega)] at hI hA; exact ⟨hI, hA⟩)
      clear hI hA hO
      go_wp2
      go_ret
      exact ⟨ret_bool H.out.symm, hbel⟩
end Go.Proofs.Ytmhojhpfkieioaa
namespace Go.Proofs.Ytmhojhpfkieioaa
open Go.RowKit
set_option linter.unusedVariables false

theorem RdM.forms {W : World} {va vb vc : Value} {m : Mm} (h : RdM W va vb vc m) : ∃ a1 c1 a2 c2 a3 c3, va = .slice a1 m.vol.length c1 ∧ vb = .slice a2 m.per.length c2 ∧ vc = .slice a3 m.pend.length c3 := by
  obtain ⟨_, a1, c1, h1⟩ := h.vol.form
  obtain ⟨_, a2, c2, h2⟩ := h.per.form
  obtain ⟨_, a3, c3, h3⟩ := h.pend.form
  exact ⟨a1, c1, a2, c2, a3, c3, h1, h2, h3⟩
theorem RdM.lens {W : World} {va vb vc : Value} {m : Mm} (h : RdM W va vb vc m) : m.vol.length ≤ 1000 ∧ m.per.length ≤ 1000 ∧ m.pend.length ≤ 1000 := ⟨h.vol.form.1, h.per.form.1, h.pend.form.1⟩
theorem mayB_true {n : Nat} (h : mayB n = true) : n ≤ 4096 ∧ n % 8 = 0 := of_decide_eq_true h
theorem ordB_out {n : Nat} {ps : List Pd} (h : ordB n ps = true) : InPl n ps ∧ Ahead ps := @of_decide_eq_true _ (Ord.dec n ps) h
/-- A row of the call's own is written at one place. -/
theorem OwnI.put {W : World} {base : Nat} {a : Option Addr} {n c : Nat} {zs : List Int} (h : OwnI W base (.slice a n c) zs) {k : Nat} (hk : k < zs.length) :
    ∃ g, a = some ⟨g, 0, none⟩ ∧ base ≤ g ∧ g < W.heap.size ∧ (W.cell? ⟨g, k, none⟩ = some (.int .i64 zs[k]) ∧ W.frozen? ⟨g, k, none⟩ = false) ∧ ∀ y : Int, OwnI (W.setCell ⟨g, k, none⟩ (.int .i64 y)) base (.slice a n c) (zs.set k y) := by
  have h' := h
  rcases h.2 with ⟨e, h0⟩ | ⟨g, cap, cur, e, hbg, hg, _⟩
  · omega
  · cases e
    refine ⟨g, rfl, hbg, (Array.getElem?_eq_some_iff.1 hg).1, ⟨?_, World.ownsRow.frozenAt h' k⟩, ?_⟩
    · rw [World.ownsRow.cellAt h' k (by omega), List.getElem?_map, List.getElem?_eq_getElem hk]; rfl
    · intro y
      have := (World.ownsRow.stored h' k (.int .i64 y)).1
      unfold OwnI
      rw [List.length_set, List.map_set]
      exact this

set_option maxRecDepth 100000 in
set_option maxHeartbeats 2000000 in
theorem check_any (va vb vc : Value) (m : Mm) (w : World) (hR : RdM w va vb vc m) : Calls Try.prog 42 #[.agg #[va, vb, vc]] w fun e w' => e = .returned (.bool (ok m)) ∧ Below w.heap.size w w' := by
  obtain ⟨l1, l2, l3⟩ := hR.lens
  obtain ⟨a1, c1, a2, c2, a3, c3, rfl, rfl, rfl⟩ := hR.forms
  have B0 : Below w.heap.size w (w.alloc (.cells #[.slice a1 m.vol.length c1, .slice a2 m.per.length c2, .slice a3 m.pend.length c3] 40)) := (Below.refl _ _).alloc (Nat.le_refl _) _
  have HS0 : Hid (SC w w.heap.size (.slice a1 m.vol.length c1) (.slice a2 m.per.length c2) (.slice a3 m.pend.length c3) (w.alloc (.cells #[.slice a1 m.vol.length c1, .slice a2 m.per.length c2, .slice a3 m.pend.length c3] 40))) := ⟨by simp, B0⟩
  have hs0 : w.heap.size + 1 ≤ (w.alloc (.cells #[.slice a1 m.vol.length c1, .slice a2 m.per.length c2, .slice a3 m.pend.length c3] 40)).heap.size := by simp
  by_cases e1 : m.per.length = m.vol.length
  · have e1' : ((m.per.length : Int) != (m.vol.length : Int)) = false := by simp [e1]
    have E1 : Hid (m.per.length = m.vol.length) := e1
    clear e1
    cases e2 : mayB m.vol.length
    · have H : Hid (ok m = false) := ok_may (fun h => by unfold mayB at e2; rw [decide_eq_true h] at e2; cases e2)
      go_enter Try.func42, Try.ntmps42
      go_wp2_with (first | (go_at_call 31; refine (mayHave_any _ _ (by omega)).mono ?_; rintro e w' ⟨rfl, hw⟩; rw [hw]; clear hw w'))
      go_ret
      exact ⟨ret_bool H.out.symm, B0⟩
    · have E2 : Hid (m.vol.length ≤ 4096 ∧ m.vol.length % 8 = 0) := mayB_true e2
      cases e3 : ordB m.vol.length m.pend
      · have H : Hid (ok m = false) := ok_ord e3
        go_enter Try.func42, Try.ntmps42
        go_wp2_with (first
          | (go_at_call 31; refine (mayHave_any _ _ (by omega)).mono ?_; rintro e w' ⟨rfl, hw⟩; rw [hw]; clear hw w')
          | (go_at_call 54; refine (inOrder_any _ m.pend _ _ (hR.below B0).pend (by omega)).mono ?_; rintro e w1 ⟨rfl, hb1⟩))
        go_ret
        exact ⟨ret_bool H.out.symm, bstep B0 hb1⟩
      · have H : Hid (ok m = decide (putAll m.per m.pend = m.vol)) := ok_rest E1.out E2.out e3
        have HI : Hid (InPl m.vol.length m.pend) := (ordB_out e3).1
        go_enter Try.func42, Try.ntmps42
        go_wp2_with (first
          | (go_at_call 31; refine (mayHave_any _ _ (by omega)).mono ?_; rintro e w' ⟨rfl, hw⟩; rw [hw]; clear hw w')
          | (go_at_call 54; refine (inOrder_any _ m.pend _ _ (hR.below B0).pend (by omega)).mono ?_; rintro e w1 ⟨rfl, hb1⟩; obtain ⟨⟨x0, x1, x2⟩, B1⟩ := HS0.out.next hb1; have hs1 := hb1.size)
          | (go_at_call 32; refine (cloneI_any _ m.per _ (hR.below B1).per).mono ?_; rintro e w2 ⟨v2, rfl, o2, hb2⟩; obtain ⟨g2, d2, rfl⟩ := o2.form; have S2 := (HS0.out.next hb1).next hb2; have HS2 : Hid (SC w w.heap.size (.slice a1 m.vol.length c1) (.slice a2 m.per.length c2) (.slice a3 m.pend.length c3) w2) := S2; have HO2 : Hid (OwnI w2 (w.heap.size + 1) (.slice g2 m.per.length d2) m.per) := own_mono o2 (by omega); clear o2 x0 x1 x2; obtain ⟨⟨x0, x1, x2⟩, B2⟩ := S2))
        go_loopw [35] (fun i w3 => ∃ k : Nat, k ≤ m.pend.length ∧ i = .int .i64 k ∧ OwnI w3 (w.heap.size + 1) (.slice g2 m.per.length d2) (putAll m.per (m.pend.take k)) ∧ SC w w.heap.size (.slice a1 m.vol.length c1) (.slice a2 m.per.length c2) (.slice a3 m.pend.length c3) w3) (fun i _ => m.pend.length - (intOf i).toNat)
        case atStart => exact ⟨0, Nat.zero_le _, rfl, HO2.out, HS2.out⟩
        case round =>
          obtain ⟨k, hk, rfl, hO, hS⟩ := hrel
          have HS : Hid (SC w w.heap.size (.slice a1 m.vol.length c1) (.slice a2 m.per.length c2) (.slice a3 m.pend.length c3) wr) := hS
          clear x0 x1 x2 B2
          obtain ⟨⟨x0, x1, x2⟩, B2⟩ := hS
          by_cases hlt : k < m.pend.length
          · have hltI : (k : Int) < (m.pend.length : Int) := by omega
            obtain ⟨p, hp⟩ : ∃ p, m.pend[k]? = some p := ⟨_, List.getElem?_eq_getElem hlt⟩
            have hT := take_next hp
            have hin := HI.out p (List.mem_of_getElem? hp)
            obtain ⟨b, off, rfl, y0, y1, y2⟩ := (hR.below B2).pend.get hp
            obtain ⟨pa, pv, pf⟩ := p
            dsimp only at y0 y1 y2 hin
            obtain ⟨q, rfl⟩ := Int.eq_ofNat_of_zero_le hin.1
            have hE1 := E1.out
            have hq : q < (putAll m.per (m.pend.take k)).length := by rw [putAll_length]; omega
            have hqI : (q : Int) < (m.per.length : Int) := by omega
            obtain ⟨g, rfl, hbg, hgl, ⟨hc, hf⟩, hset⟩ := (hO.below ((Below.refl _ _).alloc (Nat.le_refl _) (.cells #[.int .i64 (q : Int), .int .i64 pv, .bool pf] 76))).put hq
            have HO3 : Hid (∀ y : Int, OwnI (((wr.alloc (.cells #[.int .i64 (q : Int), .int .i64 pv, .bool pf] 76))).setCell ⟨g, q, none⟩ (.int .i64 y)) (w.heap.size + 1) (.slice (some ⟨g, 0, none⟩) m.per.length d2) ((putAll m.per (m.pend.take k)).set q y)) := hset
            have HT : Hid (m.pend.take (k + 1) = m.pend.take k ++ [⟨(q : Int), pv, pf⟩]) := hT
            clear hT hset hin hO hE1
            go_wp2
            exact ⟨⟨k + 1, by omega, by go_num, by rw [HT.out, putAll_append]; exact HO3.out pv, (HS.out.next ((Below.refl _ _).alloc (Nat.le_refl _) _)).store (by omega) (by omega) q _⟩, by simp [intOf]; omega⟩
          · obtain rfl : k = m.pend.length := by omega
            rw [List.take_length] at hO
            have O4 := hO.rd (by rw [putAll_length]; omega)
            clear hO
            go_wp2_with (first
              | (go_at_call 55; refine (equal_any _ _ _ _ _ O4 (hR.below B2).vol).mono ?_; rintro e w4 ⟨rfl, hb4⟩))
            go_ret
            exact ⟨ret_bool H.out.symm, bstep B2 hb4⟩
  · have e1' : ((m.per.length : Int) != (m.vol.length : Int)) = true := by simp; omega
    have H : Hid (ok m = false) := ok_len e1
    go_enter Try.func42, Try.ntmps42
    go_wp2
    go_ret
    exact ⟨ret_bool H.out.symm, B0⟩
end Go.Proofs.Ytmhojhpfkieioaa
