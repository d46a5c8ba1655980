/- Walks of layer 4: a memory may be. -/
import Derived.Test.YtmaeobdeddllaaaWalkd
namespace Go.Proofs.Ytmaeobdeddllaaa
open Go.RowKit
set_option linter.unusedVariables false

theorem RdM.forms {W : World} {va vb vc : Value} {m : Mm} (h : RdM W va vb vc m) : ∃ a1 c1 a2 c2 a3 c3, va = .slice a1 m.vol.length c1 ∧ vb = .slice a2 m.per.length c2 ∧ vc = .slice a3 m.pend.length c3 := by
  obtain ⟨_, a1, c1, h1⟩ := h.vol.form
  obtain ⟨_, a2, c2, h2⟩ := h.per.form
  obtain ⟨_, a3, c3, h3⟩ := h.pend.form
  exact ⟨a1, c1, a2, c2, a3, c3, h1, h2, h3⟩
theorem RdM.lens {W : World} {va vb vc : Value} {m : Mm} (h : RdM W va vb vc m) : m.vol.length ≤ 1000 ∧ m.per.length ≤ 1000 ∧ m.pend.length ≤ 1000 := ⟨h.vol.form.1, h.per.form.1, h.pend.form.1⟩
theorem mayB_true {n : Nat} (h : mayB n = true) : n ≤ 4096 ∧ n % 8 = 0 := of_decide_eq_true h
theorem ordB_out {n : Nat} {ps : List Pd} (h : ordB n ps = true) : InPl n ps ∧ Ahead ps := @of_decide_eq_true _ (Ord.dec n ps) h
/-- A row of the call's own is written at one place. -/
theorem OwnI.put {W : World} {base : Nat} {a : Option Addr} {n c : Nat} {zs : List Int} (h : OwnI W base (.slice a n c) zs) {k : Nat} (hk : k < zs.length) :
    ∃ g, a = some ⟨g, 0, none⟩ ∧ base ≤ g ∧ g < W.heap.size ∧ (W.cell? ⟨g, k, none⟩ = some (.int .i64 zs[k]) ∧ W.frozen? ⟨g, k, none⟩ = false) ∧ ∀ y : Int, OwnI (W.setCell ⟨g, k, none⟩ (.int .i64 y)) base (.slice a n c) (zs.set k y) := by
  have h' := h
  rcases h.2 with ⟨e, h0⟩ | ⟨g, cap, cur, e, hbg, hg, _⟩
  · omega
  · cases e
    refine ⟨g, rfl, hbg, (Array.getElem?_eq_some_iff.1 hg).1, ⟨?_, World.ownsRow.frozenAt h' k⟩, ?_⟩
    · rw [World.ownsRow.cellAt h' k (by omega), List.getElem?_map, List.getElem?_eq_getElem hk]; rfl
    · intro y
      have := (World.ownsRow.stored h' k (.int .i64 y)).1
      unfold OwnI
      rw [List.length_set, List.map_set]
      exact this

set_option maxRecDepth 100000 in
set_option maxHeartbeats 2000000 in
theorem check_any (va vb vc : Value) (m : Mm) (w : World) (hR : RdM w va vb vc m) : Calls Try.prog 27 #[.agg #[va, vb, vc]] w fun e w' => e = .returned (.bool (ok m)) ∧ Below w.heap.size w w' := by
  obtain ⟨l1, l2, l3⟩ := hR.lens
  obtain ⟨a1, c1, a2, c2, a3, c3, rfl, rfl, rfl⟩ := hR.forms
  have B0 : Below w.heap.size w (w.alloc (.cells #[.slice a1 m.vol.length c1, .slice a2 m.per.length c2, .slice a3 m.pend.length c3] 25)) := (Below.refl _ _).alloc (Nat.le_refl _) _
  have HS0 : Hid (SC w w.heap.size (.slice a1 m.vol.length c1) (.slice a2 m.per.length c2) (.slice a3 m.pend.length c3) (w.alloc (.cells #[.slice a1 m.vol.length c1, .slice a2 m.per.length c2, .slice a3 m.pend.length c3] 25))) := ⟨by simp, B0⟩
  have hs0 : w.heap.size + 1 ≤ (w.alloc (.cells #[.slice a1 m.vol.length c1, .slice a2 m.per.length c2, .slice a3 m.pend.length c3] 25)).heap.size := by simp
  by_cases e1 : m.per.length = m.vol.length
  · have e1' : ((m.per.length : Int) != (m.vol.length : Int)) = false := by simp [e1]
    have E1 : Hid (m.per.length = m.vol.length) := e1
    clear e1
    cases e2 : mayB m.vol.length
    · have H : Hid (ok m = false) := ok_may (fun h => by unfold mayB at e2; rw [decide_eq_true h] at e2; cases e2)
      go_enter Try.func27, Try.ntmps27
      go_wp2_with (first | (go_at_call 41; refine (mayHave_any _ _ (by omega)).mono ?_; rintro e w' ⟨rfl, hw⟩; rw [hw]; clear hw w'))
      go_ret
      exact ⟨ret_bool H.out.symm, B0⟩
    · have E2 : Hid (m.vol.length ≤ 4096 ∧ m.vol.length % 8 = 0) := mayB_true e2
      cases e3 : ordB m.vol.length m.pend
      · have H : Hid (ok m = false) := ok_ord e3
        go_enter Try.func27, Try.ntmps27
        go_wp2_with (first
          | (go_at_call 41; refine (mayHave_any _ _ (by omega)).mono ?_; rintro e w' ⟨rfl, hw⟩; rw [hw]; clear hw w')
          | (go_at_call 43; refine (inOrder_any _ m.pend _ _ (hR.below B0).pend (by omega)).mono ?_; rintro e w1 ⟨rfl, hb1⟩))
        go_ret
        exact ⟨ret_bool H.out.symm, bstep B0 hb1⟩
      · have H : Hid (ok m = decide (putAll m.per m.pend = m.vol)) := ok_rest E1.out E2.out e3
        have HI : Hid (InPl m.vol.length m.pend) := (ordB_out e3).1
        go_enter Try.func27, Try.ntmps27
        go_wp2_with (first
          | (go_at_call 41; refine (mayHave_any _ _ (by omega)).mono ?_; rintro e w' ⟨rfl, hw⟩; rw [hw]; clear hw w')
          | (go_at_call 43; refine (inOrder_any _ m.pend _ _ (hR.below B0).pend (by omega)).mono ?_; rintro e w1 ⟨rfl, hb1⟩; obtain ⟨⟨x0, x1, x2⟩, B1⟩ := HS0.out.next hb1; have hs1 := hb1.size)
          | (go_at_call 42; refine (cloneI_any _ m.per _ (hR.below B1).per).mono ?_; rintro e w2 ⟨v2, rfl, o2, hb2⟩; obtain ⟨g2, d2, rfl⟩ := o2.form; have S2 := (HS0.out.next hb1).next hb2; have HS2 : Hid (SC w w.heap.size (.slice a1 m.vol.length c1) (.slice a2 m.per.length c2) (.slice a3 m.pend.length c3) w2) := S2; have HO2 : Hid (OwnI w2 (w.heap.size + 1) (.slice g2 m.per.length d2) m.per) := own_mono o2 (by omega); clear o2 x0 x1 x2; obtain ⟨⟨x0, x1, x2⟩, B2⟩ := S2))
        go_loopw [35] (fun i w3 => ∃ k : Nat, k ≤ m.pend.length ∧ i = .int .i64 k ∧ OwnI w3 (w.heap.size + 1) (.slice g2 m.per.length d2) (putAll m.per (m.pend.take k)) ∧ SC w w.heap.size (.slice a1 m.vol.length c1) (.slice a2 m.per.length c2) (.slice a3 m.pend.length c3) w3) (fun i _ => m.pend.length - (intOf i).toNat)
        case atStart => exact ⟨0, Nat.zero_le _, rfl, HO2.out, HS2.out⟩
        case round =>
          obtain ⟨k, hk, rfl, hO, hS⟩ := hrel
          have HS : Hid (SC w w.heap.size (.slice a1 m.vol.length c1) (.slice a2 m.per.length c2) (.slice a3 m.pend.length c3) wr) := hS
          clear x0 x1 x2 B2
          obtain ⟨⟨x0, x1, x2⟩, B2⟩ := hS
          by_cases hlt : k < m.pend.length
          · have hltI : (k : Int) < (m.pend.length : Int) := by omega
            obtain ⟨p, hp⟩ : ∃ p, m.pend[k]? = some p := ⟨_, List.getElem?_eq_getElem hlt⟩
            have hT := take_next hp
            have hin := HI.out p (List.mem_of_getElem? hp)
            obtain ⟨b, off, rfl, y0, y1, y2⟩ := (hR.below B2).pend.get hp
            obtain ⟨pa, pv, pf⟩ := p
            dsimp only at y0 y1 y2 hin
            obtain ⟨q, rfl⟩ := Int.eq_ofNat_of_zero_le hin.1
            have hE1 := E1.out
            have hq : q < (putAll m.per (m.pend.take k)).length := by rw [putAll_length]; omega
            have hqI : (q : Int) < (m.per.length : Int) := by omega
            obtain ⟨g, rfl, hbg, hgl, ⟨hc, hf⟩, hset⟩ := (hO.below ((Below.refl _ _).alloc (Nat.le_refl _) (.cells #[.int .i64 (q : Int), .int .i64 pv, .bool pf] 41))).put hq
            have HO3 : Hid (∀ y : Int, OwnI (((wr.alloc (.cells #[.int .i64 (q : Int), .int .i64 pv, .bool pf] 41))).setCell ⟨g, q, none⟩ (.int .i64 y)) (w.heap.size + 1) (.slice (some ⟨g, 0, none⟩) m.per.length d2) ((putAll m.per (m.pend.take k)).set q y)) := hset
            have HT : Hid (m.pend.take (k + 1) = m.pend.take k ++ [⟨(q : Int), pv, pf⟩]) := hT
            clear hT hset hin hO hE1
            go_wp2
            exact ⟨⟨k + 1, by omega, by go_num, by rw [HT.out, putAll_append]; exact HO3.out pv, (HS.out.next ((Below.refl _ _).alloc (Nat.le_refl _) _)).store (by omega) (by omega) q _⟩, by simp [intOf]; omega⟩
          · obtain rfl : k = m.pend.length := by omega
            rw [List.take_length] at hO
            have O4 := hO.rd (by rw [putAll_length]; omega)
            clear hO
            go_wp2_with (first
              | (go_at_call 44; refine (equal_any _ _ _ _ _ O4 (hR.below B2).vol).mono ?_; rintro e w4 ⟨rfl, hb4⟩))
            go_ret
            exact ⟨ret_bool H.out.symm, bstep B2 hb4⟩
  · have e1' : ((m.per.length : Int) != (m.vol.length : Int)) = true := by simp; omega
    have H : Hid (ok m = false) := ok_len e1
    go_enter Try.func27, Try.ntmps27
    go_wp2
    go_ret
    exact ⟨ret_bool H.out.symm, B0⟩
end Go.Proofs.Ytmaeobdeddllaaa
