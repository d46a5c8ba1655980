/- Walks of layer 4: the document's own answers: what may be. -/
import Derived.Test.YthibgmndgkhfiaaWalkq
namespace Go.Proofs.Ythibgmndgkhfiaa
open Go.RowKit Go.Shelf
set_option linter.unusedVariables false

def OwnNN (W : World) (base : Nat) (v : Value) (n : Nat) (xs : List Value) : Prop := W.ownsRow base 3 1 v n xs
theorem fit_more {l : List Pd} {x p : Pd} (h : ∀ y ∈ l, Fit y p) (hx : Fit x p) : ∀ y ∈ l ++ [x], Fit y p := by
  intro y hy
  rcases List.mem_append.1 hy with hy | hy
  · exact h y hy
  · rw [List.mem_singleton.1 hy]; exact hx
theorem not_ahead {m : Mm} {k : Nat} {l : List Pd} {p : Pd} (hT : m.pend.take (k + 1) = l ++ [p]) (h : ¬ ∀ q ∈ l, Fit q p) : ok m = false := ok_false fun hk => h (by
  have := ahead_take hk.2.2.2.2.1 (k + 1)
  rw [hT, ahead_snoc] at this
  exact this.2)
theorem not_inPl {m : Mm} {k : Nat} {l : List Pd} {p : Pd} (hT : m.pend.take (k + 1) = l ++ [p]) (h : ¬ (0 ≤ p.a ∧ p.a < (m.vol.length : Int))) : ok m = false := ok_false fun hk => h (by
  have := inPl_take hk.2.2.2.1 (k + 1)
  rw [hT, inPl_snoc] at this
  exact this.2)

set_option maxRecDepth 100000 in
set_option maxHeartbeats 8000000 in
theorem checkR_any (va vb vc : Value) (m : Mm) (w : World) (hR : RdM w va vb vc m) : Calls Try.prog 26 #[.agg #[va, vb, vc]] w fun e w' => e = .returned (.bool (ok m)) ∧ Below w.heap.size w w' := by
  obtain ⟨l1, l2, l3⟩ := hR.lens
  obtain ⟨a1, c1, a2, c2, a3, c3, rfl, rfl, rfl⟩ := hR.forms
  have HB : Hid (Below w.heap.size w (w.alloc (.cells #[.slice a1 m.vol.length c1, .slice a2 m.per.length c2, .slice a3 m.pend.length c3] 25))) := (Below.refl _ _).alloc (Nat.le_refl _) _
  have HX : Hid (Bo (w.alloc (.cells #[.slice a1 m.vol.length c1, .slice a2 m.per.length c2, .slice a3 m.pend.length c3] 25)) w.heap.size (.slice a1 m.vol.length c1) (.slice a2 m.per.length c2) (.slice a3 m.pend.length c3)) := Bo.new w _ _ _
  have Hs : Hid (w.heap.size + 1 = (w.alloc (.cells #[.slice a1 m.vol.length c1, .slice a2 m.per.length c2, .slice a3 m.pend.length c3] 25)).heap.size) := by (show _ = _; simp)
  have HR : Hid (RdM w (.slice a1 m.vol.length c1) (.slice a2 m.per.length c2) (.slice a3 m.pend.length c3) m) := hR
  clear hR
  by_cases e1 : m.vol.length = m.per.length
  · have e1' : ((m.vol.length : Int) != (m.per.length : Int)) = false := by simp [e1]
    have E1 : Hid (m.vol.length = m.per.length) := e1
    clear e1
    by_cases e2 : m.vol.length % 8 = 0
    · have e2' : ((m.vol.length : Int) % 8 != 0) = false := by simp; omega
      have e3' : ¬ ((4096 : Int) < (m.vol.length : Int)) := by omega
      have E2 : Hid (m.vol.length % 8 = 0) := e2
      clear e2
      have HM : Hid (OwnNN ((w.alloc (.cells #[.slice a1 m.vol.length c1, .slice a2 m.per.length c2, .slice a3 m.pend.length c3] 25)).alloc (.cells #[] 3)) (w.heap.size + 1) (.slice (some ⟨w.heap.size + 1, 0, none⟩) 0 0) 0 []) := by (show World.ownsRow _ _ _ _ _ _ _; have h := World.ownsRow_made (base := (w.alloc (.cells #[.slice a1 m.vol.length c1, .slice a2 m.per.length c2, .slice a3 m.pend.length c3] 25)).heap.size) (e := 3) (size := 1) (w.alloc (.cells #[.slice a1 m.vol.length c1, .slice a2 m.per.length c2, .slice a3 m.pend.length c3] 25)) #[] 0 (Nat.le_refl _) (by omega) rfl; rw [← Hs.out] at h; exact h)
      have HB0 : Hid (Below (w.heap.size + 1) (w.alloc (.cells #[.slice a1 m.vol.length c1, .slice a2 m.per.length c2, .slice a3 m.pend.length c3] 25)) ((w.alloc (.cells #[.slice a1 m.vol.length c1, .slice a2 m.per.length c2, .slice a3 m.pend.length c3] 25)).alloc (.cells #[] 3))) := ((Below.refl _ (w.alloc (.cells #[.slice a1 m.vol.length c1, .slice a2 m.per.length c2, .slice a3 m.pend.length c3] 25))).alloc (Nat.le_refl _) _).mono (Nat.le_of_eq Hs.out)
      have hs4 : w.heap.size + 1 ≤ ((w.alloc (.cells #[.slice a1 m.vol.length c1, .slice a2 m.per.length c2, .slice a3 m.pend.length c3] 25)).alloc (.cells #[] 3)).heap.size := by simp
      go_enter Try.func26, Try.ntmps26
      go_wp2_with (first
        | (at_builtin; refine append_rdc rfl _ _ 22 rfl (w.heap.size + 1) 3 1 _ 8 Try.underlying22 Try.info3 rfl (by decide) (by decide) _ 0 [] rfl HM.out _ m.per.length _ rfl (HR.out.below (HB.out.alloc HB.out.size (.cells #[] 3))).per (ints_one m.per) (by omega) hs4 ?_; intro v4 w4 o4 g4; have B4 : Below (w.heap.size + 1) (w.alloc (.cells #[.slice a1 m.vol.length c1, .slice a2 m.per.length c2, .slice a3 m.pend.length c3] 25)) w4 := HB0.out.grown g4 hs4 (by intro q hq; cases hq; exact Nat.le_refl _); have HO4 : Hid (OwnI w4 (w.heap.size + 1) v4 m.per) := own_zy o4; obtain ⟨a4, c4, rfl⟩ := HO4.out.form; have HB4 : Hid (Below (w.heap.size + 1) (w.alloc (.cells #[.slice a1 m.vol.length c1, .slice a2 m.per.length c2, .slice a3 m.pend.length c3] 25)) w4) := B4; clear o4 g4 B4))
      go_loopw [5] (fun s w1 => ∃ k : Nat, k ≤ m.pend.length ∧ s = .int .i64 k ∧ InPl m.vol.length (m.pend.take k) ∧ Ahead (m.pend.take k) ∧ OwnI w1 (w.heap.size + 1) (.slice a4 m.per.length c4) (putAll m.per (m.pend.take k)) ∧ Below (w.heap.size + 1) (w.alloc (.cells #[.slice a1 m.vol.length c1, .slice a2 m.per.length c2, .slice a3 m.pend.length c3] 25)) w1) (fun s _ => m.pend.length - (intOf s).toNat)
      case atStart => exact ⟨0, Nat.zero_le _, rfl, by intro p hp; simp at hp, by simp [Ahead], HO4.out, HB4.out⟩
      case round =>
        obtain ⟨k, hk, rfl, hI, hA, hO, hbr⟩ := hrel
        have HO : Hid (OwnI wr (w.heap.size + 1) (.slice a4 m.per.length c4) (putAll m.per (m.pend.take k))) := hO
        have HI : Hid (InPl m.vol.length (m.pend.take k)) := hI
        have HA : Hid (Ahead (m.pend.take k)) := hA
        clear hO hI hA
        have HXr : Hid (Bx wr w.heap.size (.slice a1 m.vol.length c1) (.slice a2 m.per.length c2) (.slice a3 m.pend.length c3)) := HX.out.bx.far hbr (Nat.lt_succ_self _)
        have HBr : Hid (Below w.heap.size w wr) := HB.out.trans (hbr.mono (Nat.le_succ _))
        obtain ⟨⟨x0, x1, x2⟩, -⟩ := HXr.out
        by_cases hlt : k < m.pend.length
        · have hltI : (k : Int) < (m.pend.length : Int) := by omega
          obtain ⟨p, hp⟩ : ∃ p, m.pend[k]? = some p := ⟨_, List.getElem?_eq_getElem hlt⟩
          have hT := take_next hp
          obtain ⟨b, off, rfl, y0, y1, y2⟩ := (HR.out.below HBr.out).pend.get hp
          obtain ⟨pa, pv, pf⟩ := p
          dsimp only at y0 y1 y2
          have b5 : Below wr.heap.size wr (wr.alloc (.cells #[.int .i64 pa, .int .i64 pv, .bool pf] 55)) := (Below.refl _ _).alloc (Nat.le_refl _) _
          by_cases h0 : pa < 0
          · have H : Hid (ok m = false) := not_inPl hT (by show ¬ (0 ≤ pa ∧ _); omega)
            clear hT
            go_wp2
            go_ret
            exact ⟨ret_bool H.out.symm, bstep HBr.out b5⟩
          · by_cases h1 : (m.vol.length : Int) ≤ pa
            · have H : Hid (ok m = false) := not_inPl hT (by show ¬ (_ ∧ pa < _); omega)
              clear hT
              go_wp2
              go_ret
              exact ⟨ret_bool H.out.symm, bstep HBr.out b5⟩
            · obtain ⟨q, rfl⟩ := Int.eq_ofNat_of_zero_le (show 0 ≤ pa by omega)
              have hq5 : (q : Int) < 100000 := by omega
              obtain ⟨ql, hql⟩ : ∃ l, q / 8 = l := ⟨_, rfl⟩
              have hql8 : (q : Int) / 8 = (ql : Int) := by omega
              have HT : Hid (m.pend.take (k + 1) = m.pend.take k ++ [⟨(q : Int), pv, pf⟩]) := hT
              have hqp : q < (putAll m.per (m.pend.take k)).length := by rw [putAll_length]; have := E1.out; omega
              have hqI : (q : Int) < (m.per.length : Int) := by have := E1.out; omega
              have HP5 : Hid (Bx (wr.alloc (.cells #[.int .i64 (q : Int), .int .i64 pv, .bool pf] 55)) wr.heap.size (.int .i64 (q : Int)) (.int .i64 pv) (.bool pf)) := bx_new wr _ _ _ 55
              have HX5 : Hid (Bx (wr.alloc (.cells #[.int .i64 (q : Int), .int .i64 pv, .bool pf] 55)) w.heap.size (.slice a1 m.vol.length c1) (.slice a2 m.per.length c2) (.slice (some ⟨b, off, none⟩) m.pend.length c3)) := HXr.out.below b5
              have HO5 : Hid (OwnI (wr.alloc (.cells #[.int .i64 (q : Int), .int .i64 pv, .bool pf] 55)) (w.heap.size + 1) (.slice a4 m.per.length c4) (putAll m.per (m.pend.take k))) := HO.out.below b5
              have HB5 : Hid (Below (w.heap.size + 1) (w.alloc (.cells #[.slice a1 m.vol.length c1, .slice a2 m.per.length c2, .slice (some ⟨b, off, none⟩) m.pend.length c3] 25)) (wr.alloc (.cells #[.int .i64 (q : Int), .int .i64 pv, .bool pf] 55))) := hbr.alloc (by have := hbr.size; simp at this; omega) _
              have HL1 : Hid ((q : Int) / 8 = (ql : Int)) := hql8
              clear hT b5
              have HII : Hid (InPl m.vol.length (m.pend.take (k + 1))) := by (show InPl _ _; rw [HT.out]; exact inPl_snoc.2 ⟨HI.out, by show (0 : Int) ≤ (q : Int); omega, by show (q : Int) < _; omega⟩)
              cases pf
              · have HAA : Hid (Ahead (m.pend.take (k + 1))) := by (show Ahead _; rw [HT.out]; exact ahead_snoc.2 ⟨HA.out, fit_bare rfl⟩)
                have hs5 : w.heap.size + 1 ≤ (wr.alloc (.cells #[.int .i64 (q : Int), .int .i64 pv, .bool false] 55)).heap.size := by have := hbr.size; simp at this ⊢; omega
                go_wp2
                generalize (wr.alloc (.cells #[.int .i64 (q : Int), .int .i64 pv, .bool false] 55)) = W5 at HP5 HX5 HO5 HB5 hs5 ⊢
                clear y0 y1 y2 x0 x1 x2
                go_loopw [7] (fun s w1 => ∃ j : Nat, j ≤ k ∧ s = .int .i64 j ∧ Below W5.heap.size W5 w1) (fun s _ => k - (intOf s).toNat)
                case atStart => exact ⟨0, Nat.zero_le _, rfl, Below.refl _ _⟩
                case round =>
                  obtain ⟨j, hj, rfl, hbt⟩ := hrel
                  obtain ⟨⟨z0, z1, z2⟩, -⟩ := HP5.out.below hbt
                  obtain ⟨⟨y0, y1, y2⟩, -⟩ := HX5.out.below hbt
                  by_cases hjk : j < k
                  · have hjkI : (j : Int) < (k : Int) := by omega
                    obtain ⟨g, rfl, hbg, hgl, ⟨hc, hf⟩, hset⟩ := (HO5.out.below hbt).put hqp
                    have HN : Hid (OwnI _ _ _ ((putAll m.per (m.pend.take k)).set q pv)) := hset pv
                    have HBn : Hid (Below (w.heap.size + 1) (w.alloc (.cells #[.slice a1 m.vol.length c1, .slice a2 m.per.length c2, .slice (some ⟨b, off, none⟩) m.pend.length c3] 25)) _) := (HB5.out.trans (hbt.mono hs5)).setCell (p := ⟨g, q, none⟩) hbg (.int .i64 pv)
                    clear hset
                    go_wp2
                    exact ⟨⟨k + 1, by omega, by go_num, HII.out, HAA.out, by rw [HT.out, putAll_append]; exact HN.out, HBn.out⟩, by simp [intOf]; omega⟩
                  · have hjkI : ¬ ((j : Int) < (k : Int)) := by omega
                    obtain ⟨g, rfl, hbg, hgl, ⟨hc, hf⟩, hset⟩ := (HO5.out.below hbt).put hqp
                    have HN : Hid (OwnI _ _ _ ((putAll m.per (m.pend.take k)).set q pv)) := hset pv
                    have HBn : Hid (Below (w.heap.size + 1) (w.alloc (.cells #[.slice a1 m.vol.length c1, .slice a2 m.per.length c2, .slice (some ⟨b, off, none⟩) m.pend.length c3] 25)) _) := (HB5.out.trans (hbt.mono hs5)).setCell (p := ⟨g, q, none⟩) hbg (.int .i64 pv)
                    clear hset
                    go_wp2
                    exact ⟨⟨k + 1, by omega, by go_num, HII.out, HAA.out, by rw [HT.out, putAll_append]; exact HN.out, HBn.out⟩, by simp [intOf]; omega⟩
              · have hs5 : w.heap.size + 1 ≤ (wr.alloc (.cells #[.int .i64 (q : Int), .int .i64 pv, .bool true] 55)).heap.size := by have := hbr.size; simp at this ⊢; omega
                go_wp2
                generalize (wr.alloc (.cells #[.int .i64 (q : Int), .int .i64 pv, .bool true] 55)) = W5 at HP5 HX5 HO5 HB5 hs5 ⊢
                clear y0 y1 y2 x0 x1 x2
                go_loopw [7] (fun s w1 => ∃ j : Nat, j ≤ k ∧ s = .int .i64 j ∧ (∀ x ∈ m.pend.take j, Fit x ⟨(q : Int), pv, true⟩) ∧ Below W5.heap.size W5 w1) (fun s _ => k - (intOf s).toNat)
                case atStart => exact ⟨0, Nat.zero_le _, rfl, by intro x hx; simp at hx, Below.refl _ _⟩
                case round =>
                  obtain ⟨j, hj, rfl, hfit, hbt⟩ := hrel
                  have HF : Hid (∀ x ∈ m.pend.take j, Fit x ⟨(q : Int), pv, true⟩) := hfit
                  clear hfit
                  obtain ⟨⟨z0, z1, z2⟩, -⟩ := HP5.out.below hbt
                  obtain ⟨⟨y0, y1, y2⟩, -⟩ := HX5.out.below hbt
                  by_cases hjk : j < k
                  · have hjkI : (j : Int) < (k : Int) := by omega
                    have hjm : j < m.pend.length := by omega
                    have hjmI : (j : Int) < (m.pend.length : Int) := by omega
                    obtain ⟨p2, hp2⟩ : ∃ p, m.pend[j]? = some p := ⟨_, List.getElem?_eq_getElem hjm⟩
                    have hT2 := take_next hp2
                    have hin2 := HI.out p2 (List.mem_of_getElem? (show (m.pend.take k)[j]? = some p2 from by rw [List.getElem?_take, if_pos hjk]; exact hp2))
                    obtain ⟨r0, r1, r2⟩ := ((HR.out.below (HB.out.trans ((HB5.out.trans (hbt.mono hs5)).mono (Nat.le_succ _)))).pend).cells hp2
                    obtain ⟨xa, xv, xf⟩ := p2
                    dsimp only at r0 r1 r2 hin2
                    obtain ⟨u, rfl⟩ := Int.eq_ofNat_of_zero_le hin2.1
                    have hu5 : (u : Int) < 100000 := by omega
                    obtain ⟨ul, hul⟩ : ∃ l, u / 8 = l := ⟨_, rfl⟩
                    have hul8 : (u : Int) / 8 = (ul : Int) := by omega
                    by_cases hle : ul = ql
                    · have tl : ((ul : Int) == (ql : Int)) = true := by simp [hle]
                      cases xf
                      · have H : Hid (ok m = false) := not_ahead HT.out (fun h => by
                          have h2 := h ⟨(u : Int), xv, false⟩ (List.mem_of_getElem? (show (m.pend.take k)[j]? = some _ from by rw [List.getElem?_take, if_pos hjk]; exact hp2)) rfl (by show (u : Int) / 8 = (q : Int) / 8; omega)
                          cases h2)
                        clear hp2 hT2 hin2
                        go_wp2
                        go_quiet (fail)
                        go_wp2
                        go_ret
                        exact ⟨ret_bool H.out.symm, below_drewN (HB.out.trans ((HB5.out.trans (hbt.mono hs5)).mono (Nat.le_succ _))) _⟩
                      · have HF2 : Hid (∀ x ∈ m.pend.take (j + 1), Fit x ⟨(q : Int), pv, true⟩) := by (show ∀ x ∈ _, _; rw [hT2]; exact fit_more HF.out (fun _ _ => rfl))
                        clear hp2 hT2 hin2
                        go_wp2
                        go_quiet (fail)
                        go_wp2
                        go_roundw
                        case rel => exact ⟨j + 1, by omega, by go_num, HF2.out, below_drewN hbt _⟩
                        case measure => simp [intOf]; omega
                    · have tl : ((ul : Int) == (ql : Int)) = false := by simp; omega
                      have HF2 : Hid (∀ x ∈ m.pend.take (j + 1), Fit x ⟨(q : Int), pv, true⟩) := by (show ∀ x ∈ _, _; rw [hT2]; exact fit_more HF.out (fun _ e => absurd e (by show ¬ (u : Int) / 8 = (q : Int) / 8; omega)))
                      clear hp2 hT2 hin2
                      go_wp2
                      go_quiet (fail)
                      go_wp2
                      go_roundw
                      case rel => exact ⟨j + 1, by omega, by go_num, HF2.out, below_drewN hbt _⟩
                      case measure => simp [intOf]; omega
                  · have hjkI : ¬ ((j : Int) < (k : Int)) := by omega
                    obtain rfl : j = k := by omega
                    have HAA : Hid (Ahead (m.pend.take (j + 1))) := by (show Ahead _; rw [HT.out]; exact ahead_snoc.2 ⟨HA.out, HF.out⟩)
                    obtain ⟨g, rfl, hbg, hgl, ⟨hc, hf⟩, hset⟩ := (HO5.out.below hbt).put hqp
                    have HN : Hid (OwnI _ _ _ ((putAll m.per (m.pend.take j)).set q pv)) := hset pv
                    have HBn : Hid (Below (w.heap.size + 1) (w.alloc (.cells #[.slice a1 m.vol.length c1, .slice a2 m.per.length c2, .slice (some ⟨b, off, none⟩) m.pend.length c3] 25)) _) := (HB5.out.trans (hbt.mono hs5)).setCell (p := ⟨g, q, none⟩) hbg (.int .i64 pv)
                    clear hset
                    go_wp2
                    exact ⟨⟨j + 1, by omega, by go_num, HII.out, HAA.out, by rw [HT.out, putAll_append]; exact HN.out, HBn.out⟩, by simp [intOf]; omega⟩
        · obtain rfl : k = m.pend.length := by omega
          have H : Hid (ok m = decide (putAll m.per m.pend = m.vol)) := ok_rest E1.out.symm ⟨by omega, E2.out⟩ (ordB_true (by have h1 := HI.out; have h2 := HA.out; rw [List.take_length] at h1 h2; exact ⟨h1, h2⟩))
          have hO := HO.out
          rw [List.take_length] at hO
          have O4 := hO.rd (by rw [putAll_length]; omega)
          clear hO
          go_wp2_with (first
            | (go_at_call 17; refine (numbers_any _ _ _ _ _ O4 (HR.out.below HBr.out).vol).mono ?_; rintro e w9 ⟨rfl, hb9⟩))
          go_ret
          exact ⟨ret_bool H.out.symm, bstep HBr.out hb9⟩
    · have e2' : ((m.vol.length : Int) % 8 != 0) = true := by simp; omega
      have H : Hid (ok m = false) := ok_may (fun h => e2 h.2)
      have e3' : ¬ ((4096 : Int) < (m.vol.length : Int)) := by omega
      clear e2
      go_enter Try.func26, Try.ntmps26
      go_wp2
      go_ret
      exact ⟨ret_bool H.out.symm, HB.out⟩
  · have e1' : ((m.vol.length : Int) != (m.per.length : Int)) = true := by simp; omega
    have H : Hid (ok m = false) := ok_len (fun h => e1 h.symm)
    go_enter Try.func26, Try.ntmps26
    go_wp2
    go_ret
    exact ⟨ret_bool H.out.symm, HB.out⟩
end Go.Proofs.Ythibgmndgkhfiaa

