/- Walks of layer 4: the document's own answers: Crash. -/
import Derived.Test.YthibgmndgkhfiaaNumh
import Derived.Test.YthibgmndgkhfiaaWalkv
namespace Go.Proofs.Ythibgmndgkhfiaa
open Go.RowKit Go.Shelf
set_option linter.unusedVariables false

set_option maxRecDepth 100000 in
set_option maxHeartbeats 8000000 in
theorem crashR_any (va vb vc vk : Value) (m : Mm) (keep : List Int) (w : World) (hR : RdM w va vb vc m) (hK : Rd w vk keep) : Calls Try.prog 32 #[.agg #[va, vb, vc], vk] w fun e w' => ∃ v, e = .returned (.tuple #[v, .int .i64 (okE m)]) ∧ Rd w' v (crP m keep) ∧ Below w.heap.size w w' := by
  obtain ⟨l1, l2, l3⟩ := hR.lens
  obtain ⟨lk, ak, ck, rfl⟩ := hK.form
  obtain ⟨a1, c1, a2, c2, a3, c3, rfl, rfl, rfl⟩ := hR.forms
  have HB : Hid (Below w.heap.size w (w.alloc (.cells #[.slice a1 m.vol.length c1, .slice a2 m.per.length c2, .slice a3 m.pend.length c3] 25))) := (Below.refl _ _).alloc (Nat.le_refl _) _
  have X0 : Hid (Bo (w.alloc (.cells #[.slice a1 m.vol.length c1, .slice a2 m.per.length c2, .slice a3 m.pend.length c3] 25)) w.heap.size (.slice a1 m.vol.length c1) (.slice a2 m.per.length c2) (.slice a3 m.pend.length c3)) := Bo.new w _ _ _
  have HR : Hid (RdM w (.slice a1 m.vol.length c1) (.slice a2 m.per.length c2) (.slice a3 m.pend.length c3) m) := hR
  have HK : Hid (Rd w (.slice ak keep.length ck) keep) := hK
  clear hR hK
  cases e1 : ok m
  · have HE : Hid (okE m = 40) := by (show okE m = _; unfold okE; rw [e1]; rfl)
    have HM : Hid (crP m keep = []) := by (show crP m keep = _; unfold crP; rw [e1]; rfl)
    go_enter Try.func32, Try.ntmps32
    go_wp2_with (first | (go_at_call 26; refine (checkR_any _ _ _ m _ (HR.out.below HB.out)).mono ?_; rintro e w1 ⟨rfl, hb1⟩; have HB1 : Hid (Below w.heap.size w w1) := bstep HB.out hb1; have HX1 : Hid (Bo w1 w.heap.size (.slice a1 m.vol.length c1) (.slice a2 m.per.length c2) (.slice a3 m.pend.length c3)) := X0.out.below hb1; obtain ⟨⟨x0, x1, x2⟩, -⟩ := HX1.out.bx; clear hb1))
    go_ret2
    exact ⟨_, by rw [HE.out]; rfl, by rw [HM.out]; exact Rd.bare _, HB1.out⟩
  · have HE : Hid (okE m = 0) := by (show okE m = _; unfold okE; rw [e1]; rfl)
    obtain ⟨n8, hn8'⟩ : ∃ n8, m.vol.length / 8 = n8 := ⟨_, rfl⟩
    have HM : Hid (crP m keep = (kM m (m.pend.zip (crB (leftL keep n8) m.pend))).per) := by (show crP m keep = _; unfold crP crM; rw [e1, hn8']; rfl)
    have HI : Hid (InPl m.per.length m.pend) := ok_in e1
    have HI0 : Hid (∀ p ∈ m.pend, 0 ≤ p.a) := fun p hp => (ok_in e1 p hp).1
    have H8 : Hid (m.per.length = 8 * n8) := by (show _ = _; have h := ok_out e1; have h1 := h.1; have h2 := h.2.2.1; omega)
    have hbl : (crB (leftL keep n8) m.pend).length = m.pend.length := crB_length _ _
    have HBL : Hid ((crB (leftL keep n8) m.pend).length = m.pend.length) := hbl
    clear hn8' hbl
    have hF := field1
    go_enter Try.func32, Try.ntmps32
    go_wp2_with (first | (go_at_call 26; refine (checkR_any _ _ _ m _ (HR.out.below HB.out)).mono ?_; rintro e w1 ⟨rfl, hb1⟩; have HB1 : Hid (Below w.heap.size w w1) := bstep HB.out hb1; have HX1 : Hid (Bo w1 w.heap.size (.slice a1 m.vol.length c1) (.slice a2 m.per.length c2) (.slice a3 m.pend.length c3)) := X0.out.below hb1; obtain ⟨⟨x0, x1, x2⟩, -⟩ := HX1.out.bx; clear hb1))
    clear x0 x1 x2
    go_loopw [7, 8] (fun sa sb W => ∃ k : Nat, k ≤ m.pend.length ∧ sb = .int .i64 k ∧ OwnB W w1.heap.size sa k ((crB (leftL keep n8) m.pend).take k) ∧ Below w1.heap.size w1 W) (fun _ sb _ => m.pend.length - (intOf sb).toNat)
    case atStart => exact ⟨0, Nat.zero_le _, rfl, ⟨rfl, World.ownsRow_nil _ _ _ _⟩, Below.refl _ _⟩
    case round =>
      obtain ⟨k, hk, rfl, hO, hbr⟩ := hrel
      have HXr : Hid (Bo wr w.heap.size (.slice a1 m.vol.length c1) (.slice a2 m.per.length c2) (.slice a3 m.pend.length c3)) := HX1.out.below hbr
      have HBr : Hid (Below w.heap.size w wr) := bstep HB1.out hbr
      obtain ⟨⟨x0, x1, x2⟩, -⟩ := HXr.out.bx
      by_cases hlt : k < m.pend.length
      · have hltI : (k : Int) < (m.pend.length : Int) := by omega
        obtain ⟨p, hp⟩ : ∃ p, m.pend[k]? = some p := ⟨_, List.getElem?_eq_getElem hlt⟩
        have hin := HI.out p (List.mem_of_getElem? hp)
        obtain ⟨blk, off, rfl, z0, z1, z2⟩ := (HR.out.below HBr.out).pend.get hp
        obtain ⟨pa, pv, pf⟩ := p
        dsimp only at z0 z1 z2 hin
        obtain ⟨q, rfl⟩ := Int.eq_ofNat_of_zero_le hin.1
        have hq5 : (q : Int) < 100000 := by have := hin.2; omega
        obtain ⟨ql, hql⟩ : ∃ l, q / 8 = l := ⟨_, rfl⟩
        have hql8 : (q : Int) / 8 = (ql : Int) := by omega
        have hql5 : (ql : Int) < 100000 := by omega
        have HG : Hid ((crB (leftL keep n8) m.pend)[k]? = some (decide ((ctL ql (m.pend.take k) : Int) < keep.getD ql 0))) := cr_get HI0.out hp hql8 (by have := hin.2; have := H8.out; omega)
        clear hin hql
        go_wp2
        clear x0 x1 x2 z0 z1 z2
        go_loopw [10, 11] (fun sa sb W => ∃ j : Nat, j ≤ k ∧ sb = .int .i64 j ∧ sa = .int .i64 (ctL ql (m.pend.take j) : Nat) ∧ OwnB W w1.heap.size u7 k ((crB (leftL keep n8) m.pend).take k) ∧ Below w1.heap.size w1 W) (fun _ sb _ => k - (intOf sb).toNat)
        case atStart => exact ⟨0, Nat.zero_le _, rfl, rfl, hO, hbr⟩
        case round =>
          clear hO hbr HXr HBr
          obtain ⟨j, hj, rfl, rfl, hO, hbt⟩ := hrel
          have HXr : Hid (Bo wr w.heap.size (.slice a1 m.vol.length c1) (.slice a2 m.per.length c2) (.slice (some ⟨blk, off, none⟩) m.pend.length c3)) := HX1.out.below hbt
          have HBr : Hid (Below w.heap.size w wr) := bstep HB1.out hbt
          obtain ⟨⟨x0, x1, x2⟩, -⟩ := HXr.out.bx
          have hc5 : ((ctL ql (m.pend.take j) : Nat) : Int) < 100000 := by have := ctL_le ql (m.pend.take j); rw [List.length_take] at this; omega
          by_cases hjk : j < k
          · have hjkI : (j : Int) < (k : Int) := by omega
            have hjpI : (j : Int) < (m.pend.length : Int) := by omega
            obtain ⟨p, hpj⟩ : ∃ p, m.pend[j]? = some p := ⟨_, List.getElem?_eq_getElem (by omega)⟩
            have hin := HI.out p (List.mem_of_getElem? hpj)
            have hT := take_next hpj
            obtain ⟨z0, z1, z2⟩ := (HR.out.below HBr.out).pend.cells hpj
            obtain ⟨ra, rv, rf⟩ := p
            dsimp only at z0 z1 z2 hin
            obtain ⟨r, rfl⟩ := Int.eq_ofNat_of_zero_le hin.1
            have hr5 : (r : Int) < 100000 := by have := hin.2; omega
            obtain ⟨rl, hrl⟩ : ∃ l, r / 8 = l := ⟨_, rfl⟩
            have hrl8 : (r : Int) / 8 = (rl : Int) := by omega
            have hrl5 : (rl : Int) < 100000 := by omega
            clear hin hrl hpj
            by_cases he : rl = ql
            · have HT : Hid (ctL ql (m.pend.take (j + 1)) = ctL ql (m.pend.take j) + 1) := by (show _ = _; rw [hT]; exact ctL_yes _ _ _ (by show (r : Int) / 8 = _; omega))
              subst he
              clear hT
              go_wp2
              exact ⟨⟨j + 1, by omega, by go_num, by rw [HT.out]; go_num, hO, hbt⟩, by simp [intOf]; omega⟩
            · have HT : Hid (ctL ql (m.pend.take (j + 1)) = ctL ql (m.pend.take j)) := by (show _ = _; rw [hT]; exact ctL_no _ _ _ (by show ¬ ((r : Int) / 8 = _); omega))
              have he1 : ¬ ((rl : Int) = (ql : Int)) := by omega
              have he2 : ((rl : Int) == (ql : Int)) = false := by simp; omega
              clear hT
              go_wp2
              exact ⟨⟨j + 1, by omega, by go_num, by rw [HT.out], hO, hbt⟩, by simp [intOf]; omega⟩
          · obtain rfl : j = k := by omega
            obtain ⟨cc, hcc⟩ : ∃ c, ctL ql (m.pend.take j) = c := ⟨_, rfl⟩
            rw [hcc] at HG hc5 ⊢
            by_cases hlk : ql < keep.length
            · obtain ⟨x, hx⟩ : ∃ x, keep[ql]? = some x := ⟨_, List.getElem?_eq_getElem hlk⟩
              obtain ⟨bk, ok', rfl, hcell⟩ := (HK.out.below HBr.out).base (by omega)
              have hx0 := hcell ql x hx
              have hlkI : (ql : Int) < (keep.length : Int) := by omega
              have hmin : min (ql : Int) ((keep.length : Int) - 1) = (ql : Int) := by omega
              obtain ⟨tb, htb⟩ : ∃ b, decide ((cc : Int) < x) = b := ⟨_, rfl⟩
              have HT : Hid ((crB (leftL keep n8) m.pend).take (j + 1) = (crB (leftL keep n8) m.pend).take j ++ [tb]) := take_next (by rw [HG.out, List.getD_eq_getElem?_getD, hx]; exact congrArg some htb)
              clear hcell
              · skip
                have hsz := hbt.size
                have hsa : w1.heap.size ≤ (wr.alloc (.cells #[.bool tb] 4)).heap.size := by simp; omega
                have hk5 : j ≤ 100000 := by omega
                have HL1 : Hid (RdC (wr.alloc (.cells #[.bool tb] 4)) 1 (.slice (some ⟨wr.heap.size, 0, none⟩) 1 1) 1 [.bool tb]) := rdb_one wr tb
                have HOO : Hid (OwnB wr w1.heap.size u7 j ((crB (leftL keep n8) m.pend).take j)) := hO
                clear hO hp
                go_wp2_with (first
                  | (at_builtin; refine append_rdc rfl _ _ 70 rfl w1.heap.size 4 1 _ 1 Try.underlying70 Try.info4 rfl (by decide) (by decide) _ j _ rfl (World.ownsRow.alloc HOO.out.2 _) _ 1 _ rfl HL1.out (by intro u hu; simp at hu; rw [hu]; rfl) hk5 hsa ?_; intro v2 W2 o2 g2; have HO3 : Hid (OwnB W2 w1.heap.size v2 (j + 1) ((crB (leftL keep n8) m.pend).take j ++ [tb])) := HOO.out.more o2; have HB3 : Hid (Below w1.heap.size w1 W2) := (hbt.alloc hsz _).grown g2 hsa (fun q hq => (World.ownsRow.lt HOO.out.2 q hq).1); clear o2 g2))
                exact ⟨⟨j + 1, by omega, by go_num, by rw [HT.out]; exact HO3.out, HB3.out⟩, by simp [intOf]; omega⟩

            · have hlkI : ¬ ((ql : Int) < (keep.length : Int)) := by omega
              have hgd : keep.getD ql 0 = 0 := by rw [List.getD_eq_getElem?_getD, List.getElem?_eq_none (by omega)]; rfl
              obtain ⟨tb, htb⟩ : ∃ b, false = b := ⟨_, rfl⟩
              have HT : Hid ((crB (leftL keep n8) m.pend).take (j + 1) = (crB (leftL keep n8) m.pend).take j ++ [tb]) := take_next (by rw [HG.out, hgd, ← htb]; exact congrArg some (decide_eq_false (by omega)))
              subst htb
              clear hgd
              · skip
                have hsz := hbt.size
                have hsa : w1.heap.size ≤ (wr.alloc (.cells #[.bool false] 4)).heap.size := by simp; omega
                have hk5 : j ≤ 100000 := by omega
                have HL1 : Hid (RdC (wr.alloc (.cells #[.bool false] 4)) 1 (.slice (some ⟨wr.heap.size, 0, none⟩) 1 1) 1 [.bool false]) := rdb_one wr false
                have HOO : Hid (OwnB wr w1.heap.size u7 j ((crB (leftL keep n8) m.pend).take j)) := hO
                clear hO hp
                go_wp2_with (first
                  | (at_builtin; refine append_rdc rfl _ _ 70 rfl w1.heap.size 4 1 _ 1 Try.underlying70 Try.info4 rfl (by decide) (by decide) _ j _ rfl (World.ownsRow.alloc HOO.out.2 _) _ 1 _ rfl HL1.out (by intro u hu; simp at hu; rw [hu]; rfl) hk5 hsa ?_; intro v2 W2 o2 g2; have HO3 : Hid (OwnB W2 w1.heap.size v2 (j + 1) ((crB (leftL keep n8) m.pend).take j ++ [false])) := HOO.out.more o2; have HB3 : Hid (Below w1.heap.size w1 W2) := (hbt.alloc hsz _).grown g2 hsa (fun q hq => (World.ownsRow.lt HOO.out.2 q hq).1); clear o2 g2))
                exact ⟨⟨j + 1, by omega, by go_num, by rw [HT.out]; exact HO3.out, HB3.out⟩, by simp [intOf]; omega⟩

      · obtain rfl : k = m.pend.length := by omega
        rw [List.take_of_length_le (by rw [HBL.out]; exact Nat.le_refl _)] at hO
        have HA : Hid (RdB wr u7 (crB (leftL keep n8) m.pend)) := hO.rd l3
        clear hO hbr
        go_wp2_with (first
          | (go_at_call 41; refine (keepR_any _ _ _ _ m (crB (leftL keep n8) m.pend) _ (HR.out.below HBr.out) HA.out HBL.out HI.out).mono ?_; rintro e w9 ⟨v1, v2, v3, rfl, R9, hb9⟩; obtain ⟨b1, d1, b2, d2, b3, d3, rfl, rfl, rfl⟩ := R9.forms; have HR9 : Hid (RdM _ _ _ _ _) := R9; have HB9 : Hid (Below w.heap.size w w9) := bstep HBr.out hb9; clear hb9 R9))
        go_ret2
        exact ⟨_, by rw [HE.out]; rfl, by rw [HM.out]; exact HR9.out.per, HB9.out⟩
end Go.Proofs.Ythibgmndgkhfiaa
