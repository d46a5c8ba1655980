/- Walks of layer 4: the document's own answers: Fence, Evict. -/
import Derived.Test.YthibgmndgkhfiaaWalkt
import Derived.Test.YthibgmndgkhfiaaWalku
namespace Go.Proofs.Ythibgmndgkhfiaa
open Go.RowKit Go.Shelf
set_option linter.unusedVariables false

/-- A row of k bools of the call's own. -/
def OwnB (W : World) (base : Nat) (v : Value) (k : Nat) (bs : List Bool) : Prop := bs.length = k ∧ W.ownsRow base 4 1 v k (bs.map Value.bool)
theorem OwnB.more {W W' : World} {base base' k : Nat} {v v' : Value} {bs : List Bool} {b : Bool} (h : OwnB W base v k bs) (h' : W'.ownsRow base' 4 1 v' (k + 1) (bs.map Value.bool ++ [.bool b])) : OwnB W' base' v' (k + 1) (bs ++ [b]) := by
  refine ⟨by rw [List.length_append, h.1]; rfl, ?_⟩
  rw [List.map_append]
  exact h'
theorem OwnB.rd {W : World} {base k : Nat} {v : Value} {bs : List Bool} (h : OwnB W base v k bs) (hk : k ≤ 1000) : RdB W v bs := by
  obtain ⟨rfl, h⟩ := h
  exact RdC.of_own h hk
theorem rdb_one (W : World) (b : Bool) : RdC (W.alloc (.cells #[.bool b] 4)) 1 (.slice (some ⟨W.heap.size, 0, none⟩) 1 1) 1 [.bool b] := by
  refine ⟨rfl, by simp, some ⟨W.heap.size, 0, none⟩, 1, rfl, .inr ⟨W.heap.size, 0, rfl, by simp, ?_⟩⟩
  intro j u hj
  match j, hj with
  | 0, hj => cases hj; simp

set_option maxRecDepth 100000 in
set_option maxHeartbeats 4000000 in
theorem fenceR_any (va vb vc : Value) (m : Mm) (w : World) (hR : RdM w va vb vc m) : Calls Try.prog 30 #[.agg #[va, vb, vc]] w fun e w' => ∃ va' vb' vc', e = .returned (.tuple #[.agg #[va', vb', vc'], .int .i64 (okE m)]) ∧ RdM w' va' vb' vc' (fenM m) ∧ Below w.heap.size w w' := by
  obtain ⟨l1, l2, l3⟩ := hR.lens
  obtain ⟨a1, c1, a2, c2, a3, c3, rfl, rfl, rfl⟩ := hR.forms
  have HB : Hid (Below w.heap.size w ((w.alloc (.cells #[.slice a1 m.vol.length c1, .slice a2 m.per.length c2, .slice a3 m.pend.length c3] 25)).alloc (.cells #[.slice none 0 0, .slice none 0 0, .slice none 0 0] 25))) := ((Below.refl _ _).alloc (Nat.le_refl _) _).alloc (by simp) _
  have X0 : Hid (Bo ((w.alloc (.cells #[.slice a1 m.vol.length c1, .slice a2 m.per.length c2, .slice a3 m.pend.length c3] 25)).alloc (.cells #[.slice none 0 0, .slice none 0 0, .slice none 0 0] 25)) w.heap.size (.slice a1 m.vol.length c1) (.slice a2 m.per.length c2) (.slice a3 m.pend.length c3)) := (Bo.new w _ _ _).below ((Below.refl _ _).alloc (Nat.le_refl _) _)
  have Y0 : Hid (Bo ((w.alloc (.cells #[.slice a1 m.vol.length c1, .slice a2 m.per.length c2, .slice a3 m.pend.length c3] 25)).alloc (.cells #[.slice none 0 0, .slice none 0 0, .slice none 0 0] 25)) (w.heap.size + 1) (.slice none 0 0) (.slice none 0 0) (.slice none 0 0)) := by (have := Bo.new (w.alloc (.cells #[.slice a1 m.vol.length c1, .slice a2 m.per.length c2, .slice a3 m.pend.length c3] 25)) (.slice none 0 0) (.slice none 0 0) (.slice none 0 0); rwa [World.size_alloc] at this)
  have HR : Hid (RdM w (.slice a1 m.vol.length c1) (.slice a2 m.per.length c2) (.slice a3 m.pend.length c3) m) := hR
  clear hR
  cases e1 : ok m
  · have HE : Hid (okE m = 40) := by (show okE m = _; unfold okE; rw [e1]; rfl)
    have HM : Hid (fenM m = m) := by (show fenM m = _; unfold fenM; rw [e1]; rfl)
    go_enter Try.func30, Try.ntmps30
    go_wp2_with (first | (go_at_call 26; refine (checkR_any _ _ _ m _ (HR.out.below HB.out)).mono ?_; rintro e w1 ⟨rfl, hb1⟩; have HB1 : Hid (Below w.heap.size w w1) := bstep HB.out hb1; have HX1 : Hid (Bo w1 w.heap.size (.slice a1 m.vol.length c1) (.slice a2 m.per.length c2) (.slice a3 m.pend.length c3)) := X0.out.below hb1; have HY1 : Hid (Bo w1 (w.heap.size + 1) (.slice none 0 0) (.slice none 0 0) (.slice none 0 0)) := Y0.out.below hb1; obtain ⟨⟨x0, x1, x2⟩, -⟩ := HX1.out.bx; obtain ⟨⟨y0, y1, y2⟩, yf0, yf1, yf2⟩ := HY1.out.bx; clear hb1))
    obtain ⟨f1, f2, f3⟩ := finishR (m := m) (HR.out.below HB1.out) HY1.out HB1.out (Nat.le_succ _)
    exact bodyPost_ret (ret_cell2 (p := 2) (u := 3) Try.results30 rfl f1) rfl ⟨_, _, _, by rw [HE.out]; rfl, by rw [HM.out]; exact f2, f3⟩
  · have HE : Hid (okE m = 0) := by (show okE m = _; unfold okE; rw [e1]; rfl)
    have HM : Hid (fenM m = kM m (m.pend.zip (m.pend.map (·.f)))) := by (show fenM m = _; unfold fenM; rw [e1]; rfl)
    have HI : Hid (InPl m.per.length m.pend) := ok_in e1
    go_enter Try.func30, Try.ntmps30
    go_wp2_with (first | (go_at_call 26; refine (checkR_any _ _ _ m _ (HR.out.below HB.out)).mono ?_; rintro e w1 ⟨rfl, hb1⟩; have HB1 : Hid (Below w.heap.size w w1) := bstep HB.out hb1; have HX1 : Hid (Bo w1 w.heap.size (.slice a1 m.vol.length c1) (.slice a2 m.per.length c2) (.slice a3 m.pend.length c3)) := X0.out.below hb1; have HY1 : Hid (Bo w1 (w.heap.size + 1) (.slice none 0 0) (.slice none 0 0) (.slice none 0 0)) := Y0.out.below hb1; obtain ⟨⟨x0, x1, x2⟩, -⟩ := HX1.out.bx; obtain ⟨⟨y0, y1, y2⟩, yf0, yf1, yf2⟩ := HY1.out.bx; clear hb1))
    clear x0 x1 x2 y0 y1 y2 yf0 yf1 yf2
    go_loopw [5, 6] (fun sa sb W => ∃ k : Nat, k ≤ m.pend.length ∧ sb = .int .i64 k ∧ OwnB W w1.heap.size sa k ((m.pend.map (·.f)).take k) ∧ Below w1.heap.size w1 W) (fun _ sb _ => m.pend.length - (intOf sb).toNat)
    case atStart => exact ⟨0, Nat.zero_le _, rfl, ⟨rfl, World.ownsRow_nil _ _ _ _⟩, Below.refl _ _⟩
    case round =>
      obtain ⟨k, hk, rfl, hO, hbr⟩ := hrel
      have HXr : Hid (Bo wr w.heap.size (.slice a1 m.vol.length c1) (.slice a2 m.per.length c2) (.slice a3 m.pend.length c3)) := HX1.out.below hbr
      have HYr : Hid (Bo wr (w.heap.size + 1) (.slice none 0 0) (.slice none 0 0) (.slice none 0 0)) := HY1.out.below hbr
      have HBr : Hid (Below w.heap.size w wr) := bstep HB1.out hbr
      obtain ⟨⟨x0, x1, x2⟩, -⟩ := HXr.out.bx
      by_cases hlt : k < m.pend.length
      · have hltI : (k : Int) < (m.pend.length : Int) := by omega
        obtain ⟨p, hp⟩ : ∃ p, m.pend[k]? = some p := ⟨_, List.getElem?_eq_getElem hlt⟩
        obtain ⟨blk, off, rfl, z0, z1, z2⟩ := (HR.out.below HBr.out).pend.get hp
        obtain ⟨pa, pv, tb⟩ := p
        dsimp only at z0 z1 z2
        have htb : (⟨pa, pv, tb⟩ : Pd).f = tb := rfl
        have HT : Hid ((m.pend.map (·.f)).take (k + 1) = (m.pend.map (·.f)).take k ++ [tb]) := take_next (by rw [List.getElem?_map, hp]; exact congrArg some htb)
        have hsz := hbr.size
        have hsa : w1.heap.size ≤ (wr.alloc (.cells #[.bool tb] 4)).heap.size := by simp; omega
        have hk5 : k ≤ 100000 := by omega
        have HL1 : Hid (RdC (wr.alloc (.cells #[.bool tb] 4)) 1 (.slice (some ⟨wr.heap.size, 0, none⟩) 1 1) 1 [.bool tb]) := rdb_one wr tb
        have HOO : Hid (OwnB wr w1.heap.size u5 k ((m.pend.map (·.f)).take k)) := hO
        clear hO hp
        clear htb
        go_wp2_with (first
          | (at_builtin; refine append_rdc rfl _ _ 70 rfl w1.heap.size 4 1 _ 1 Try.underlying70 Try.info4 rfl (by decide) (by decide) _ k _ rfl (World.ownsRow.alloc HOO.out.2 _) _ 1 _ rfl HL1.out (by intro u hu; simp at hu; rw [hu]; rfl) hk5 hsa ?_; intro v2 W2 o2 g2; have HO3 : Hid (OwnB W2 w1.heap.size v2 (k + 1) ((m.pend.map (·.f)).take k ++ [tb])) := HOO.out.more o2; have HB3 : Hid (Below w1.heap.size w1 W2) := (hbr.alloc hsz _).grown g2 hsa (fun q hq => (World.ownsRow.lt HOO.out.2 q hq).1); clear o2 g2))
        exact ⟨⟨k + 1, by omega, by go_num, by rw [HT.out]; exact HO3.out, HB3.out⟩, by simp [intOf]; omega⟩
      · obtain rfl : k = m.pend.length := by omega
        rw [List.take_of_length_le (by simp)] at hO
        have HA : Hid (RdB wr u5 (m.pend.map (·.f))) := hO.rd l3
        clear hO hbr
        go_wp2_with (first
          | (go_at_call 41; refine (keepR_any _ _ _ _ m (m.pend.map (·.f)) _ (HR.out.below HBr.out) HA.out (by simp) HI.out).mono ?_; rintro e w9 ⟨v1, v2, v3, rfl, R9, hb9⟩; obtain ⟨b1, d1, b2, d2, b3, d3, rfl, rfl, rfl⟩ := R9.forms; have HY9 : Hid (Bo w9 (w.heap.size + 1) (.slice none 0 0) (.slice none 0 0) (.slice none 0 0)) := HYr.out.below hb9; have HB9 : Hid (Below w.heap.size w w9) := bstep HBr.out hb9; obtain ⟨⟨y0, y1, y2⟩, yf0, yf1, yf2⟩ := HY9.out.bx; clear hb9))
        obtain ⟨f1, f2, f3⟩ := finishR R9 HY9.out HB9.out (Nat.le_succ _)
        exact bodyPost_ret (ret_cell2 (p := 2) (u := 3) Try.results30 rfl f1) rfl ⟨_, _, _, by rw [HE.out]; rfl, by rw [HM.out]; exact f2, f3⟩



end Go.Proofs.Ythibgmndgkhfiaa
