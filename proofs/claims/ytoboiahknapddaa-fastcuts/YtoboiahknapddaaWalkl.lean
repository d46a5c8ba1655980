/- Walks of layer 4: Crash. -/
import Derived.Test.YtoboiahknapddaaWalkk
namespace Go.Proofs.Ytoboiahknapddaa
open Go.RowKit Go.Shelf
set_option linter.unusedVariables false

theorem below_grownN {a b : World} (h : a.grownBy b none) : Below a.heap.size a b := ⟨h.os, h.tape, h.output, h.size, fun k hk => h.block k hk (by simp)⟩
theorem own_zero {W : World} {base g n : Nat} (h : W.ownsRow base 3 1 (.slice (some ⟨g, 0, none⟩) n n) n (madeCells (Value.int .i64 0).cells (n * 1)).toList) : OwnI W base (.slice (some ⟨g, 0, none⟩) n n) (List.replicate n 0) := by
  unfold OwnI
  rw [List.length_replicate, List.map_replicate]
  have e : (madeCells (Value.int .i64 0).cells (n * 1)).toList = List.replicate n (Value.int .i64 0) := by rw [Nat.mul_one]; exact toList_madeCells_one _ _
  rw [e] at h
  exact h
theorem own_zero_lt {W : World} {base g n : Nat} {zs : List Int} (h : OwnI W base (.slice (some ⟨g, 0, none⟩) n n) zs) : g < W.heap.size := (World.ownsRow.lt h g rfl).2
theorem cell_new1 (W : World) (x : Value) (t : TypeId) : (W.alloc (.cells #[x] t)).cell? ⟨W.heap.size, 0, none⟩ = some x := by simp
theorem field1 (a1 a2 a3 : Option Addr) (n1 n2 n3 c1 c2 c3 : Nat) (w : World) : (Instr.field 41 (.agg #[.slice a1 n1 c1, .slice a2 n2 c2, .slice a3 n3 c3]) 1).run Try.prog w = .ok (.slice a2 n2 c2) w := by kernel_rfl
theorem tells_crash' (m : Mm) (L : List Int) (n lb r c B N : Nat) (hn : n = L.length) (hI : InPl m.per.length m.pend) (hl : m.per.length ≤ 1000) (h8 : m.per.length % 8 = 0) (hL : n = m.per.length / 8) (hBd : Bd L) (hBr : B ≤ r) (hrN : r < N) (hlN : lb < N) (hlr : lb ≠ r) :
    Tells m (crB L m.pend) 53 #[.pointer (some ⟨lb, 0, none⟩)] B N (fun k W => W.cell? ⟨lb, 0, none⟩ = some (.slice (some ⟨r, 0, none⟩) n c) ∧ OwnI W B (.slice (some ⟨r, 0, none⟩) n c) (crL L (m.pend.take k))) := by
  subst hn
  exact tells_crash m L lb r c B N hI hl h8 hL hBd hBr hrN hlN hlr

set_option maxRecDepth 100000 in
set_option maxHeartbeats 4000000 in
theorem crash_any (va vb vc vk : Value) (m : Mm) (keep : List Int) (w : World) (hR : RdM w va vb vc m) (hK : Rd w vk keep) (hBd : Bd keep) : Calls Try.prog 44 #[.agg #[va, vb, vc], vk] w fun e w' => ∃ v, e = .returned (.tuple #[v, .int .i64 (okE m)]) ∧ Rd w' v (crP m keep) ∧ Below w.heap.size w w' := by
  obtain ⟨i0, hi, hz0, hz1, hz2⟩ := info_parts Try.info3
  obtain ⟨l1, l2, l3⟩ := hR.lens
  obtain ⟨lk, ak, ck, rfl⟩ := hK.form
  obtain ⟨a1, c1, a2, c2, a3, c3, rfl, rfl, rfl⟩ := hR.forms
  have HB : Hid (Below w.heap.size w (w.alloc (.cells #[.slice a1 m.vol.length c1, .slice a2 m.per.length c2, .slice a3 m.pend.length c3] 41))) := (Below.refl _ _).alloc (Nat.le_refl _) _
  have X0 : Hid (Bx (w.alloc (.cells #[.slice a1 m.vol.length c1, .slice a2 m.per.length c2, .slice a3 m.pend.length c3] 41)) w.heap.size (.slice a1 m.vol.length c1) (.slice a2 m.per.length c2) (.slice a3 m.pend.length c3)) := bx_new w _ _ _ 41
  have Hs : Hid (w.heap.size + 1 = (w.alloc (.cells #[.slice a1 m.vol.length c1, .slice a2 m.per.length c2, .slice a3 m.pend.length c3] 41)).heap.size) := by (show _ = _; simp)
  have HR : Hid (RdM w (.slice a1 m.vol.length c1) (.slice a2 m.per.length c2) (.slice a3 m.pend.length c3) m) := hR
  clear hR
  cases e1 : ok m
  · have HE : Hid (okE m = 40) := by (show okE m = _; unfold okE; rw [e1]; rfl)
    have HM : Hid (crP m keep = []) := by (show crP m keep = _; unfold crP; rw [e1]; rfl)
    go_enter Try.func44, Try.ntmps44
    go_wp2_with (first
      | (go_at_call 50; refine (check_any _ _ _ m _ (HR.out.below HB.out)).mono ?_; rintro e w1 ⟨rfl, hb1⟩; have HB1 : Hid (Below w.heap.size w w1) := bstep HB.out hb1; have HX1 : Hid (Bx w1 w.heap.size (.slice a1 m.vol.length c1) (.slice a2 m.per.length c2) (.slice a3 m.pend.length c3)) := X0.out.below hb1; obtain ⟨⟨x0, x1, x2⟩, _⟩ := HX1.out; have Hs1 : Hid (w.heap.size + 1 ≤ w1.heap.size) := (by have := hb1.size; have := Hs.out; show _ ≤ _; omega); have hs1 := Hs1.out))
    go_ret2
    exact ⟨_, by rw [HE.out]; rfl, by rw [HM.out]; exact Rd.bare _, HB1.out⟩
  · have HE : Hid (okE m = 0) := by (show okE m = _; unfold okE; rw [e1]; rfl)
    have HM : Hid (crP m keep = (crM m keep).per) := by (show crP m keep = _; unfold crP; rw [e1]; rfl)
    obtain ⟨n8, hn8'⟩ : ∃ n8, m.vol.length / 8 = n8 := ⟨_, rfl⟩
    have hn8 : (m.vol.length : Int) / 8 = (n8 : Int) := by omega
    have H8 : Hid (m.per.length % 8 = 0 ∧ n8 = m.per.length / 8) := ⟨by rw [(ok_out e1).1]; exact (ok_out e1).2.2.1, by rw [(ok_out e1).1]; omega⟩
    have HN : Hid (crM m keep = kM m (m.pend.zip (crB (leftL keep n8) m.pend))) := by (show crM m keep = _; unfold crM; rw [hn8'])
    have hn81 : n8 ≤ 1000 := by omega
    clear hn8'
    have hF := field1
    go_enter Try.func44, Try.ntmps44
    go_wp2_with (first
      | (go_at_call 50; refine (check_any _ _ _ m _ (HR.out.below HB.out)).mono ?_; rintro e w1 ⟨rfl, hb1⟩; have HB1 : Hid (Below w.heap.size w w1) := bstep HB.out hb1; have HX1 : Hid (Bx w1 w.heap.size (.slice a1 m.vol.length c1) (.slice a2 m.per.length c2) (.slice a3 m.pend.length c3)) := X0.out.below hb1; obtain ⟨⟨x0, x1, x2⟩, _⟩ := HX1.out; have Hs1 : Hid (w.heap.size + 1 ≤ w1.heap.size) := (by have := hb1.size; have := Hs.out; show _ ≤ _; omega); have hs1 := Hs1.out)
      | (at_make; refine wpList_make_full _ rfl _ _ 22 rfl w.heap.size 3 i0 (.int .i64 0) 1 Try.underlying22 hi hz0 hz1 .i64 .i64 _ _ n8 rfl rfl rfl rfl (by rw [hz2]; omega) (by unfold maxLen; omega) (Nat.le_of_succ_le hs1) ?_; intro w2 o2 g2; have hb2 : Below w1.heap.size w1 w2 := below_grownN g2; have HO2 : Hid (OwnI w2 w.heap.size (.slice (some ⟨w1.heap.size, 0, none⟩) n8 n8) (List.replicate n8 0)) := own_zero o2; have HL2 : Hid (w1.heap.size < w2.heap.size) := own_zero_lt HO2.out; have hb3 : Below w2.heap.size w2 (w2.alloc (.cells #[.slice (some ⟨w1.heap.size, 0, none⟩) n8 n8] 22)) := (Below.refl _ _).alloc (Nat.le_refl _) _; have HB3 : Hid (Below w.heap.size w (w2.alloc (.cells #[.slice (some ⟨w1.heap.size, 0, none⟩) n8 n8] 22))) := bstep (bstep HB1.out hb2) hb3; have HX3 : Hid (Bx (w2.alloc (.cells #[.slice (some ⟨w1.heap.size, 0, none⟩) n8 n8] 22)) w.heap.size (.slice a1 m.vol.length c1) (.slice a2 m.per.length c2) (.slice a3 m.pend.length c3)) := (HX1.out.below hb2).below hb3; have HO3 : Hid (OwnI (w2.alloc (.cells #[.slice (some ⟨w1.heap.size, 0, none⟩) n8 n8] 22)) w.heap.size (.slice (some ⟨w1.heap.size, 0, none⟩) n8 n8) (List.replicate n8 0)) := HO2.out.below hb3; have HC3 : Hid ((w2.alloc (.cells #[.slice (some ⟨w1.heap.size, 0, none⟩) n8 n8] 22)).cell? ⟨w2.heap.size, 0, none⟩ = some (.slice (some ⟨w1.heap.size, 0, none⟩) n8 n8)) := cell_new1 w2 _ 22; have HS3 : Hid ((w2.alloc (.cells #[.slice (some ⟨w1.heap.size, 0, none⟩) n8 n8] 22)).heap.size = w2.heap.size + 1) := (by show _ = _; simp); clear o2 g2 hb2 hb3)
      | (refine copy_left rfl (.tmp 15) (.tmp 16) rfl w.heap.size w1.heap.size n8 _ keep HO3.out (hK.below HB3.out) rfl rfl ?_; intro kk w4 o4 hb4 hh4; have HO4 : Hid (OwnI w4 w.heap.size (.slice (some ⟨w1.heap.size, 0, none⟩) n8 n8) (leftL keep n8)) := o4; have HB4 : Hid (Below w.heap.size w w4) := HB3.out.trans hb4; have HC4 : Hid (w4.cell? ⟨w2.heap.size, 0, none⟩ = some (.slice (some ⟨w1.heap.size, 0, none⟩) n8 n8)) := (World.cell?_of_block (hh4 _ (by have := HL2.out; show w2.heap.size ≠ _; omega))).trans HC3.out; obtain ⟨⟨q0, q1, q2⟩, _⟩ := HX3.out.kept (hh4 _ (by omega)); have HS4 : Hid (w2.heap.size < w4.heap.size) := (by have := hb4.size; have := HS3.out; show _ < _; omega); clear o4 hb4 hh4)
      | (go_at_call 52; refine (withKept_any _ _ _ m (crB (leftL keep n8) m.pend) 53 #[.pointer (some ⟨w2.heap.size, 0, none⟩)] w.heap.size (fun k W => W.cell? ⟨w2.heap.size, 0, none⟩ = some (.slice (some ⟨w1.heap.size, 0, none⟩) n8 n8) ∧ OwnI W w.heap.size (.slice (some ⟨w1.heap.size, 0, none⟩) n8 n8) (crL (leftL keep n8) (m.pend.take k))) w4 (HR.out.below HB4.out) (fun W' h => HR.out.below (HB4.out.trans h)) HB4.out.size (ok_in e1) (tells_crash' m (leftL keep n8) n8 w2.heap.size w1.heap.size n8 w.heap.size w4.heap.size (leftL_length _ _).symm (ok_in e1) l2 H8.out.1 H8.out.2 (bd_left hBd _) (Nat.le_of_succ_le hs1) (Nat.lt_trans HL2.out HS4.out) HS4.out (Nat.ne_of_gt HL2.out)) ⟨HC4.out, HO4.out⟩).mono ?_; rintro e w5 ⟨v1, v2, v3, rfl, O5, hb5⟩; have R5 := O5.rd l1 (kM_l2 l2) (kM_l3 l3); obtain ⟨b1, d1, b2, d2, b3, d3, rfl, rfl, rfl⟩ := R5.forms; have HR5 : Hid (RdM w5 _ _ _ _) := R5; clear R5))
    go_ret2
    exact ⟨_, by rw [HE.out]; rfl, by rw [HM.out, HN.out]; exact HR5.out.per, HB4.out.trans hb5⟩
end Go.Proofs.Ytoboiahknapddaa

