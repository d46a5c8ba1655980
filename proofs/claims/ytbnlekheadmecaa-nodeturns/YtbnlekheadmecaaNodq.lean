/- Layer 9: what the steps of Turn and Next leave, and what a crash keeps of them; micro.Run. -/
import Derived.Test.YtbnlekheadmecaaCrashw
import Derived.Test.YtbnlekheadmecaaNodl
namespace Go.Proofs.Ytbnlekheadmecaa
open Go.RowKit Go.Shelf
set_option linter.unusedVariables false

set_option maxRecDepth 100000 in
set_option maxHeartbeats 4000000 in
theorem run_any (va vb vc v : Value) (m : Mm) (l : List Mi) (w : World) (hR : RdM w va vb vc m) (hS : RdS w v l) (hp : m.pend.length + l.length ≤ 900) : Calls Try.prog 22 #[.agg #[va, vb, vc], v] w fun e w' => ∃ va' vb' vc', e = .returned (.tuple #[.agg #[va', vb', vc'], .int .i64 (ruE m l)]) ∧ RdM w' va' vb' vc' (ruM m l) ∧ Below w.heap.size w w' := by
  obtain ⟨l1, l2, l3⟩ := hR.lens
  obtain ⟨a1, c1, a2, c2, a3, c3, rfl, rfl, rfl⟩ := hR.forms
  obtain ⟨ll, a, cap, rfl⟩ := hS.form
  have HS : Hid (RdS w (.slice a l.length cap) l) := hS
  have HR : Hid (RdM w (.slice a1 m.vol.length c1) (.slice a2 m.per.length c2) (.slice a3 m.pend.length c3) m) := hR
  have HB : Hid (Below w.heap.size w ((w.alloc (.cells #[.slice a1 m.vol.length c1, .slice a2 m.per.length c2, .slice a3 m.pend.length c3] 43)).alloc (.cells #[.slice none 0 0, .slice none 0 0, .slice none 0 0] 43))) := ((Below.refl _ _).alloc (Nat.le_refl _) _).alloc (by simp) _
  have HX : Hid (Bo ((w.alloc (.cells #[.slice a1 m.vol.length c1, .slice a2 m.per.length c2, .slice a3 m.pend.length c3] 43)).alloc (.cells #[.slice none 0 0, .slice none 0 0, .slice none 0 0] 43)) w.heap.size (.slice a1 m.vol.length c1) (.slice a2 m.per.length c2) (.slice a3 m.pend.length c3)) := (Bo.new w _ _ _).below ((Below.refl _ _).alloc (Nat.le_refl _) _)
  have HY : Hid (Bo ((w.alloc (.cells #[.slice a1 m.vol.length c1, .slice a2 m.per.length c2, .slice a3 m.pend.length c3] 43)).alloc (.cells #[.slice none 0 0, .slice none 0 0, .slice none 0 0] 43)) (w.heap.size + 1) (.slice none 0 0) (.slice none 0 0) (.slice none 0 0)) := by (have := Bo.new (w.alloc (.cells #[.slice a1 m.vol.length c1, .slice a2 m.per.length c2, .slice a3 m.pend.length c3] 43)) (.slice none 0 0) (.slice none 0 0) (.slice none 0 0); rwa [World.size_alloc] at this)
  clear hR hS
  cases e1 : mrB m l
  · have HE : Hid (ruE m l = 40) := ruE_no e1
    have HM : Hid (ruM m l = m) := ruM_no e1
    go_enter Try.func22, Try.ntmps22
    go_wp2_with (first
      | (go_at_call 34; refine (mayRun_any _ _ _ _ m l _ (HR.out.below HB.out) (HS.out.below HB.out)).mono ?_; rintro e w1 ⟨rfl, hb1⟩; rw [e1]; have HB1 : Hid (Below w.heap.size w w1) := bstep HB.out hb1; have HY1 : Hid (Bo w1 (w.heap.size + 1) (.slice none 0 0) (.slice none 0 0) (.slice none 0 0)) := HY.out.below hb1; obtain ⟨⟨x0, x1, x2⟩, -⟩ := (HX.out.below hb1).bx; clear hb1)
      | (go_at_call 35; refine (cloneS_any _ _ _ m _ (HR.out.below HB1.out)).mono ?_; rintro e w2 ⟨v1, v2, v3, rfl, O2, hb2⟩; have R2 := O2.rd l1 l2 l3; obtain ⟨g1, gd1, g2, gd2, g3, gd3, rfl, rfl, rfl⟩ := R2.forms; have HR2 : Hid (RdM w2 (.slice g1 m.vol.length gd1) (.slice g2 m.per.length gd2) (.slice g3 m.pend.length gd3) m) := R2; have HB2 : Hid (Below w.heap.size w w2) := bstep HB1.out hb2; have HY2 : Hid (Bo w2 (w.heap.size + 1) (.slice none 0 0) (.slice none 0 0) (.slice none 0 0)) := HY1.out.below hb2; obtain ⟨⟨y0, y1, y2⟩, yf0, yf1, yf2⟩ := HY2.out.bx; clear O2 R2 hb2))
    obtain ⟨f1, f2, f3⟩ := finishR HR2.out HY2.out HB2.out (Nat.le_succ _)
    exact bodyPost_ret (ret_cell2 (p := 4) (u := 5) Try.results22 rfl f1) rfl ⟨_, _, _, by rw [HE.out]; rfl, by rw [HM.out]; exact f2, f3⟩
  · have HE : Hid (ruE m l = 0) := ruE_yes e1
    have HM : Hid (ruM m l = runM m (l.take (tkN (l.length : Int) l.length))) := by (show _ = _; rw [ruM_yes e1]; have e : tkN (l.length : Int) l.length = l.length := (by unfold tkN; omega); rw [e, List.take_length])
    have HK : Hid (∀ x ∈ l, x.k = 1 ∨ x.k = 2) := mrB_kinds e1
    go_enter Try.func22, Try.ntmps22
    go_wp2_with (first
      | (go_at_call 34; refine (mayRun_any _ _ _ _ m l _ (HR.out.below HB.out) (HS.out.below HB.out)).mono ?_; rintro e w1 ⟨rfl, hb1⟩; rw [e1]; have HB1 : Hid (Below w.heap.size w w1) := bstep HB.out hb1; have HY1 : Hid (Bo w1 (w.heap.size + 1) (.slice none 0 0) (.slice none 0 0) (.slice none 0 0)) := HY.out.below hb1; obtain ⟨⟨x0, x1, x2⟩, -⟩ := (HX.out.below hb1).bx; clear hb1)
      | (go_at_call 36; refine (behind_any _ _ _ _ m l (l.length : Int) _ (HR.out.below HB1.out) (HS.out.below HB1.out) HK.out hp).mono ?_; rintro e w2 ⟨v1, v2, v3, rfl, R2, hb2⟩; rw [← HM.out] at R2; obtain ⟨g1, gd1, g2, gd2, g3, gd3, rfl, rfl, rfl⟩ := R2.forms; have HR2 : Hid (RdM w2 (.slice g1 (ruM m l).vol.length gd1) (.slice g2 (ruM m l).per.length gd2) (.slice g3 (ruM m l).pend.length gd3) (ruM m l)) := R2; have HB2 : Hid (Below w.heap.size w w2) := bstep HB1.out hb2; have HY2 : Hid (Bo w2 (w.heap.size + 1) (.slice none 0 0) (.slice none 0 0) (.slice none 0 0)) := HY1.out.below hb2; obtain ⟨⟨y0, y1, y2⟩, yf0, yf1, yf2⟩ := HY2.out.bx; clear R2 hb2))
    obtain ⟨f1, f2, f3⟩ := finishR HR2.out HY2.out HB2.out (Nat.le_succ _)
    exact bodyPost_ret (ret_cell2 (p := 4) (u := 5) Try.results22 rfl f1) rfl ⟨_, _, _, by rw [HE.out]; rfl, f2, f3⟩
/-- A block of noughts, and a node. -/
def mmL (n : Nd) : List Int := List.replicate 16 0 ++ imN n
theorem mmL_length {n : Nd} (h : n.sl.length ≤ 13) : (mmL n).length = 32 := by
  unfold mmL
  rw [List.length_append, imN_length h, List.length_replicate]
theorem mm_head (n : Nd) (t : Int) : (mmL n).set 16 (hdI t n.lv) = mmL ⟨n.lv, t, n.nx, n.lo, n.sl⟩ := rfl
theorem mm_next (n : Nd) (x : Int) : (mmL n).set 17 x = mmL ⟨n.lv, n.tu, x, n.lo, n.sl⟩ := rfl
/-- The Turn that is there behind a turn. -/
def xtI (n : Nd) (d : Bool) : Int := if tnB 1 n d then tnI n.tu else n.tu
theorem turn_kept {n : Nd} (d : Bool) (h : May n) : mrB (allM (mmL n)) (tnL 1 n d) = true ∧ (runM (allM (mmL n)) (tnL 1 n d)).vol = mmL ⟨n.lv, xtI n d, n.nx, n.lo, n.sl⟩ := by
  have hl := mmL_length h.len
  have hO := ok_allM (W := mmL n) (by omega) (by omega)
  have hw : woB ((allM (mmL n)).vol.length : Int) = true := decide_eq_true ⟨by omega, by show ((mmL n).length : Int) ≤ 4096; omega, by show ((mmL n).length : Int) % 8 = 0; omega⟩
  cases ht : tnB 1 n d with
  | false =>
    rw [tn_no ht]
    refine ⟨?_, ?_⟩
    · unfold mrB
      rw [ok_true hO, chB_wo hw]
      rfl
    · unfold xtI
      rw [ht]
      rfl
  | true =>
    rw [tn_yes ht]
    have hB : putB (allM (mmL n)) 16 = true := putB_yes (ok_true hO) (by omega) (by show (16 : Int) < ((mmL n).length : Int); omega)
    refine ⟨?_, ?_⟩
    · unfold mrB
      rw [ok_true hO, chB_wo hw, List.all_cons, miB_one rfl]
      have a1 : stB ((allM (mmL n)).vol.length : Int) ⟨1, 16 * 1, hdI (tnI n.tu) n.lv⟩ = true := decide_eq_true ⟨by show (0 : Int) ≤ 16 * 1; omega, by show (16 * 1 : Int) < ((mmL n).length : Int); omega⟩
      rw [a1]
      rfl
    · have e1 : doM (allM (mmL n)) ⟨1, 16 * 1, hdI (tnI n.tu) n.lv⟩ = ⟨(mmL n).set 16 (hdI (tnI n.tu) n.lv), mmL n, [⟨16, hdI (tnI n.tu) n.lv, false⟩]⟩ := (doM_one rfl).trans (putM_yes hB)
      show (doM (allM (mmL n)) ⟨1, 16 * 1, hdI (tnI n.tu) n.lv⟩).vol = _
      rw [e1]
      show (mmL n).set 16 (hdI (tnI n.tu) n.lv) = _
      rw [mm_head]
      unfold xtI
      rw [ht]
      rfl
/-- What a crash keeps of another next one. -/
theorem next_kept (W : List Int) (b : Int) (keep : List Int) (h1 : 32 ≤ W.length) (h2 : W.length ≤ 4096) (h8 : W.length % 8 = 0) :
    mrB (allM W) [⟨1, 17, b⟩, ⟨2, 2, 0⟩] = true ∧ csP (allM W) [⟨1, 17, b⟩, ⟨2, 2, 0⟩] 0 keep = W ∧ (csP (allM W) [⟨1, 17, b⟩, ⟨2, 2, 0⟩] 1 keep = W ∨ csP (allM W) [⟨1, 17, b⟩, ⟨2, 2, 0⟩] 1 keep = W.set 17 b) ∧ csP (allM W) [⟨1, 17, b⟩, ⟨2, 2, 0⟩] 2 keep = W.set 17 b := by
  have hO := ok_allM h2 h8
  have hB : putB (allM W) 17 = true := putB_yes (ok_true hO) (by omega) (by show (17 : Int) < (W.length : Int); omega)
  have e1 : doM (allM W) ⟨1, 17, b⟩ = ⟨W.set 17 b, W, [⟨17, b, false⟩]⟩ := (doM_one rfl).trans (putM_yes hB)
  have hO1 : Ok (doM (allM W) ⟨1, 17, b⟩) := ok_do hO _
  rw [e1] at hO1
  have hp1 : ∀ p ∈ [(⟨17, b, false⟩ : Pd)], p.a / 8 = 2 := by
    intro p hp
    rw [List.mem_singleton.1 hp]
    rfl
  have hL : lnB (⟨W.set 17 b, W, [⟨17, b, false⟩]⟩ : Mm) 2 = true := lnB_yes (ok_true hO1) (decide_eq_true ⟨by omega, by show (2 : Int) < ((W.set 17 b).length : Int) / 8; rw [List.length_set]; omega⟩)
  have e2 : doM (⟨W.set 17 b, W, [⟨17, b, false⟩]⟩ : Mm) ⟨2, 2, 0⟩ = ⟨W.set 17 b, W.set 17 b, []⟩ := (doM_two rfl).trans (pers_all hO1 hL hp1)
  have hO2 : Ok (⟨W.set 17 b, W.set 17 b, []⟩ : Mm) := by rw [← e2]; exact ok_do hO1 _
  have hm : mrB (allM W) [⟨1, 17, b⟩, ⟨2, 2, 0⟩] = true := by
    have hw : woB ((allM W).vol.length : Int) = true := decide_eq_true ⟨by omega, by show (W.length : Int) ≤ 4096; omega, by show (W.length : Int) % 8 = 0; omega⟩
    unfold mrB
    rw [ok_true hO, chB_wo hw, List.all_cons, List.all_cons, miB_one rfl, miB_two rfl]
    have a1 : stB ((allM W).vol.length : Int) ⟨1, 17, b⟩ = true := decide_eq_true ⟨by show (0 : Int) ≤ 17; omega, by show (17 : Int) < (W.length : Int); omega⟩
    have a2 : peB ((allM W).vol.length : Int) ⟨2, 2, 0⟩ = true := decide_eq_true ⟨by show (0 : Int) ≤ 2; omega, by show (2 : Int) < (W.length : Int) / 8; omega, rfl⟩
    rw [a1, a2]
    rfl
  refine ⟨hm, ?_, ?_, ?_⟩
  · rw [csP_yes hm]
    obtain ⟨x, hx⟩ := crash_pre hO (t := 0) (fun p hp => by cases hp) keep
    show crP (allM W) keep = W
    rw [hx]
    show putAll W (List.take x []) = W
    rw [List.take_nil]
    rfl
  · rw [csP_yes hm]
    obtain ⟨x, hx⟩ := crash_pre hO1 (t := 2) hp1 keep
    show crP (doM (allM W) ⟨1, 17, b⟩) keep = W ∨ crP (doM (allM W) ⟨1, 17, b⟩) keep = W.set 17 b
    rw [e1, hx]
    cases x with
    | zero => exact .inl rfl
    | succ x =>
      right
      show putAll W (⟨17, b, false⟩ :: List.take x []) = _
      rw [List.take_nil]
      rfl
  · rw [csP_yes hm]
    obtain ⟨x, hx⟩ := crash_pre hO2 (t := 0) (fun p hp => by cases hp) keep
    show crP (doM (doM (allM W) ⟨1, 17, b⟩) ⟨2, 2, 0⟩) keep = W.set 17 b
    rw [e1, e2, hx]
    show putAll (W.set 17 b) (List.take x []) = _
    rw [List.take_nil]
    rfl
/-- Whatever step a crash comes at, it keeps that node, with the old next one or the new one. -/
theorem next_either (n : Nd) (b : Int) (keep : List Int) (k : Int) (hm : May n) (hk : k = 0 ∨ k = 1 ∨ k = 2) : mrB (allM (mmL n)) [⟨1, 17, b⟩, ⟨2, 2, 0⟩] = true ∧ ∃ x, (x = n.nx ∨ x = b) ∧ csP (allM (mmL n)) [⟨1, 17, b⟩, ⟨2, 2, 0⟩] k keep = mmL ⟨n.lv, n.tu, x, n.lo, n.sl⟩ := by
  have hl := mmL_length hm.len
  obtain ⟨h1, h2, h3, h4⟩ := next_kept (mmL n) b keep (by omega) (by omega) (by omega)
  rw [mm_next] at h3 h4
  refine ⟨h1, ?_⟩
  rcases hk with rfl | rfl | rfl
  · exact ⟨n.nx, .inl rfl, h2⟩
  · rcases h3 with h3 | h3
    · exact ⟨n.nx, .inl rfl, h3⟩
    · exact ⟨b, .inr rfl, h3⟩
  · exact ⟨b, .inr rfl, h4⟩
end Go.Proofs.Ytbnlekheadmecaa
