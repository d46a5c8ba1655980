/- Layer 7: RecBack, walked. -/
import Derived.Test.YtmhojhpfkieioaaRecm
import Derived.Test.YtmhojhpfkieioaaReck
import Derived.Test.YtmhojhpfkieioaaStepg
namespace Go.Proofs.Ytmhojhpfkieioaa
open Go.RowKit Go.Shelf Classical
set_option linter.unusedVariables false

theorem RdM.formsL {W : World} {va vb vc : Value} {X : List Int} {n : Nat} (h : RdM W va vb vc (allM X)) (hn : X.length = n) : ∃ a1 c1 a2 c2 a3 c3, va = .slice a1 n c1 ∧ vb = .slice a2 n c2 ∧ vc = .slice a3 0 c3 := by
  subst hn
  exact h.forms
theorem new_all (va : Value) (l : List Int) (w : World) (hR : Rd w va l) (h : l.length ≤ 4096) (h8 : l.length % 8 = 0) : Calls Try.prog 19 #[va] w fun e w' => ∃ a1 c1 a2 c2 a3 c3, e = .returned (.tuple #[.agg #[.slice a1 l.length c1, .slice a2 l.length c2, .slice a3 0 c3], .int .i64 0]) ∧ RdM w' (.slice a1 l.length c1) (.slice a2 l.length c2) (.slice a3 0 c3) (allM l) ∧ Below w.heap.size w w' := by
  refine (new_any va l w hR).mono ?_
  rintro e w' ⟨v1, v2, v3, rfl, R, b⟩
  have hm : mayB l.length = true := decide_eq_true ⟨h, h8⟩
  have h1 : newM l = allM l := by unfold newM; rw [hm]; rfl
  have h2 : newE l = 0 := by unfold newE; rw [hm]; rfl
  rw [h1] at R
  rw [h2]
  obtain ⟨a1, c1, a2, c2, a3, c3, rfl, rfl, rfl⟩ := R.formsL rfl
  exact ⟨a1, c1, a2, c2, a3, c3, rfl, R, b⟩
theorem run_lay (va vb vc v : Value) (W L : List Int) (b : Nat) (w : World) (hM : RdM w va vb vc (allM W)) (hS : RdS w v (stoL b L ++ perL b)) (hW : W.length ≤ 300) (h8 : W.length % 8 = 0) (hb : 16 * b + 16 ≤ W.length) (hL : L.length = 16) :
    Calls Try.prog 20 #[.agg #[va, vb, vc], v] w fun e w' => ∃ a1 c1 a2 c2 a3 c3, e = .returned (.tuple #[.agg #[.slice a1 W.length c1, .slice a2 W.length c2, .slice a3 0 c3], .int .i64 0]) ∧ RdM w' (.slice a1 W.length c1) (.slice a2 W.length c2) (.slice a3 0 c3) (allM (layW W b L)) ∧ Below w.heap.size w w' := by
  have hl : (stoL b L ++ perL b).length = 18 := by rw [List.length_append, stoL_length, hL]; rfl
  refine (run_any va vb vc v (allM W) (stoL b L ++ perL b) w hM hS (by show 0 + _ ≤ _; omega)).mono ?_
  rintro e w' ⟨v1, v2, v3, rfl, R, bb⟩
  obtain ⟨h1, h2⟩ := lay_ru (W := W) (by omega) h8 hb hL
  rw [h1] at R
  rw [h2]
  obtain ⟨a1, c1, a2, c2, a3, c3, rfl, rfl, rfl⟩ := R.formsL (layW_length hb hL)
  exact ⟨a1, c1, a2, c2, a3, c3, rfl, R, bb⟩
theorem layW_fits {W L : List Int} (h : Fits W) (k : Fits L) (b : Nat) : Fits (layW W b L) := by
  intro z hz
  rcases List.mem_append.1 hz with h1 | h1
  · exact h z (List.mem_of_mem_take h1)
  · rcases List.mem_append.1 h1 with h2 | h2
    · exact k z h2
    · exact h z (List.mem_of_mem_drop h2)
theorem read_lay (va : Value) (W : List Int) (x : Rc) (b : Nat) (w : World) (hR : Rd w va (layW W b (imL x))) (hx : OkR x) (hF : Fits W) (hW : W.length ≤ 300) (hb : 16 * b + 16 ≤ W.length) : Calls Try.prog 11 #[va, .int .i64 b] w fun e w' => e = .returned (.tuple #[.agg #[.int .i64 x.k, .string x.key, .string x.val, .int .i64 x.ch], .int .i64 0]) ∧ Below w.heap.size w w' := by
  have := read_any va _ (b : Int) w hR (layW_fits hF (imL_fits hx) b) (by omega)
  obtain ⟨h1, h2⟩ := rd_im hx (n := b) (by rw [layW_length hb (imL_length hx)]; exact hb) (layW_blk hb (imL_length hx))
  rw [h1, h2] at this
  exact this
theorem steps_lay (b : Nat) (v : Value) (x : Rc) (w : World) (hR : Rd w v (wLs x)) (hx : OkR x) (hb : b < 256) : Calls Try.prog 13 #[.int .i64 b, v] w fun e w' => ∃ v', e = .returned (.tuple #[v', .int .i64 0]) ∧ RdS w' v' (stoL b (imL x) ++ perL b) ∧ Below w.heap.size w w' := by
  have := stepsr_any (b : Int) v (wLs x) w hR
  have hl : wLs x = imL x := wLs_ok' hx
  have h : stpB (b : Int) (wLs x).length = true := decide_eq_true ⟨by omega, by omega, by rw [hl, imL_length hx]⟩
  have h1 : stpE (b : Int) (wLs x) = 0 := by unfold stpE; rw [h]; rfl
  have h2 : stpS (b : Int) (wLs x) = stoL b (imL x) ++ perL b := by unfold stpS; rw [h, hl]; rfl
  rw [h1, h2] at this
  exact this
theorem steps_none (z : Int) (v : Value) (x : Rc) (w : World) (hR : Rd w v (wLs x)) (hx : rcB x = false) : Calls Try.prog 13 #[.int .i64 z, v] w fun e w' => ∃ v', e = .returned (.tuple #[v', .int .i64 1]) ∧ RdS w' v' [] ∧ Below w.heap.size w w' := by
  have := stepsr_any z v (wLs x) w hR
  have hl : wLs x = [] := by unfold wLs; rw [hx]; rfl
  have h : stpB z (wLs x).length = false := by rw [hl]; exact decide_eq_false (by simp)
  have h1 : stpE z (wLs x) = 1 := by unfold stpE; rw [h]; rfl
  have h2 : stpS z (wLs x) = [] := by unfold stpS; rw [h]; rfl
  rw [h1, h2] at this
  exact this
theorem Bo.c {W : World} {b : Nat} {v1 v2 v3 : Value} (h : Bo W b v1 v2 v3) : W.cell? ⟨b, 0, none⟩ = some v1 ∧ W.cell? ⟨b, 1, none⟩ = some v2 ∧ W.cell? ⟨b, 2, none⟩ = some v3 := by
  simp [World.cell?, show W.heap[b]? = _ from h]

set_option maxRecDepth 100000 in
set_option maxHeartbeats 4000000 in
theorem walk_RecBack (x : Rc) (a : Option Addr) (len cap : Nat) (b : Int) (w : World) (hK : KeepIn w a len cap) (fb : (Lit.int .u8 b).wf = true) :
    Calls Try.prog 4 #[.agg #[.int .i64 x.k, .string x.key, .string x.val, .int .i64 x.ch], .slice a len cap, .int .u8 b] w fun e w' => e = .returned (.bool true) ∧ Below w.heap.size w w' := by
  obtain ⟨n, rfl, hn9⟩ := wf_u8 fb
  have HX0 : Hid (RcAt (w.alloc (.cells #[.int .i64 x.k, .string x.key, .string x.val, .int .i64 x.ch] 23)) w.heap.size x) := rc_new w x
  have H0 : Hid (Below w.heap.size w (w.alloc (.cells #[.int .i64 x.k, .string x.key, .string x.val, .int .i64 x.ch] 23))) := (Below.refl _ _).alloc (Nat.le_refl _) _
  clear fb
  by_cases h1 : (x.key.size : Int) > 100
  · go_enter Try.func4, Try.ntmps4
    go_wp2_with (go_at_call 8; refine (awake_any _).mono ?_; rintro e w1 ⟨rfl, b1⟩; have H1 : Hid (Below (w.alloc (.cells #[.int .i64 x.k, .string x.key, .string x.val, .int .i64 x.ch] 23)).heap.size (w.alloc (.cells #[.int .i64 x.k, .string x.key, .string x.val, .int .i64 x.ch] 23)) w1) := b1; obtain ⟨c0, c1, c2, c3⟩ := (HX0.out.below b1).c; clear b1)
    go_ret
    exact ⟨rfl, bstep H0.out H1.out⟩
  · by_cases h2 : (x.val.size : Int) > 100
    · go_enter Try.func4, Try.ntmps4
      go_wp2_with (go_at_call 8; refine (awake_any _).mono ?_; rintro e w1 ⟨rfl, b1⟩; have H1 : Hid (Below (w.alloc (.cells #[.int .i64 x.k, .string x.key, .string x.val, .int .i64 x.ch] 23)).heap.size (w.alloc (.cells #[.int .i64 x.k, .string x.key, .string x.val, .int .i64 x.ch] 23)) w1) := b1; obtain ⟨c0, c1, c2, c3⟩ := (HX0.out.below b1).c; clear b1)
      go_ret
      exact ⟨rfl, bstep H0.out H1.out⟩
    · by_cases h3 : (len : Int) > 300
      · go_enter Try.func4, Try.ntmps4
        go_wp2_with (go_at_call 8; refine (awake_any _).mono ?_; rintro e w1 ⟨rfl, b1⟩; have H1 : Hid (Below (w.alloc (.cells #[.int .i64 x.k, .string x.key, .string x.val, .int .i64 x.ch] 23)).heap.size (w.alloc (.cells #[.int .i64 x.k, .string x.key, .string x.val, .int .i64 x.ch] 23)) w1) := b1; obtain ⟨c0, c1, c2, c3⟩ := (HX0.out.below b1).c; clear b1)
        go_ret
        exact ⟨rfl, bstep H0.out H1.out⟩
      · obtain ⟨zs, rfl, R0, F0⟩ := hK (by omega)
        have F0 : Fits zs := F0
        by_cases h4 : ((zs.length : Int) % 8 != 0) = true
        · go_enter Try.func4, Try.ntmps4
          go_wp2_with (go_at_call 8; refine (awake_any _).mono ?_; rintro e w1 ⟨rfl, b1⟩; have H1 : Hid (Below (w.alloc (.cells #[.int .i64 x.k, .string x.key, .string x.val, .int .i64 x.ch] 23)).heap.size (w.alloc (.cells #[.int .i64 x.k, .string x.key, .string x.val, .int .i64 x.ch] 23)) w1) := b1; obtain ⟨c0, c1, c2, c3⟩ := (HX0.out.below b1).c; clear b1)
          go_ret
          exact ⟨rfl, bstep H0.out H1.out⟩
        · have h4 : ((zs.length : Int) % 8 != 0) = false := by simpa using h4
          by_cases h5 : (n : Int) ≥ (zs.length : Int) / 16
          · go_enter Try.func4, Try.ntmps4
            go_wp2_with (go_at_call 8; refine (awake_any _).mono ?_; rintro e w1 ⟨rfl, b1⟩; have H1 : Hid (Below (w.alloc (.cells #[.int .i64 x.k, .string x.key, .string x.val, .int .i64 x.ch] 23)).heap.size (w.alloc (.cells #[.int .i64 x.k, .string x.key, .string x.val, .int .i64 x.ch] 23)) w1) := b1; obtain ⟨c0, c1, c2, c3⟩ := (HX0.out.below b1).c; clear b1)
            go_ret
            exact ⟨rfl, bstep H0.out H1.out⟩
          · have h8 : Hid (zs.length % 8 = 0) := show _ = _ by simp at h4; omega
            have hn : Hid (16 * n + 16 ≤ zs.length) := show _ ≤ _ by omega
            have hl : Hid (zs.length ≤ 300) := show _ ≤ _ by omega
            have HR0 : Hid (Rd w (.slice a zs.length cap) zs) := R0
            clear R0 hK
            rcases wEs_01 x with ⟨ex, fx⟩ | ⟨ex, fx⟩
            · have hok := rcB_iff.1 ex
              have l16 := imL_length hok
              have t1 : Hid (0 = 0) := rfl
              go_enter Try.func4, Try.ntmps4
              go_wp2_with (first
                | (go_at_call 8; refine (awake_any _).mono ?_; rintro e w1 ⟨rfl, b1⟩; have H1 : Hid (Below (w.alloc (.cells #[.int .i64 x.k, .string x.key, .string x.val, .int .i64 x.ch] 23)).heap.size (w.alloc (.cells #[.int .i64 x.k, .string x.key, .string x.val, .int .i64 x.ch] 23)) w1) := b1; obtain ⟨c0, c1, c2, c3⟩ := (HX0.out.below b1).c; clear b1)
                | (go_at_call 9; refine (wordsr_any x _).mono ?_; rintro e w2 ⟨v2, rfl, R2, b2⟩; rw [fx]; have HL2 : Hid (Rd w2 v2 (wLs x)) := R2; have H2 : Hid (Below w1.heap.size w1 w2) := b2; clear R2 b2 c0 c1 c2 c3)
                | (go_at_call 19; refine (new_all _ zs _ (HR0.out.below (bstep H0.out (bstep H1.out H2.out))) (by have := hl.out; omega) h8.out).mono ?_; rintro e w3 ⟨a1, c1, a2, c2, a3, c3, rfl, R3, b3⟩; have HM3 : Hid (RdM w3 (.slice a1 zs.length c1) (.slice a2 zs.length c2) (.slice a3 0 c3) (allM zs)) := R3; have H3 : Hid (Below w2.heap.size w2 w3) := b3; have HO4 : Hid (Bo (w3.alloc (.cells #[.slice a1 zs.length c1, .slice a2 zs.length c2, .slice a3 0 c3] 40)) w3.heap.size (.slice a1 zs.length c1) (.slice a2 zs.length c2) (.slice a3 0 c3)) := Bo.new _ _ _ _; have H4 : Hid (Below w3.heap.size w3 (w3.alloc (.cells #[.slice a1 zs.length c1, .slice a2 zs.length c2, .slice a3 0 c3] 40))) := (Below.refl _ _).alloc (Nat.le_refl _) _; clear R3 b3)
                | (go_at_call 13; refine (steps_lay n _ x _ (HL2.out.below (bstep H3.out H4.out)) hok hn9).mono ?_; rintro e w4 ⟨v4, rfl, R4, b4⟩; have HS4 : Hid (RdS w4 v4 (stoL n (imL x) ++ perL n)) := R4; have H5 : Hid (Below (w3.alloc (.cells #[.slice a1 zs.length c1, .slice a2 zs.length c2, .slice a3 0 c3] 40)).heap.size (w3.alloc (.cells #[.slice a1 zs.length c1, .slice a2 zs.length c2, .slice a3 0 c3] 40)) w4) := b4; obtain ⟨d0, d1, d2⟩ := (HO4.out.below b4).c; clear R4 b4)
                | (go_at_call 20; refine (run_lay _ _ _ _ zs (imL x) n _ (HM3.out.below (bstep H4.out H5.out)) HS4.out hl.out h8.out hn.out l16).mono ?_; rintro e w5 ⟨p1, q1, p2, q2, p3, q3, rfl, R5, b5⟩; have HM5 : Hid (RdM w5 (.slice p1 zs.length q1) (.slice p2 zs.length q2) (.slice p3 0 q3) (allM (layW zs n (imL x)))) := R5; have H6 : Hid (Below w4.heap.size w4 w5) := b5; have HO7 : Hid (Bo (w5.alloc (.cells #[.slice p1 zs.length q1, .slice p2 zs.length q2, .slice p3 0 q3] 40)) w5.heap.size (.slice p1 zs.length q1) (.slice p2 zs.length q2) (.slice p3 0 q3)) := Bo.new _ _ _ _; have H7 : Hid (Below w5.heap.size w5 (w5.alloc (.cells #[.slice p1 zs.length q1, .slice p2 zs.length q2, .slice p3 0 q3] 40))) := (Below.refl _ _).alloc (Nat.le_refl _) _; clear R5 b5 d0 d1 d2)
                | (go_at_call 11; refine (read_lay _ zs x n _ (HM5.out.per.below H7.out) hok F0 hl.out hn.out).mono ?_; rintro e w6 ⟨rfl, b6⟩; have H8 : Hid (Below (w5.alloc (.cells #[.slice p1 zs.length q1, .slice p2 zs.length q2, .slice p3 0 q3] 40)).heap.size (w5.alloc (.cells #[.slice p1 zs.length q1, .slice p2 zs.length q2, .slice p3 0 q3] 40)) w6) := b6; have HX9 : Hid (RcAt (w6.alloc (.cells #[.int .i64 x.k, .string x.key, .string x.val, .int .i64 x.ch] 23)) w6.heap.size x) := rc_new w6 x; have H9 : Hid (Below w6.heap.size w6 (w6.alloc (.cells #[.int .i64 x.k, .string x.key, .string x.val, .int .i64 x.ch] 23))) := (Below.refl _ _).alloc (Nat.le_refl _) _; obtain ⟨d0, d1, d2⟩ := (HO7.out.below H8.out).c; obtain ⟨d0', d1', d2'⟩ := (HO7.out.below (bstep (bstep (Below.refl _ _) b6) H9.out)).c; clear b6))
              have hnL : Hid (∀ k, k / 16 ≠ n → (layW zs n (imL x))[k]? = zs[k]?) := show ∀ k, _ from fun k hk => layW_out hn.out l16 (by omega)
              have lY : Hid ((layW zs n (imL x)).length = zs.length) := show _ = _ from layW_length hn.out l16
              have HB9 : Hid (Below w.heap.size w (w6.alloc (.cells #[.int .i64 x.k, .string x.key, .string x.val, .int .i64 x.ch] 23))) := bstep H0.out (bstep (bstep (bstep (bstep (bstep (bstep (bstep (bstep H1.out H2.out) H3.out) H4.out) H5.out) H6.out) H7.out) H8.out) H9.out)
              have HW9 : Hid (Rd (w6.alloc (.cells #[.int .i64 x.k, .string x.key, .string x.val, .int .i64 x.ch] 23)) (.slice a zs.length cap) zs) := HR0.out.below HB9.out
              have HP9 : Hid (Rd (w6.alloc (.cells #[.int .i64 x.k, .string x.key, .string x.val, .int .i64 x.ch] 23)) (.slice p2 zs.length q2) (layW zs n (imL x))) := HM5.out.per.below (bstep (bstep H7.out H8.out) H9.out)
              have HO9 : Hid (Bo (w6.alloc (.cells #[.int .i64 x.k, .string x.key, .string x.val, .int .i64 x.ch] 23)) w5.heap.size (.slice p1 zs.length q1) (.slice p2 zs.length q2) (.slice p3 0 q3)) := HO7.out.below (bstep H8.out H9.out)
              have HY9 : Hid (RcAt (w6.alloc (.cells #[.int .i64 x.k, .string x.key, .string x.val, .int .i64 x.ch] 23)) w.heap.size x) := HX0.out.below (bstep (bstep (bstep (bstep (bstep (bstep (bstep (bstep H1.out H2.out) H3.out) H4.out) H5.out) H6.out) H7.out) H8.out) H9.out)
              obtain ⟨g0, off, rfl, _⟩ := HW9.out.base (by have := hn.out; omega)
              obtain ⟨g2, off2, rfl, _⟩ := HP9.out.base (by have := hn.out; have := lY.out; omega)
              clear H1 H2 H3 H4 H5 H6 H7 H8 H9 d0 d1 d2 d0' d1' d2' HX0 H0 HR0 HL2 HM3 HO4 HS4 HM5 HO7 h1 h2 h3 h4 h5
              generalize layW zs n (imL x) = Y at hnL lY HP9
              generalize hbx : w6.heap.size = bx at HX9 ⊢
              generalize w6.alloc (.cells #[.int .i64 x.k, .string x.key, .string x.val, .int .i64 x.ch] 23) = V at *
              go_loopw [18] (fun i w1 => ∃ k : Nat, k ≤ zs.length ∧ i = .int .i64 k ∧ Below V.heap.size V w1) (fun i _ => zs.length - (intOf i).toNat)
              case atStart => exact ⟨0, Nat.zero_le _, rfl, Below.refl _ _⟩
              case round =>
                obtain ⟨k, hk, rfl, hB⟩ := hrel
                have HB : Hid (Below V.heap.size V wr) := hB
                obtain ⟨d0, d1, d2⟩ := (HO9.out.below hB).c
                obtain ⟨x0, x1, x2, x3⟩ := (HX9.out.below hB).c
                obtain ⟨y0, y1, y2, y3⟩ := (HY9.out.below hB).c
                by_cases hlt : k < zs.length
                · obtain ⟨z, hz⟩ : ∃ z, zs[k]? = some z := ⟨_, List.getElem?_eq_getElem hlt⟩
                  obtain ⟨y, hy⟩ : ∃ y, Y[k]? = some y := ⟨_, List.getElem?_eq_getElem (by rw [lY.out]; exact hlt)⟩
                  have cz := (HW9.out.below hB).cell hz
                  have cy := (HP9.out.below hB).cell hy
                  have hlI : (k : Int) < (zs.length : Int) := by omega
                  by_cases hq : k / 16 = n
                  · have dq : ((k : Int) / 16 != (n : Int)) = false := by simp; omega
                    clear hq hz hy hB
                    go_wp2
                    go_quiet (fail)
                    go_wp2
                    go_roundw
                    case rel => exact ⟨k + 1, by omega, by go_num, below_drewN HB.out _⟩
                    case measure => simp [intOf]; omega
                  · have dq : ((k : Int) / 16 != (n : Int)) = true := by simp; omega
                    have hyz : y = z := by
                      have := hnL.out k hq
                      rw [hy, hz] at this
                      exact Option.some.inj this
                    subst hyz
                    clear hq hz hy hB
                    go_wp2
                    go_quiet (fail)
                    go_wp2
                    go_roundw
                    case rel => exact ⟨k + 1, by omega, by go_num, below_drewN HB.out _⟩
                    case measure => simp [intOf]; omega
                · obtain rfl : k = zs.length := by omega
                  have q23 := fun w => eq23 x x w
                  simp only [decide_eq_true] at q23
                  clear hB
                  go_wp2
                  go_ret
                  exact ⟨rfl, bstep HB9.out HB.out⟩
            · have k15 := fun w => rcheck_any x w
              rw [ex] at k15
              go_enter Try.func4, Try.ntmps4
              go_wp2_with (first
                | (go_at_call 8; refine (awake_any _).mono ?_; rintro e w1 ⟨rfl, b1⟩; have H1 : Hid (Below (w.alloc (.cells #[.int .i64 x.k, .string x.key, .string x.val, .int .i64 x.ch] 23)).heap.size (w.alloc (.cells #[.int .i64 x.k, .string x.key, .string x.val, .int .i64 x.ch] 23)) w1) := b1; obtain ⟨c0, c1, c2, c3⟩ := (HX0.out.below b1).c; clear b1)
                | (go_at_call 9; refine (wordsr_any x _).mono ?_; rintro e w2 ⟨v2, rfl, R2, b2⟩; rw [fx]; have HL2 : Hid (Rd w2 v2 (wLs x)) := R2; have H2 : Hid (Below w1.heap.size w1 w2) := b2; clear R2 b2 c0 c1 c2 c3)
                | (go_at_call 19; refine (new_all _ zs _ (HR0.out.below (bstep H0.out (bstep H1.out H2.out))) (by have := hl.out; omega) h8.out).mono ?_; rintro e w3 ⟨a1, c1, a2, c2, a3, c3, rfl, R3, b3⟩; have HM3 : Hid (RdM w3 (.slice a1 zs.length c1) (.slice a2 zs.length c2) (.slice a3 0 c3) (allM zs)) := R3; have H3 : Hid (Below w2.heap.size w2 w3) := b3; have HO4 : Hid (Bo (w3.alloc (.cells #[.slice a1 zs.length c1, .slice a2 zs.length c2, .slice a3 0 c3] 40)) w3.heap.size (.slice a1 zs.length c1) (.slice a2 zs.length c2) (.slice a3 0 c3)) := Bo.new _ _ _ _; have H4 : Hid (Below w3.heap.size w3 (w3.alloc (.cells #[.slice a1 zs.length c1, .slice a2 zs.length c2, .slice a3 0 c3] 40))) := (Below.refl _ _).alloc (Nat.le_refl _) _; clear R3 b3)
                | (go_at_call 13; refine (steps_none _ _ x _ (HL2.out.below (bstep H3.out H4.out)) ex).mono ?_; rintro e w4 ⟨v4, rfl, R4, b4⟩; have H5 : Hid (Below (w3.alloc (.cells #[.slice a1 zs.length c1, .slice a2 zs.length c2, .slice a3 0 c3] 40)).heap.size (w3.alloc (.cells #[.slice a1 zs.length c1, .slice a2 zs.length c2, .slice a3 0 c3] 40)) w4) := b4; obtain ⟨x0, x1, x2, x3⟩ := (HX0.out.below (bstep (bstep (bstep (bstep H1.out H2.out) H3.out) H4.out) H5.out)).c; clear R4 b4)
                | (go_at_call 15; refine (k15 _).mono ?_; rintro e w5 ⟨rfl, b5⟩))
              go_ret
              exact ⟨rfl, bstep H0.out (bstep (bstep (bstep (bstep (bstep H1.out H2.out) H3.out) H4.out) H5.out) b5)⟩
end Go.Proofs.Ytmhojhpfkieioaa
