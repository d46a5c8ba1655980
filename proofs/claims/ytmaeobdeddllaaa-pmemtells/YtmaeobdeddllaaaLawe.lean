/- Walks of layer 4's statements: a crash. -/
import Derived.Test.YtmaeobdeddllaaaNumg
import Derived.Test.YtmaeobdeddllaaaLawd
namespace Go.Proofs.Ytmaeobdeddllaaa
open Go.RowKit Go.Shelf
set_option linter.unusedVariables false

/-- A row of so many cells of the call's own. -/
def OwnN (W : World) (base : Nat) (v : Value) (n : Nat) (xs : List Value) : Prop := W.ownsRow base 3 1 v n xs
theorem own_rep {W : World} {base : Nat} {v : Value} {k : Nat} (h : OwnN W base v (k + 1) ((List.replicate k 100).map (Value.int .i64) ++ [.int .i64 100])) : OwnI W base v (List.replicate (k + 1) 100) := by
  unfold OwnI
  rw [List.length_replicate, List.replicate_succ', List.map_append]
  exact h
theorem own_zz {W : World} {base : Nat} {v : Value} {zs : List Int} (h : W.ownsRow base 3 1 v (0 + zs.length) ([] ++ zs.map (Value.int .i64))) : OwnI W base v zs := by
  rw [Nat.zero_add] at h
  exact h
theorem pend_lt {W : World} {b off n c : Nat} {ps : List Pd} (h : RdP W (.slice (some ⟨b, off, none⟩) n c) ps) {j : Nat} (hj : j < ps.length) : b < W.heap.size := by
  obtain ⟨b', off', e, h1, _⟩ := h.at j hj
  cases e
  exact World.block_lt_of_cell? W _ h1
theorem rd_wA {W : World} {base : Nat} {a : Option Addr} {c t : Nat} {m : Mm} {keep : List Int} (h : OwnI W base (.slice a m.per.length c) (wA m keep t)) (hl : m.per.length ≤ 300) : Rd W (.slice a m.per.length c) (wA m keep t) := h.rd (by rw [wA_length]; omega)

set_option maxRecDepth 100000 in
set_option maxHeartbeats 8000000 in
theorem crash_b (a1 a2 a3 ak : Option Addr) (c1 c2 c3 ck n8 : Nat) (keep : List Int) (w : World) (m : Mm) (HB : Hid (Below w.heap.size w (w.alloc (.cells #[.slice a1 m.vol.length c1, .slice a2 m.per.length c2, .slice a3 m.pend.length c3] 25)))) (HX : Hid (Bo (w.alloc (.cells #[.slice a1 m.vol.length c1, .slice a2 m.per.length c2, .slice a3 m.pend.length c3] 25)) w.heap.size (.slice a1 m.vol.length c1) (.slice a2 m.per.length c2) (.slice a3 m.pend.length c3))) (HR : Hid (RdM (w.alloc (.cells #[.slice a1 m.vol.length c1, .slice a2 m.per.length c2, .slice a3 m.pend.length c3] 25)) (.slice a1 m.vol.length c1) (.slice a2 m.per.length c2) (.slice a3 m.pend.length c3) m)) (HK : Hid (Rd (w.alloc (.cells #[.slice a1 m.vol.length c1, .slice a2 m.per.length c2, .slice a3 m.pend.length c3] 25)) (.slice ak keep.length ck) keep)) (hBd : Bd keep) (hfew : fewB m.vol.length m.per.length m.pend.length = true) (h1 : m.vol.length ≤ 300) (l2 : m.per.length ≤ 300) (h3 : m.pend.length ≤ 100) (hk3 : (keep.length : Int) ≤ 300) (hOk : Hid (Ok m)) (hn8 : (m.vol.length : Int) / 8 = (n8 : Int)) : Calls Try.prog 6 #[.agg #[.slice a1 m.vol.length c1, .slice a2 m.per.length c2, .slice a3 m.pend.length c3], .slice ak keep.length ck] w fun e w' => e = .returned (.bool true) ∧ Below w.heap.size w w' := by
  have oM : ok m = true := ok_true hOk.out
  have he : okE m = 0 := by unfold okE; rw [oM]; rfl
  have hn81 : n8 ≤ 1000 := by omega
  have hn9 : m.vol.length / 8 = n8 := by omega
  have d1 : decide ((crP m keep) = wA m keep n8) = true := decide_eq_true (by rw [← hn9, wA_all hOk.out])
  have d2 : decide ((crP m []) = m.per) = true := decide_eq_true (cr_none hOk.out)
  have d3 : decide ((crP m (List.replicate n8 100)) = m.vol) = true := decide_eq_true (by rw [← hn9]; exact cr_all hOk.out h3)
  clear hn9
  have t0 : Hid (0 = 0) := rfl
  have t1 : Hid (0 = 0) := rfl
  have t2 : Hid (0 = 0) := rfl
  have t3 : Hid (0 = 0) := rfl
  have t4 : Hid (0 = 0) := rfl
  go_enter Try.func6, Try.ntmps6
  go_wp2_with (first
    | (go_at_call 9; clear t0; refine (awake_any _).mono ?_; rintro e w0 ⟨rfl, hb0⟩; have F1 : Hid (RdM w0 (.slice a1 m.vol.length c1) (.slice a2 m.per.length c2) (.slice a3 m.pend.length c3) m) := HR.out.below hb0; have F2 : Hid (Bo w0 w.heap.size (.slice a1 m.vol.length c1) (.slice a2 m.per.length c2) (.slice a3 m.pend.length c3)) := HX.out.below hb0; have F3 : Hid (Below w.heap.size w w0) := bstep HB.out hb0; have F4 : Hid (Rd w0 (.slice ak keep.length ck) keep) := HK.out.below hb0; clear hb0; obtain ⟨⟨c5, c6, c7⟩, -⟩ := F2.out.bx; clear HR HX HB HK)
    | (go_at_call 10; clear t1; refine (few_any _ _ _ _ _ _ _ _ _ _).mono ?_; rintro e wf ⟨rfl, hbf⟩; have F8 : Hid (RdM wf (.slice a1 m.vol.length c1) (.slice a2 m.per.length c2) (.slice a3 m.pend.length c3) m) := F1.out.below hbf; have F9 : Hid (Bo wf w.heap.size (.slice a1 m.vol.length c1) (.slice a2 m.per.length c2) (.slice a3 m.pend.length c3)) := F2.out.below hbf; have F10 : Hid (Below w.heap.size w wf) := bstep F3.out hbf; have F11 : Hid (Rd wf (.slice ak keep.length ck) keep) := F4.out.below hbf; clear hbf; obtain ⟨⟨c12, c13, c14⟩, -⟩ := F9.out.bx; clear c5 c6 c7; clear F1 F2 F3 F4)
    | (go_at_call 27; clear t2; refine (check_any _ _ _ m _ F8.out).mono ?_; rintro e wc ⟨rfl, hbwc⟩; have F15 : Hid (RdM wc (.slice a1 m.vol.length c1) (.slice a2 m.per.length c2) (.slice a3 m.pend.length c3) m) := F8.out.below hbwc; have F16 : Hid (Bo wc w.heap.size (.slice a1 m.vol.length c1) (.slice a2 m.per.length c2) (.slice a3 m.pend.length c3)) := F9.out.below hbwc; have F17 : Hid (Below w.heap.size w wc) := bstep F10.out hbwc; have F18 : Hid (Rd wc (.slice ak keep.length ck) keep) := F11.out.below hbwc; clear hbwc; obtain ⟨⟨c19, c20, c21⟩, -⟩ := F16.out.bx; clear c12 c13 c14; clear F8 F9 F10 F11)
    | (go_at_call 22; clear t3; refine (crash_any _ _ _ _ m keep _ F15.out F18.out hBd).mono ?_; rintro e w_1 ⟨v_1, rfl, R_1, hb_1⟩; have R_1 : Rd w_1 v_1 (crP m keep) := R_1; obtain ⟨l_1, a_1, c_1, rfl⟩ := R_1.form; have F22 : Hid (RdM w_1 (.slice a1 m.vol.length c1) (.slice a2 m.per.length c2) (.slice a3 m.pend.length c3) m) := F15.out.below hb_1; have F23 : Hid (Bo w_1 w.heap.size (.slice a1 m.vol.length c1) (.slice a2 m.per.length c2) (.slice a3 m.pend.length c3)) := F16.out.below hb_1; have F24 : Hid (Below w.heap.size w w_1) := bstep F17.out hb_1; have F25 : Hid (Rd w_1 (.slice ak keep.length ck) keep) := F18.out.below hb_1; have F26 : Hid (Rd w_1 (.slice a_1 (crP m keep).length c_1) (crP m keep)) := R_1; clear R_1 hb_1 l_1; obtain ⟨⟨c27, c28, c29⟩, -⟩ := F23.out.bx; clear c19 c20 c21; clear F15 F16 F17 F18)
    | (go_at_call 22; clear t4; refine (crash_any _ _ _ _ m [] _ F22.out (Rd.bare _) bd_nil).mono ?_; rintro e w_2 ⟨v_2, rfl, R_2, hb_2⟩; have R_2 : Rd w_2 v_2 (crP m []) := R_2; obtain ⟨l_2, a_2, c_2, rfl⟩ := R_2.form; have F30 : Hid (RdM w_2 (.slice a1 m.vol.length c1) (.slice a2 m.per.length c2) (.slice a3 m.pend.length c3) m) := F22.out.below hb_2; have F31 : Hid (Bo w_2 w.heap.size (.slice a1 m.vol.length c1) (.slice a2 m.per.length c2) (.slice a3 m.pend.length c3)) := F23.out.below hb_2; have F32 : Hid (Below w.heap.size w w_2) := bstep F24.out hb_2; have F33 : Hid (Rd w_2 (.slice ak keep.length ck) keep) := F25.out.below hb_2; have F34 : Hid (Rd w_2 (.slice a_1 (crP m keep).length c_1) (crP m keep)) := F26.out.below hb_2; have F35 : Hid (Rd w_2 (.slice a_2 (crP m []).length c_2) (crP m [])) := R_2; clear R_2 hb_2 l_2; obtain ⟨⟨c36, c37, c38⟩, -⟩ := F31.out.bx; clear c27 c28 c29; clear F22 F23 F24 F25 F26))
  clear c36 c37 c38
  go_loopw [10, 11] (fun s10 s11 w1 => ∃ k : Nat, k ≤ n8 ∧ s11 = .int .i64 k ∧ OwnI w1 w_2.heap.size s10 (List.replicate k 100) ∧ Below w_2.heap.size w_2 w1) (fun _ s11 _ => n8 - (intOf s11).toNat)
  case atStart => exact ⟨0, Nat.zero_le _, rfl, World.ownsRow_nil _ _ _ _, Below.refl _ _⟩
  case round =>
    obtain ⟨k, hk, rfl, hO, hbr⟩ := hrel
    obtain ⟨⟨x0, x1, x2⟩, -⟩ := (F31.out.below hbr).bx
    by_cases hlt : k < n8
    · have hltI : (k : Int) < (n8 : Int) := by omega
      have hO2 : wr.ownsRow w_2.heap.size 3 1 u10 k ((List.replicate k 100).map (Value.int .i64)) := by have h := hO; unfold OwnI at h; rwa [List.length_replicate] at h
      have HO2 : Hid (OwnN wr w_2.heap.size u10 k ((List.replicate k 100).map (Value.int .i64))) := hO2
      have hsz := hbr.size
      have hsa : w_2.heap.size ≤ (wr.alloc (.cells #[.int .i64 100] 3)).heap.size := by simp; omega
      have hk5 : k ≤ 100000 := by omega
      have HL1 : Hid (RdC (wr.alloc (.cells #[.int .i64 100] 3)) 1 (.slice (some ⟨wr.heap.size, 0, none⟩) 1 1) 1 [.int .i64 100]) := rd_one wr 100 rfl
      clear hO hO2
      go_wp2_with (first
        | (at_builtin; refine append_rdc rfl _ _ 22 rfl w_2.heap.size 3 1 _ 8 Try.underlying22 Try.info3 rfl (by decide) (by decide) _ k _ rfl (World.ownsRow.alloc HO2.out _) _ 1 _ rfl HL1.out (ints_one [100]) hk5 hsa ?_; intro v2 w2 o2 g2; have HO3 : Hid (OwnN w2 w_2.heap.size v2 (k + 1) _) := o2; have HB3 : Hid (Below w_2.heap.size w_2 w2) := (hbr.alloc hsz _).grown g2 hsa (fun q hq => (World.ownsRow.lt HO2.out q hq).1); clear o2 g2))
      exact ⟨⟨k + 1, by omega, by go_num, own_rep HO3.out, HB3.out⟩, by simp [intOf]; omega⟩
    · obtain rfl : k = n8 := by omega
      have HA : Hid (Rd wr u10 (List.replicate k 100)) := hO.rd (by rw [List.length_replicate]; omega)
      clear hO x0 x1 x2
      have F39 : Hid (RdM wr (.slice a1 m.vol.length c1) (.slice a2 m.per.length c2) (.slice a3 m.pend.length c3) m) := F30.out.below hbr
      have F40 : Hid (Bo wr w.heap.size (.slice a1 m.vol.length c1) (.slice a2 m.per.length c2) (.slice a3 m.pend.length c3)) := F31.out.below hbr
      have F41 : Hid (Below w.heap.size w wr) := bstep F32.out hbr
      have F42 : Hid (Rd wr (.slice ak keep.length ck) keep) := F33.out.below hbr
      have F43 : Hid (Rd wr (.slice a_1 (crP m keep).length c_1) (crP m keep)) := F34.out.below hbr
      have F44 : Hid (Rd wr (.slice a_2 (crP m []).length c_2) (crP m [])) := F35.out.below hbr
      obtain ⟨⟨c45, c46, c47⟩, -⟩ := F40.out.bx
      clear F30 F31 F32 F33 F34 F35 hbr
      have t0 : Hid (0 = 0) := rfl
      go_wp2_with (first
        | (go_at_call 22; clear t0; refine (crash_any _ _ _ _ m (List.replicate k 100) _ F39.out HA.out (bd_100 _)).mono ?_; rintro e w_3 ⟨v_3, rfl, R_3, hb_3⟩; have R_3 : Rd w_3 v_3 (crP m (List.replicate k 100)) := R_3; obtain ⟨l_3, a_3, c_3, rfl⟩ := R_3.form; have F48 : Hid (RdM w_3 (.slice a1 m.vol.length c1) (.slice a2 m.per.length c2) (.slice a3 m.pend.length c3) m) := F39.out.below hb_3; have F49 : Hid (Bo w_3 w.heap.size (.slice a1 m.vol.length c1) (.slice a2 m.per.length c2) (.slice a3 m.pend.length c3)) := F40.out.below hb_3; have F50 : Hid (Below w.heap.size w w_3) := bstep F41.out hb_3; have F51 : Hid (Rd w_3 (.slice ak keep.length ck) keep) := F42.out.below hb_3; have F52 : Hid (Rd w_3 (.slice a_1 (crP m keep).length c_1) (crP m keep)) := F43.out.below hb_3; have F53 : Hid (Rd w_3 (.slice a_2 (crP m []).length c_2) (crP m [])) := F44.out.below hb_3; have F54 : Hid (Rd w_3 (.slice a_3 (crP m (List.replicate k 100)).length c_3) (crP m (List.replicate k 100))) := R_3; clear R_3 hb_3 l_3; obtain ⟨⟨d0, d1, d2⟩, -⟩ := (F49.out.below ((Below.refl _ w_3).alloc (Nat.le_refl _) (.cells #[] 3))).bx; obtain ⟨⟨c55, c56, c57⟩, -⟩ := F49.out.bx; clear c45 c46 c47; clear F39 F40 F41 F42 F43 F44)
        | (at_builtin; refine append_rdc rfl _ _ 22 rfl w_3.heap.size 3 1 _ 8 Try.underlying22 Try.info3 rfl (by decide) (by decide) _ 0 [] rfl (World.ownsRow_made (base := w_3.heap.size) (e := 3) (size := 1) w_3 #[] 0 (Nat.le_refl _) (by omega) rfl) _ m.per.length _ rfl (F48.out.below ((Below.refl _ w_3).alloc (Nat.le_refl _) (.cells #[] 3))).per (ints_one m.per) (by omega) (by simp) ?_; intro v5 w5 o5 g5; have B5 : Below w_3.heap.size w_3 w5 := ((Below.refl _ w_3).alloc (Nat.le_refl _) _).grown g5 (by simp) (by intro q hq; cases hq; exact Nat.le_refl _); have HO5 : Hid (OwnI w5 w_3.heap.size v5 m.per) := own_zz o5; obtain ⟨a5, c5, rfl⟩ := HO5.out.form; have HB5 : Hid (Below w_3.heap.size w_3 w5) := B5; clear o5 g5 B5))
      clear d0 d1 d2 c55 c56 c57
      go_loopw [15] (fun s15 w1 => ∃ s : Nat, s ≤ k ∧ s15 = .int .i64 s ∧ OwnI w1 w_3.heap.size (.slice a5 m.per.length c5) (wA m keep s) ∧ Below w_3.heap.size w_3 w1) (fun s15 _ => k - (intOf s15).toNat)
      case atStart => exact ⟨0, Nat.zero_le _, rfl, HO5.out, HB5.out⟩
      case round =>
        obtain ⟨s, hs, rfl, hOs, hbs⟩ := hrel
        have HOs : Hid (OwnI wr w_3.heap.size (.slice a5 m.per.length c5) (wA m keep s)) := hOs
        clear hOs
        obtain ⟨⟨x0, x1, x2⟩, -⟩ := (F49.out.below hbs).bx
        by_cases hlts : s < k
        · have hltS : (s : Int) < (k : Int) := by omega
          by_cases hsk : s < keep.length
          · have hskI : (s : Int) < (keep.length : Int) := by omega
            obtain ⟨x, hx⟩ : ∃ x, keep[s]? = some x := ⟨_, List.getElem?_eq_getElem hsk⟩
            have hxe : Hid (keep.getD s 0 = x) := by (show _ = _; rw [List.getD_eq_getElem?_getD, hx]; rfl)
            have hxb := hBd x (List.mem_of_getElem? hx)
            have mK := F51.out.below hbs
            obtain ⟨bK, oK, rfl, -⟩ := mK.base (by omega)
            have cK := mK.cell hx
            clear mK hx
            go_wp2
            clear x0 x1 x2 cK
            go_loopw [16, 17] (fun s16 s17 w1 => ∃ j : Nat, j ≤ m.pend.length ∧ s17 = .int .i64 j ∧ s16 = .int .i64 (inF s (wA m keep s) x (m.pend.take j)).2 ∧ OwnI w1 w_3.heap.size (.slice a5 m.per.length c5) (inF s (wA m keep s) x (m.pend.take j)).1 ∧ Below w_3.heap.size w_3 w1) (fun _ s17 _ => m.pend.length - (intOf s17).toNat)
            case atStart => exact ⟨0, Nat.zero_le _, rfl, rfl, HOs.out, hbs⟩
            case round =>
              obtain ⟨j, hj, rfl, rfl, hO, hbt⟩ := hrel
              have hbd := inF_bd s (wA m keep s) x (m.pend.take j) hxb.1 hxb.2
              have hln := inF_length s (wA m keep s) x (m.pend.take j)
              rw [wA_length] at hln
              obtain ⟨⟨z0, z1, z2⟩, -⟩ := (F49.out.below hbt).bx
              by_cases hltj : j < m.pend.length
              · have hltJ : (j : Int) < (m.pend.length : Int) := by omega
                obtain ⟨p, hp⟩ : ∃ p, m.pend[j]? = some p := ⟨_, List.getElem?_eq_getElem hltj⟩
                have hT := take_next hp
                have hS : Hid (inF s (wA m keep s) x (m.pend.take (j + 1)) = inS s (inF s (wA m keep s) x (m.pend.take j)) p) := by (show _ = _; rw [hT, inF_snoc])
                have hin := hOk.out.2.2.2.1 p (List.mem_of_getElem? hp)
                obtain ⟨g1, o1, rfl, s0, s1, s2⟩ := (F48.out.below hbt).pend.get hp
                have hg1 : g1 < w_3.heap.size := pend_lt F48.out.pend hltj
                obtain ⟨pa, pv, pf⟩ := p
                dsimp only at s0 s1 s2 hin
                obtain ⟨q, rfl⟩ := Int.eq_ofNat_of_zero_le hin.1
                have hq5 : (q : Int) < 100000 := by omega
                obtain ⟨l, hl⟩ : ∃ l, q / 8 = l := ⟨_, rfl⟩
                have hl8 : (q : Int) / 8 = (l : Int) := by omega
                have hlnN : lnN ⟨(q : Int), pv, pf⟩ = l := by show ((q : Int) / 8).toNat = l; omega
                generalize inF s (wA m keep s) x (m.pend.take j) = st at hbd hln hS hO ⊢
                obtain ⟨L1, y⟩ := st
                dsimp only at hbd hln hO ⊢
                by_cases hls : l = s
                · have tl : ((l : Int) == (s : Int)) = true := by simp [hls]
                  by_cases hy : 0 < y
                  · have hS2 : Hid (inF s (wA m keep s) x (m.pend.take (j + 1)) = (L1.set q pv, y - 1)) := by (show _ = _; rw [hS.out]; unfold inS; rw [if_pos ⟨by rw [hlnN]; exact hls, hy⟩]; rfl)
                    have hqp : q < m.per.length := by rw [hOk.out.1]; omega
                    have hqI : (q : Int) < (m.per.length : Int) := by omega
                    obtain ⟨g5, rfl, hbg, hgl, ⟨hc, hf⟩, hset⟩ := hO.put (show q < L1.length by omega)
                    have HN : Hid (OwnI (wr.setCell ⟨g5, q, none⟩ (.int .i64 pv)) w_3.heap.size (.slice (some ⟨g5, 0, none⟩) m.per.length c5) (L1.set q pv)) := hset pv
                    have HBn : Hid (Below w_3.heap.size w_3 (wr.setCell ⟨g5, q, none⟩ (.int .i64 pv))) := hbt.setCell (p := ⟨g5, q, none⟩) hbg _
                    have hwl : w.heap.size < w_3.heap.size := F49.out.lt
                    have HS0 : Hid (wr.drew.cell? ⟨w.heap.size, 2, none⟩ = some (.slice (some ⟨g1, o1, none⟩) m.pend.length c3) ∧ wr.drew.cell? ⟨g1, o1 + j * 3, none⟩ = some (.int .i64 (q : Int)) ∧ wr.drew.cell? ⟨g1, o1 + j * 3 + 1, none⟩ = some (.int .i64 pv)) := ⟨z2, s0, s1⟩
                    have HS1 : Hid ((wr.drew.setCell ⟨g5, q, none⟩ (.int .i64 pv)).cell? ⟨w.heap.size, 2, none⟩ = some (.slice (some ⟨g1, o1, none⟩) m.pend.length c3) ∧ (wr.drew.setCell ⟨g5, q, none⟩ (.int .i64 pv)).cell? ⟨g1, o1 + j * 3, none⟩ = some (.int .i64 (q : Int)) ∧ (wr.drew.setCell ⟨g5, q, none⟩ (.int .i64 pv)).cell? ⟨g1, o1 + j * 3 + 1, none⟩ = some (.int .i64 pv)) := ⟨(World.cell?_of_block (Below.heap_setCell wr.drew _ _ _ (by show w.heap.size ≠ g5; omega))).trans z2, (World.cell?_of_block (Below.heap_setCell wr.drew _ _ _ (by show g1 ≠ g5; omega))).trans s0, (World.cell?_of_block (Below.heap_setCell wr.drew _ _ _ (by show g1 ≠ g5; omega))).trans s1⟩
                    have hcd : wr.drew.cell? ⟨g5, q, none⟩ = some (.int .i64 L1[q]) := hc
                    have hfd : wr.drew.frozen? ⟨g5, q, none⟩ = false := hf
                    clear hset hO hp hT hS
                    go_wp2
                    go_region_held3 (fun w2 => w2.cell? ⟨w.heap.size, 2, none⟩ = some (.slice (some ⟨g1, o1, none⟩) m.pend.length c3) ∧ w2.cell? ⟨g1, o1 + j * 3, none⟩ = some (.int .i64 (q : Int)) ∧ w2.cell? ⟨g1, o1 + j * 3 + 1, none⟩ = some (.int .i64 pv))
                      (first | exact HS0.out | exact HS1.out)
                      (fail)
                    go_wp2
                    exact ⟨⟨j + 1, by omega, by go_num, by rw [hS2.out], by rw [hS2.out]; exact HN.out, HBn.out.drew⟩, by simp [intOf]; omega⟩
                  · have hS2 : Hid (inF s (wA m keep s) x (m.pend.take (j + 1)) = (L1, y)) := by (show _ = _; rw [hS.out]; unfold inS; rw [if_neg (fun k => hy k.2)])
                    clear hp hT hS
                    go_wp2
                    exact ⟨⟨j + 1, by omega, by go_num, by rw [hS2.out], by rw [hS2.out]; exact hO, hbt⟩, by simp [intOf]; omega⟩
                · have tl : ((l : Int) == (s : Int)) = false := by simp; omega
                  have hS2 : Hid (inF s (wA m keep s) x (m.pend.take (j + 1)) = (L1, y)) := by (show _ = _; rw [hS.out]; unfold inS; rw [if_neg (fun k => hls (by rw [← hlnN]; exact k.1))])
                  clear hp hT hS
                  go_wp2
                  exact ⟨⟨j + 1, by omega, by go_num, by rw [hS2.out], by rw [hS2.out]; exact hO, hbt⟩, by simp [intOf]; omega⟩
              · obtain rfl : j = m.pend.length := by omega
                have HN : Hid (OwnI wr w_3.heap.size (.slice a5 m.per.length c5) (wA m keep (s + 1))) := by
                  (show OwnI _ _ _ _; have h := hO; rw [List.take_length, inF_fst] at h; show OwnI _ _ _ (crG (keep.getD s 0) (wA m keep s) (lin s m.pend)); rw [hxe.out]; exact h)
                clear hO
                go_wp2
                exact ⟨⟨s + 1, by omega, by go_num, HN.out, hbt⟩, by simp [intOf]; omega⟩
          · have hskI : ¬ ((s : Int) < (keep.length : Int)) := by omega
            have hxe : Hid (keep.getD s 0 = (0 : Int)) := by (show _ = _; rw [List.getD_eq_getElem?_getD, List.getElem?_eq_none (by omega)]; rfl)
            have hxb : -9223372036854775808 ≤ (0 : Int) ∧ (0 : Int) < 9223372036854775808 := by omega
            go_wp2
            clear x0 x1 x2
            go_loopw [16, 17] (fun s16 s17 w1 => ∃ j : Nat, j ≤ m.pend.length ∧ s17 = .int .i64 j ∧ s16 = .int .i64 (inF s (wA m keep s) (0 : Int) (m.pend.take j)).2 ∧ OwnI w1 w_3.heap.size (.slice a5 m.per.length c5) (inF s (wA m keep s) (0 : Int) (m.pend.take j)).1 ∧ Below w_3.heap.size w_3 w1) (fun _ s17 _ => m.pend.length - (intOf s17).toNat)
            case atStart => exact ⟨0, Nat.zero_le _, rfl, rfl, HOs.out, hbs⟩
            case round =>
              obtain ⟨j, hj, rfl, rfl, hO, hbt⟩ := hrel
              have hbd := inF_bd s (wA m keep s) (0 : Int) (m.pend.take j) hxb.1 hxb.2
              have hln := inF_length s (wA m keep s) (0 : Int) (m.pend.take j)
              rw [wA_length] at hln
              obtain ⟨⟨z0, z1, z2⟩, -⟩ := (F49.out.below hbt).bx
              by_cases hltj : j < m.pend.length
              · have hltJ : (j : Int) < (m.pend.length : Int) := by omega
                obtain ⟨p, hp⟩ : ∃ p, m.pend[j]? = some p := ⟨_, List.getElem?_eq_getElem hltj⟩
                have hT := take_next hp
                have hS : Hid (inF s (wA m keep s) (0 : Int) (m.pend.take (j + 1)) = inS s (inF s (wA m keep s) (0 : Int) (m.pend.take j)) p) := by (show _ = _; rw [hT, inF_snoc])
                have hin := hOk.out.2.2.2.1 p (List.mem_of_getElem? hp)
                obtain ⟨g1, o1, rfl, s0, s1, s2⟩ := (F48.out.below hbt).pend.get hp
                have hg1 : g1 < w_3.heap.size := pend_lt F48.out.pend hltj
                obtain ⟨pa, pv, pf⟩ := p
                dsimp only at s0 s1 s2 hin
                obtain ⟨q, rfl⟩ := Int.eq_ofNat_of_zero_le hin.1
                have hq5 : (q : Int) < 100000 := by omega
                obtain ⟨l, hl⟩ : ∃ l, q / 8 = l := ⟨_, rfl⟩
                have hl8 : (q : Int) / 8 = (l : Int) := by omega
                have hlnN : lnN ⟨(q : Int), pv, pf⟩ = l := by show ((q : Int) / 8).toNat = l; omega
                generalize inF s (wA m keep s) (0 : Int) (m.pend.take j) = st at hbd hln hS hO ⊢
                obtain ⟨L1, y⟩ := st
                dsimp only at hbd hln hO ⊢
                by_cases hls : l = s
                · have tl : ((l : Int) == (s : Int)) = true := by simp [hls]
                  by_cases hy : 0 < y
                  · have hS2 : Hid (inF s (wA m keep s) (0 : Int) (m.pend.take (j + 1)) = (L1.set q pv, y - 1)) := by (show _ = _; rw [hS.out]; unfold inS; rw [if_pos ⟨by rw [hlnN]; exact hls, hy⟩]; rfl)
                    have hqp : q < m.per.length := by rw [hOk.out.1]; omega
                    have hqI : (q : Int) < (m.per.length : Int) := by omega
                    obtain ⟨g5, rfl, hbg, hgl, ⟨hc, hf⟩, hset⟩ := hO.put (show q < L1.length by omega)
                    have HN : Hid (OwnI (wr.setCell ⟨g5, q, none⟩ (.int .i64 pv)) w_3.heap.size (.slice (some ⟨g5, 0, none⟩) m.per.length c5) (L1.set q pv)) := hset pv
                    have HBn : Hid (Below w_3.heap.size w_3 (wr.setCell ⟨g5, q, none⟩ (.int .i64 pv))) := hbt.setCell (p := ⟨g5, q, none⟩) hbg _
                    have hwl : w.heap.size < w_3.heap.size := F49.out.lt
                    have HS0 : Hid (wr.drew.cell? ⟨w.heap.size, 2, none⟩ = some (.slice (some ⟨g1, o1, none⟩) m.pend.length c3) ∧ wr.drew.cell? ⟨g1, o1 + j * 3, none⟩ = some (.int .i64 (q : Int)) ∧ wr.drew.cell? ⟨g1, o1 + j * 3 + 1, none⟩ = some (.int .i64 pv)) := ⟨z2, s0, s1⟩
                    have HS1 : Hid ((wr.drew.setCell ⟨g5, q, none⟩ (.int .i64 pv)).cell? ⟨w.heap.size, 2, none⟩ = some (.slice (some ⟨g1, o1, none⟩) m.pend.length c3) ∧ (wr.drew.setCell ⟨g5, q, none⟩ (.int .i64 pv)).cell? ⟨g1, o1 + j * 3, none⟩ = some (.int .i64 (q : Int)) ∧ (wr.drew.setCell ⟨g5, q, none⟩ (.int .i64 pv)).cell? ⟨g1, o1 + j * 3 + 1, none⟩ = some (.int .i64 pv)) := ⟨(World.cell?_of_block (Below.heap_setCell wr.drew _ _ _ (by show w.heap.size ≠ g5; omega))).trans z2, (World.cell?_of_block (Below.heap_setCell wr.drew _ _ _ (by show g1 ≠ g5; omega))).trans s0, (World.cell?_of_block (Below.heap_setCell wr.drew _ _ _ (by show g1 ≠ g5; omega))).trans s1⟩
                    have hcd : wr.drew.cell? ⟨g5, q, none⟩ = some (.int .i64 L1[q]) := hc
                    have hfd : wr.drew.frozen? ⟨g5, q, none⟩ = false := hf
                    clear hset hO hp hT hS
                    go_wp2
                    go_region_held3 (fun w2 => w2.cell? ⟨w.heap.size, 2, none⟩ = some (.slice (some ⟨g1, o1, none⟩) m.pend.length c3) ∧ w2.cell? ⟨g1, o1 + j * 3, none⟩ = some (.int .i64 (q : Int)) ∧ w2.cell? ⟨g1, o1 + j * 3 + 1, none⟩ = some (.int .i64 pv))
                      (first | exact HS0.out | exact HS1.out)
                      (fail)
                    go_wp2
                    exact ⟨⟨j + 1, by omega, by go_num, by rw [hS2.out], by rw [hS2.out]; exact HN.out, HBn.out.drew⟩, by simp [intOf]; omega⟩
                  · have hS2 : Hid (inF s (wA m keep s) (0 : Int) (m.pend.take (j + 1)) = (L1, y)) := by (show _ = _; rw [hS.out]; unfold inS; rw [if_neg (fun k => hy k.2)])
                    clear hp hT hS
                    go_wp2
                    exact ⟨⟨j + 1, by omega, by go_num, by rw [hS2.out], by rw [hS2.out]; exact hO, hbt⟩, by simp [intOf]; omega⟩
                · have tl : ((l : Int) == (s : Int)) = false := by simp; omega
                  have hS2 : Hid (inF s (wA m keep s) (0 : Int) (m.pend.take (j + 1)) = (L1, y)) := by (show _ = _; rw [hS.out]; unfold inS; rw [if_neg (fun k => hls (by rw [← hlnN]; exact k.1))])
                  clear hp hT hS
                  go_wp2
                  exact ⟨⟨j + 1, by omega, by go_num, by rw [hS2.out], by rw [hS2.out]; exact hO, hbt⟩, by simp [intOf]; omega⟩
              · obtain rfl : j = m.pend.length := by omega
                have HN : Hid (OwnI wr w_3.heap.size (.slice a5 m.per.length c5) (wA m keep (s + 1))) := by
                  (show OwnI _ _ _ _; have h := hO; rw [List.take_length, inF_fst] at h; show OwnI _ _ _ (crG (keep.getD s 0) (wA m keep s) (lin s m.pend)); rw [hxe.out]; exact h)
                clear hO
                go_wp2
                exact ⟨⟨s + 1, by omega, by go_num, HN.out, hbt⟩, by simp [intOf]; omega⟩
        · obtain rfl : s = k := by omega
          have HW : Hid (Rd wr (.slice a5 m.per.length c5) (wA m keep s)) := rd_wA HOs.out l2
          clear x0 x1 x2
          have F58 : Hid (RdM wr (.slice a1 m.vol.length c1) (.slice a2 m.per.length c2) (.slice a3 m.pend.length c3) m) := F48.out.below hbs
          have F59 : Hid (Bo wr w.heap.size (.slice a1 m.vol.length c1) (.slice a2 m.per.length c2) (.slice a3 m.pend.length c3)) := F49.out.below hbs
          have F60 : Hid (Below w.heap.size w wr) := bstep F50.out hbs
          have F61 : Hid (Rd wr (.slice ak keep.length ck) keep) := F51.out.below hbs
          have F62 : Hid (Rd wr (.slice a_1 (crP m keep).length c_1) (crP m keep)) := F52.out.below hbs
          have F63 : Hid (Rd wr (.slice a_2 (crP m []).length c_2) (crP m [])) := F53.out.below hbs
          have F64 : Hid (Rd wr (.slice a_3 (crP m (List.replicate s 100)).length c_3) (crP m (List.replicate s 100))) := F54.out.below hbs
          obtain ⟨⟨c65, c66, c67⟩, -⟩ := F59.out.bx
          clear F48 F49 F50 F51 F52 F53 F54
          have t0 : Hid (0 = 0) := rfl
          have t1 : Hid (0 = 0) := rfl
          have t2 : Hid (0 = 0) := rfl
          go_wp2_with (first
            | (go_at_call 26; clear t0; refine (numbers_any _ _ (crP m keep) (wA m keep s) _ F62.out HW.out).mono ?_; rintro e wn1 ⟨rfl, hbwn1⟩; have F68 : Hid (RdM wn1 (.slice a1 m.vol.length c1) (.slice a2 m.per.length c2) (.slice a3 m.pend.length c3) m) := F58.out.below hbwn1; have F69 : Hid (Bo wn1 w.heap.size (.slice a1 m.vol.length c1) (.slice a2 m.per.length c2) (.slice a3 m.pend.length c3)) := F59.out.below hbwn1; have F70 : Hid (Below w.heap.size w wn1) := bstep F60.out hbwn1; have F71 : Hid (Rd wn1 (.slice ak keep.length ck) keep) := F61.out.below hbwn1; have F72 : Hid (Rd wn1 (.slice a_1 (crP m keep).length c_1) (crP m keep)) := F62.out.below hbwn1; have F73 : Hid (Rd wn1 (.slice a_2 (crP m []).length c_2) (crP m [])) := F63.out.below hbwn1; have F74 : Hid (Rd wn1 (.slice a_3 (crP m (List.replicate s 100)).length c_3) (crP m (List.replicate s 100))) := F64.out.below hbwn1; clear hbwn1; obtain ⟨⟨c75, c76, c77⟩, -⟩ := F69.out.bx; clear c65 c66 c67; clear F58 F59 F60 F61 F62 F63 F64)
            | (go_at_call 26; clear t1; refine (numbers_any _ _ (crP m []) m.per _ F73.out F68.out.per).mono ?_; rintro e wn2 ⟨rfl, hbwn2⟩; have F78 : Hid (RdM wn2 (.slice a1 m.vol.length c1) (.slice a2 m.per.length c2) (.slice a3 m.pend.length c3) m) := F68.out.below hbwn2; have F79 : Hid (Bo wn2 w.heap.size (.slice a1 m.vol.length c1) (.slice a2 m.per.length c2) (.slice a3 m.pend.length c3)) := F69.out.below hbwn2; have F80 : Hid (Below w.heap.size w wn2) := bstep F70.out hbwn2; have F81 : Hid (Rd wn2 (.slice ak keep.length ck) keep) := F71.out.below hbwn2; have F82 : Hid (Rd wn2 (.slice a_1 (crP m keep).length c_1) (crP m keep)) := F72.out.below hbwn2; have F83 : Hid (Rd wn2 (.slice a_2 (crP m []).length c_2) (crP m [])) := F73.out.below hbwn2; have F84 : Hid (Rd wn2 (.slice a_3 (crP m (List.replicate s 100)).length c_3) (crP m (List.replicate s 100))) := F74.out.below hbwn2; clear hbwn2; obtain ⟨⟨c85, c86, c87⟩, -⟩ := F79.out.bx; clear c75 c76 c77; clear F68 F69 F70 F71 F72 F73 F74)
            | (go_at_call 26; clear t2; refine (numbers_any _ _ (crP m (List.replicate s 100)) m.vol _ F84.out F78.out.vol).mono ?_; rintro e wn3 ⟨rfl, hbwn3⟩; have F88 : Hid (RdM wn3 (.slice a1 m.vol.length c1) (.slice a2 m.per.length c2) (.slice a3 m.pend.length c3) m) := F78.out.below hbwn3; have F89 : Hid (Bo wn3 w.heap.size (.slice a1 m.vol.length c1) (.slice a2 m.per.length c2) (.slice a3 m.pend.length c3)) := F79.out.below hbwn3; have F90 : Hid (Below w.heap.size w wn3) := bstep F80.out hbwn3; have F91 : Hid (Rd wn3 (.slice ak keep.length ck) keep) := F81.out.below hbwn3; have F92 : Hid (Rd wn3 (.slice a_1 (crP m keep).length c_1) (crP m keep)) := F82.out.below hbwn3; have F93 : Hid (Rd wn3 (.slice a_2 (crP m []).length c_2) (crP m [])) := F83.out.below hbwn3; have F94 : Hid (Rd wn3 (.slice a_3 (crP m (List.replicate s 100)).length c_3) (crP m (List.replicate s 100))) := F84.out.below hbwn3; clear hbwn3; obtain ⟨⟨c95, c96, c97⟩, -⟩ := F89.out.bx; clear c85 c86 c87; clear F78 F79 F80 F81 F82 F83 F84))
          go_ret
          exact ⟨rfl, F90.out⟩

set_option maxRecDepth 100000 in
set_option maxHeartbeats 1000000 in
theorem walk_PmemCrash (a1 a2 a3 : Option Addr) (n1 n2 n3 c1 c2 c3 : Nat) (ak : Option Addr) (nk ck : Nat) (w : World) (hm : MemIn w a1 a2 a3 n1 n2 n3 c1 c2 c3) (hk : KeepIn w ak nk ck) :
    Calls Try.prog 6 #[.agg #[.slice a1 n1 c1, .slice a2 n2 c2, .slice a3 n3 c3], .slice ak nk ck] w fun e w' => e = .returned (.bool true) ∧ Below w.heap.size w w' := by
  by_cases h : n1 ≤ 300 ∧ n2 ≤ 300 ∧ n3 ≤ 100
  · obtain ⟨h1, h2, h3⟩ := h
    obtain ⟨m, rfl, rfl, rfl, hR⟩ := hm h1 h2 h3
    have HB : Hid (Below w.heap.size w (w.alloc (.cells #[.slice a1 m.vol.length c1, .slice a2 m.per.length c2, .slice a3 m.pend.length c3] 25))) := (Below.refl _ _).alloc (Nat.le_refl _) _
    have HX : Hid (Bo (w.alloc (.cells #[.slice a1 m.vol.length c1, .slice a2 m.per.length c2, .slice a3 m.pend.length c3] 25)) w.heap.size (.slice a1 m.vol.length c1) (.slice a2 m.per.length c2) (.slice a3 m.pend.length c3)) := Bo.new w _ _ _
    have HR : Hid (RdM (w.alloc (.cells #[.slice a1 m.vol.length c1, .slice a2 m.per.length c2, .slice a3 m.pend.length c3] 25)) (.slice a1 m.vol.length c1) (.slice a2 m.per.length c2) (.slice a3 m.pend.length c3) m) := hR.below HB.out
    have hfew : fewB m.vol.length m.per.length m.pend.length = true := decide_eq_true ⟨h1, h2, h3⟩
    clear hR hm
    cases hok : ok m
    · go_enter Try.func6, Try.ntmps6
      go_wp2_with (first
        | (go_at_call 9; refine (awake_any _).mono ?_; rintro e w0 ⟨rfl, hb0⟩; have HX0 : Hid (Bo w0 _ _ _ _) := HX.out.below hb0; obtain ⟨⟨x0, x1, x2⟩, _⟩ := HX0.out.bx; have HB0 : Hid (Below w.heap.size w w0) := bstep HB.out hb0; have HR0 : Hid (RdM w0 _ _ _ m) := HR.out.below hb0)
        | (go_at_call 10; refine (few_any _ _ _ _ _ _ _ _ _ _).mono ?_; rintro e wf ⟨rfl, hbf⟩; have HXf : Hid (Bo wf _ _ _ _) := HX0.out.below hbf; obtain ⟨⟨y0, y1, y2⟩, _⟩ := HXf.out.bx)
        | (go_at_call 27; refine (check_any _ _ _ m _ (HR0.out.below hbf)).mono ?_; rintro e wc ⟨rfl, hbc⟩; obtain ⟨⟨z0, z1, z2⟩, _⟩ := (HXf.out.below hbc).bx))
      go_ret
      exact ⟨rfl, bstep (bstep HB0.out hbf) hbc⟩
    · by_cases hn : (nk : Int) ≤ 300
      · obtain ⟨keep, rfl, hK, hBd⟩ := hk (by omega)
        have HK : Hid (Rd (w.alloc (.cells #[.slice a1 m.vol.length c1, .slice a2 m.per.length c2, .slice a3 m.pend.length c3] 25)) (.slice ak keep.length ck) keep) := hK.below HB.out
        exact crash_b a1 a2 a3 ak c1 c2 c3 ck (m.vol.length / 8) keep w m HB HX HR HK hBd hfew h1 h2 h3 hn (ok_out hok) (by omega)
      · go_enter Try.func6, Try.ntmps6
        go_wp2_with (first
          | (go_at_call 9; refine (awake_any _).mono ?_; rintro e w0 ⟨rfl, hb0⟩; have HX0 : Hid (Bo w0 _ _ _ _) := HX.out.below hb0; obtain ⟨⟨x0, x1, x2⟩, _⟩ := HX0.out.bx; have HB0 : Hid (Below w.heap.size w w0) := bstep HB.out hb0; have HR0 : Hid (RdM w0 _ _ _ m) := HR.out.below hb0)
          | (go_at_call 10; refine (few_any _ _ _ _ _ _ _ _ _ _).mono ?_; rintro e wf ⟨rfl, hbf⟩; have HXf : Hid (Bo wf _ _ _ _) := HX0.out.below hbf; obtain ⟨⟨y0, y1, y2⟩, _⟩ := HXf.out.bx)
          | (go_at_call 27; refine (check_any _ _ _ m _ (HR0.out.below hbf)).mono ?_; rintro e wc ⟨rfl, hbc⟩; obtain ⟨⟨z0, z1, z2⟩, _⟩ := (HXf.out.below hbc).bx))
        go_ret
        exact ⟨rfl, bstep (bstep HB0.out hbf) hbc⟩
  · clear hm
    have HB : Hid (Below w.heap.size w (w.alloc (.cells #[.slice a1 n1 c1, .slice a2 n2 c2, .slice a3 n3 c3] 25))) := (Below.refl _ _).alloc (Nat.le_refl _) _
    have HX : Hid (Bo (w.alloc (.cells #[.slice a1 n1 c1, .slice a2 n2 c2, .slice a3 n3 c3] 25)) w.heap.size (.slice a1 n1 c1) (.slice a2 n2 c2) (.slice a3 n3 c3)) := Bo.new w _ _ _
    have hfew : fewB n1 n2 n3 = false := decide_eq_false h
    go_enter Try.func6, Try.ntmps6
    go_wp2_with (first
      | (go_at_call 9; refine (awake_any _).mono ?_; rintro e w0 ⟨rfl, hb0⟩; have HX0 := HX.out.below hb0; obtain ⟨⟨x0, x1, x2⟩, _⟩ := HX0.bx; have HB0 : Hid (Below w.heap.size w w0) := bstep HB.out hb0; clear HX0)
      | (go_at_call 10; refine (few_any _ _ _ _ _ _ _ _ _ _).mono ?_; rintro e wf ⟨rfl, hbf⟩))
    go_ret
    exact ⟨rfl, bstep HB0.out hbf⟩
end Go.Proofs.Ytmaeobdeddllaaa

