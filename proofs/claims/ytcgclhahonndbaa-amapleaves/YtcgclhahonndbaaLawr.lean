/- Layer 12: the walk of AmapRises. -/
import Derived.Test.YtcgclhahonndbaaLawt
import Derived.Test.YtcgclhahonndbaaPoh
namespace Go.Proofs.Ytcgclhahonndbaa
open Go.RowKit Go.Shelf Classical
set_option linter.unusedVariables false

theorem ri_get2 {l : List Pa} (h : Ri l) {m : Nat} {x y : Pa} (hy : l[m]? = some y) (hx : l[m + 1]? = some x) : tL y.k x.k = true := by
  obtain ⟨q1, rfl⟩ := List.getElem?_eq_some_iff.1 hx
  obtain ⟨q2, rfl⟩ := List.getElem?_eq_some_iff.1 hy
  exact List.pairwise_iff_getElem.1 h m (m + 1) q2 q1 (Nat.lt_succ_self _)

set_option maxRecDepth 100000 in
set_option maxHeartbeats 4000000 in
theorem walk_AmapRises (a1 : Option Addr) (len1 cap1 : Nat) (w : World) (h1 : RowIn w a1 len1 cap1) : Calls Try.prog 3 #[.slice a1 len1 cap1] w fun e w' => e = .returned (.bool true) ∧ Below w.heap.size w w' := by
  by_cases g1 : (len1 : Int) > 1000
  · clear h1
    go_enter Try.func3, Try.ntmps3
    go_wp2_with (go_at_call 7; refine (awake_any _).mono ?_; rintro e w1 ⟨rfl, hb1⟩)
    go_ret
    exact ⟨ret_bool rfl, hb1⟩
  obtain ⟨zs, rfl, R1, F1⟩ := h1 (by omega)
  have F1 : Fits zs := F1
  have HR : Hid (Rl w (.slice a1 zs.length cap1) zs) := R1
  clear h1 R1
  have K9 : Hid (∀ v W, Rl W v zs → Calls Try.prog 9 #[v] W fun e w' => e = .returned (.int .i64 (chE zs)) ∧ Below W.heap.size W w') := fun v W h => check_any v zs W h F1
  have K8 : Hid (∀ v W, Rl W v zs → Calls Try.prog 8 #[v] W fun e w' => ∃ v', e = .returned (.tuple #[v', .int .i64 (chE zs)]) ∧ OwnP w' W.heap.size v' ((slL zs).flatMap (ownL zs)) ∧ Below W.heap.size W w') := fun v W h => pairs_any v zs W h F1
  cases hs : sndB zs with
  | false =>
    have Hc : Hid (chE zs = 110) := by (show _ = _; unfold chE; rw [hs]; rfl)
    have hn : (slL zs).flatMap (ownL zs) = [] := by unfold slL; rw [hs]; rfl
    rw [Hc.out] at K8 K9
    rw [hn] at K8
    clear hn hs F1
    go_enter Try.func3, Try.ntmps3
    go_wp2_with (first
      | (go_at_call 7; refine (awake_any _).mono ?_; rintro e w1 ⟨rfl, hb1⟩; have B1 : Hid (Below w.heap.size w w1) := hb1; clear hb1)
      | (go_at_call 8; refine (K8.out _ _ (HR.out.below B1.out)).mono ?_; rintro e w2 ⟨v2, rfl, o2, hb2⟩; obtain ⟨a2, c2, rfl⟩ := o2.some'; have B2 : Hid (Below w.heap.size w w2) := bstep B1.out hb2; clear o2 hb2)
      | (go_at_call 9; refine (K9.out _ _ (HR.out.below B2.out)).mono ?_; rintro e w3 ⟨rfl, hb3⟩; have B3 : Hid (Below w.heap.size w w3) := bstep B2.out hb3; clear hb3))
    go_ret
    exact ⟨ret_bool rfl, B3.out⟩
  | true =>
    obtain ⟨L, hL⟩ := snd_leaves hs
    have hLv : lvL zs = L := by unfold lvL; rw [hL]; rfl
    have hsl : slL zs = L := by unfold slL; rw [hs, hLv]; rfl
    have Hc : Hid (chE zs = 0) := by (show _ = _; unfold chE; rw [hs]; rfl)
    have hl62 := lv_few hL (by omega)
    have hfl := flat_len zs L
    have hri := flat_ri hL hs
    have K10 : Hid (∀ v W, Rl W v zs → Calls Try.prog 10 #[v] W fun e w' => ∃ v', e = .returned (.tuple #[v', .int .i64 0]) ∧ Rd w' v' L ∧ Below W.heap.size W w') := fun v W h => by
      have k := leaves_any v zs W h
      rw [hLv, show lvE zs = 0 by unfold lvE; rw [hL]] at k
      exact k.mono fun e w' ⟨v', h1, h2, h3⟩ => ⟨v', h1, h2.rd (by omega), h3⟩
    have K11 : Hid (∀ b v W, b ∈ L → Rl W v zs → Calls Try.prog 11 #[v, .int .i64 b] W fun e w' => ∃ v', e = .returned (.tuple #[v', .int .i64 0]) ∧ RdP w' v' (ownL zs b) ∧ Below W.heap.size W w') := fun b v W hb h => by
      have k := owns_any v zs b W h F1
      rw [show owE zs b = 0 by unfold owE; rw [hs, hLv, if_pos rfl, if_pos hb], show owL zs b = ownL zs b by unfold owL; rw [hs, hLv, if_pos ⟨rfl, hb⟩]] at k
      exact k.mono fun e w' ⟨v', h1, h2, h3⟩ => ⟨v', h1, h2.rd (by have := ownL_len zs b; omega), h3⟩
    have K12 : Hid (∀ b v W, Rl W v zs → Calls Try.prog 12 #[v, .int .i64 b] W fun e w' => e = .returned (.tuple #[.string (loS zs b), .int .i64 (loE zs b)]) ∧ Below W.heap.size W w') := fun b v W h => low_any v zs b W h F1
    have HLow : Hid (∀ (i : Nat) b, L[i]? = some b → ∀ p ∈ ownL zs b, tL p.k (loS zs b) = false) := fun i b hb => own_low hL hs hb
    have HF : Hid (∀ (k : Nat) b, L[k]? = some b → (L.take (k + 1)).flatMap (ownL zs) = (L.take k).flatMap (ownL zs) ++ ownL zs b) := fun k b hb => flat_next zs hb
    have HT : Hid (∀ k : Nat, L.length ≤ k → (L.take k).flatMap (ownL zs) = L.flatMap (ownL zs)) := fun k hk => by rw [List.take_of_length_le hk]
    have HLn : Hid (∀ k : Nat, ((L.take k).flatMap (ownL zs)).length ≤ 806) := fun k => by
      have := flat_len zs (L.take k)
      rw [List.length_take] at this
      omega
    rw [Hc.out, hsl] at K8
    obtain ⟨A, hA⟩ : ∃ A, A = L.flatMap (ownL zs) := ⟨_, rfl⟩
    rw [← hA] at K8 hfl hri HT
    have HRi : Hid (Ri A) := hri
    have hA9 : A.length ≤ 806 := by omega
    clear hri hs hL hLv hsl F1 hA hfl
    go_enter Try.func3, Try.ntmps3
    go_wp2_with (first
      | (go_at_call 7; refine (awake_any _).mono ?_; rintro e w1 ⟨rfl, hb1⟩; have B1 : Hid (Below w.heap.size w w1) := hb1; clear hb1)
      | (go_at_call 8; refine (K8.out _ _ (HR.out.below B1.out)).mono ?_; rintro e w2 ⟨v2, rfl, o2, hb2⟩; have r2 := o2.rd (by omega); obtain ⟨_, a2, c2, rfl, _⟩ := r2.form; have R2 : Hid (RdP w2 (.slice a2 A.length c2) A) := r2; have B2 : Hid (Below w.heap.size w w2) := bstep B1.out hb2; clear o2 hb2 r2)
      | (go_at_call 10; refine (K10.out _ _ (HR.out.below B2.out)).mono ?_; rintro e w3 ⟨v3, rfl, r3, hb3⟩; obtain ⟨_, a3, c3, rfl⟩ := r3.form; have R3 : Hid (Rd w3 (.slice a3 L.length c3) L) := r3; have H3 : Hid (Below w2.heap.size w2 w3) := hb3; have B3 : Hid (Below w.heap.size w w3) := bstep B2.out hb3; clear r3 hb3))
    go_loopw [8, 9] (fun u i wr => ∃ (k : Nat) (o : Value), k ≤ L.length ∧ o = u ∧ i = .int .i64 k ∧ OwnP wr w3.heap.size o ((L.take k).flatMap (ownL zs)) ∧ Below w3.heap.size w3 wr) (fun _ i _ => L.length - (Go.RowKit.intOf i).toNat)
    case atStart => exact ⟨0, _, Nat.zero_le _, rfl, rfl, OwnP.bare _ _, Below.refl _ _⟩
    case round =>
      obtain ⟨k, o, hk, rfl, rfl, hown, hbel⟩ := hrel
      have HO : Hid (OwnP wr w3.heap.size o ((L.take k).flatMap (ownL zs))) := hown
      have HB : Hid (Below w3.heap.size w3 wr) := hbel
      clear hown hbel
      by_cases hlt : k < L.length
      · have hltI : (k : Int) < (L.length : Int) := by omega
        obtain ⟨b, hb⟩ : ∃ b, L[k]? = some b := ⟨_, List.getElem?_eq_getElem hlt⟩
        obtain ⟨bb, off, e2, hcell⟩ := (R3.out.below HB.out).at k hlt
        have hs2 : L[k] = b := by rw [List.getElem?_eq_getElem hlt] at hb; exact Option.some.inj hb
        rw [hs2] at hcell
        cases e2
        have hbL := List.mem_of_getElem? hb
        have Hn : Hid ((L.take (k + 1)).flatMap (ownL zs) = (L.take k).flatMap (ownL zs) ++ ownL zs b) := HF.out k b hb
        have C11 : Hid (∀ v W, Rl W v zs → Calls Try.prog 11 #[v, .int .i64 b] W fun e w' => ∃ v', e = .returned (.tuple #[v', .int .i64 0]) ∧ RdP w' v' (ownL zs b) ∧ Below W.heap.size W w') := fun v W h => K11.out b v W hbL h
        have C12 : Hid (∀ v W, Rl W v zs → Calls Try.prog 12 #[v, .int .i64 b] W fun e w' => e = .returned (.tuple #[.string (loS zs b), .int .i64 (loE zs b)]) ∧ Below W.heap.size W w') := fun v W h => K12.out b v W h
        have hlo := HLow.out k b hb
        have hP9 := HLn.out k
        have hB9 := ownL_len zs b
        have HRr : Hid (Rl wr (.slice a1 zs.length cap1) zs) := HR.out.below (bstep B3.out HB.out)
        clear hb hs2 hbL
        generalize hPe : (L.take k).flatMap (ownL zs) = P at *
        generalize ownL zs b = D at *
        generalize loS zs b = lo at *
        generalize loE zs b = le at *
        clear hPe
        cases D with
        | nil =>
          clear hlo
          go_wp2_with (first
            | (go_at_call 11; refine (C11.out _ _ HRr.out).mono ?_; rintro e w4 ⟨v4, rfl, r4, hb4⟩; obtain ⟨_, a4, c4, rfl, _⟩ := r4.form; have R4 : Hid (RdP w4 (.slice a4 0 c4) []) := r4; have H4 : Hid (Below wr.heap.size wr w4) := hb4; have hcell4 := (hb4.cell (p := ⟨bb, off + k, none⟩) (World.block_lt_of_cell? _ _ hcell)).trans hcell; clear r4 hb4)
            | (go_at_call 12; refine (C12.out _ _ (HRr.out.below H4.out)).mono ?_; rintro e w5 ⟨rfl, hb5⟩; have H5 : Hid (Below wr.heap.size wr w5) := bstep H4.out hb5; have R5 : Hid (RdP w5 (.slice a4 0 c4) []) := R4.out.below hb5; clear hb5)
            | (at_builtin; refine append_rdc rfl _ _ 24 rfl w3.heap.size 35 2 _ 32 Try.underlying24 Try.info35 rfl (by decide) (by decide) _ _ _ rfl (HO.out.below H5.out) _ 0 (pcs []) rfl R5.out (pcs_one []) (by omega) (by have := HB.out.size; have := H5.out.size; omega) ?_; intro v6 w6 o6 g6; have B6 : Hid (Below w3.heap.size w3 w6) := (bstep HB.out H5.out).grown g6 (by have := HB.out.size; have := H5.out.size; omega) (fun q hq => (World.ownsRow.lt HO.out q hq).1); have O6 : Hid (OwnP w6 w3.heap.size v6 ((L.take (k + 1)).flatMap (ownL zs))) := (by rw [Hn.out]; unfold OwnP; rw [List.length_append, pcs_append]; exact o6); clear o6 g6))
          go_roundw
          case rel => exact ⟨k + 1, _, by omega, rfl, by go_num, O6.out, B6.out⟩
          case measure => simp [Go.RowKit.intOf]; omega
        | cons p D =>
          have hlp := hlo p (.head _)
          unfold tL at hlp
          have hDI : (0 : Int) < ((p :: D).length : Int) := by rw [List.length_cons]; omega
          clear hlo
          generalize hDD : p :: D = DD at *
          have hp0 : DD[0]? = some p := by rw [← hDD]; rfl
          have Hp0 : Hid (DD[0]? = some p) := hp0
          clear hDD hp0
          go_wp2_with (first
            | (go_at_call 11; refine (C11.out _ _ HRr.out).mono ?_; rintro e w4 ⟨v4, rfl, r4, hb4⟩; obtain ⟨_, a4, c4, rfl, _⟩ := r4.form; have R4 : Hid (RdP w4 (.slice a4 DD.length c4) DD) := r4; have H4 : Hid (Below wr.heap.size wr w4) := hb4; have hcell4 := (hb4.cell (p := ⟨bb, off + k, none⟩) (World.block_lt_of_cell? _ _ hcell)).trans hcell; clear r4 hb4)
            | (go_at_call 12; refine (C12.out _ _ (HRr.out.below H4.out)).mono ?_; rintro e w5 ⟨rfl, hb5⟩; have H5 : Hid (Below wr.heap.size wr w5) := bstep H4.out hb5; have r5 := R4.out.below hb5; obtain ⟨b5, f5, rfl, p0, _⟩ := r5.get Hp0.out; have R5 : Hid (RdP w5 (.slice (some ⟨b5, f5, none⟩) DD.length c4) DD) := r5; rw [Nat.zero_mul, Nat.add_zero] at p0; clear hb5 r5)
            | (at_builtin; refine append_rdc rfl _ _ 24 rfl w3.heap.size 35 2 _ 32 Try.underlying24 Try.info35 rfl (by decide) (by decide) _ _ _ rfl (HO.out.below H5.out) _ DD.length (pcs DD) rfl R5.out (pcs_one DD) (by omega) (by have := HB.out.size; have := H5.out.size; omega) ?_; intro v6 w6 o6 g6; have B6 : Hid (Below w3.heap.size w3 w6) := (bstep HB.out H5.out).grown g6 (by have := HB.out.size; have := H5.out.size; omega) (fun q hq => (World.ownsRow.lt HO.out q hq).1); have O6 : Hid (OwnP w6 w3.heap.size v6 ((L.take (k + 1)).flatMap (ownL zs))) := (by rw [Hn.out]; unfold OwnP; rw [List.length_append, pcs_append]; exact o6); clear o6 g6))
          go_roundw
          case rel => exact ⟨k + 1, _, by omega, rfl, by go_num, O6.out, B6.out⟩
          case measure => simp [Go.RowKit.intOf]; omega
      · have hge : ¬ (k : Int) < (L.length : Int) := by omega
        have hall := HT.out k (by omega)
        have HA : Hid (OwnP wr w3.heap.size o A) := by have := HO.out; rwa [hall] at this
        obtain ⟨w10, hw10⟩ : ∃ w10, w10 = wr := ⟨_, rfl⟩
        subst hw10
        have RP : Hid (RdP w10 o A) := HA.out.rd (by omega)
        have RA : Hid (RdP w10 (.slice a2 A.length c2) A) := R2.out.below (bstep H3.out HB.out)
        have Bw : Hid (Below w.heap.size w w10) := bstep B3.out HB.out
        have KS : Hid (∀ u v W, RdP W u A → RdP W v A → Calls Try.prog 13 #[u, v] W fun e w' => e = .returned (.bool true) ∧ Below W.heap.size W w') := fun u v W h1 h2 => (sameP_any _ _ _ _ _ h1 h2).mono fun e w' ⟨q1, q2⟩ => ⟨by rw [q1, decide_eq_true rfl], q2⟩
        clear hall HO HA
        go_wp2
        go_loopw [14] (fun i w12 => ∃ j : Nat, j ≤ A.length ∧ i = .int .i64 ((j : Int) + 1) ∧ Below w10.heap.size w10 w12) (fun i _ => A.length + 1 - (Go.RowKit.intOf i).toNat)
        case atStart => exact ⟨0, Nat.zero_le _, rfl, Below.refl _ _⟩
        case round =>
          obtain ⟨j, hj, rfl, hbel⟩ := hrel
          have HB2 : Hid (Below w10.heap.size w10 wr) := hbel
          clear hbel
          by_cases hlt2 : j + 1 < A.length
          · have hlt2I : (j : Int) + 1 < (A.length : Int) := by omega
            obtain ⟨x, hx⟩ : ∃ x, A[j + 1]? = some x := ⟨_, List.getElem?_eq_getElem hlt2⟩
            obtain ⟨y, hy⟩ : ∃ y, A[j]? = some y := ⟨_, List.getElem?_eq_getElem (by omega)⟩
            obtain ⟨bb, off, rfl, x0c, _⟩ := (RA.out.below HB2.out).get hx
            obtain ⟨b2, off2, e2, y0c, _⟩ := (RA.out.below HB2.out).get hy
            cases e2
            obtain ⟨e7, e8⟩ := tL_le (ri_get2 HRi.out hy hx)
            clear hx hy
            go_wp2
            go_quiet (fail)
            go_wp2
            go_roundw
            case rel => exact ⟨j + 1, by omega, by go_num, below_drewN HB2.out _⟩
            case measure => simp [Go.RowKit.intOf]; omega
          · have hge2 : ¬ (j : Int) + 1 < (A.length : Int) := by omega
            go_wp2_with (first
              | (go_at_call 13; refine (KS.out _ _ _ (RA.out.below HB2.out) (RP.out.below HB2.out)).mono ?_; rintro e w20 ⟨rfl, hb20⟩))
            go_ret
            exact ⟨ret_bool rfl, bstep Bw.out (bstep HB2.out hb20)⟩
end Go.Proofs.Ytcgclhahonndbaa
