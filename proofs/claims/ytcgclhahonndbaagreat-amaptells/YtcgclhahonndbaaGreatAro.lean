/- Set over from a lower layer: Arj. · Set over from a lower layer: Aro. -/
import Derived.Test.YtcgclhahonndbaaGreatNNumz
import Derived.Test.YtcgclhahonndbaaGreatArc
import Derived.Test.YtcgclhahonndbaaGreatArf
import Derived.Test.YtcgclhahonndbaaGreatAri
import Derived.Test.YtcgclhahonndbaaGreatArnum
import Derived.Test.YtcgclhahonndbaaGreatBase
import Derived.Test.YtcgclhahonndbaaGreatRRech
import Derived.Test.YtcgclhahonndbaaGreatSSumz
import Derived.Test.YtcgclhahonndbaaGreatRKeywalkc
import Derived.Test.YtcgclhahonndbaaGreatAre
import Derived.Test.YtcgclhahonndbaaGreatFFastd
import Derived.Shelf.Abstract
namespace Go.Proofs.YtcgclhahonndbaaGreat
open Go.RowKit Go.Shelf
set_option linter.unusedVariables false
theorem head_at {P : List (Int × Value)} (h : (P.map Prod.fst).head? = some 1) : ∃ u, P[0]? = some (1, u) := by
  cases P with
  | nil => simp at h
  | cons p P =>
    obtain ⟨b, u⟩ := p
    simp at h
    subst h
    exact ⟨u, rfl⟩
theorem map_at {P : List (Int × Value)} {k : Nat} {b : Int} {u : Value} (h : P[k]? = some (b, u)) : (P.map Prod.fst)[k]? = some b := by rw [List.getElem?_map, h]; rfl
set_option maxRecDepth 100000 in
set_option maxHeartbeats 4000000 in
theorem soundLeaves_any (v : Value) (zs : List Int) (w : World) (hR : Rl w v zs) (hF : Fits zs) : Calls Tryz.prog 65 #[v] w fun e w' =>
    (∃ v' P, lvA zs = some (P.map Prod.fst) ∧ sndB zs = true ∧ e = .returned v' ∧ Lv zs w' w.heap.size v' P ∧ Below w.heap.size w w') ∨ (sndB zs = false ∧ e = .panicked [unS] ∧ Below w.heap.size w w') := by
  have HR : Hid (Rl w v zs) := hR
  have HF : Hid (Fits zs) := hF
  cases hL : lvA zs with
  | none =>
    have D : Hid (sndB zs = false) := show _ = _ by unfold sndB; rw [hL]
    have K22 : Hid (Calls Tryz.prog 68 #[v] w fun e w' => e = .panicked [unS] ∧ Below w.heap.size w w') := leavesOf_bad v zs w hR hL
    clear hR hF hL
    go_enter Tryz.func65, Tryz.ntmps65
    go_wp2_with (first
      | (go_at_call 68; refine K22.out.mono ?_; rintro e w1 ⟨rfl, hb1⟩))
    exact ⟨rfl, .inr ⟨D.out, rfl, hb1⟩⟩
  | some L =>
    have K22 : Hid (Calls Tryz.prog 68 #[v] w fun e w' => ∃ v' P, L = P.map Prod.fst ∧ e = .returned v' ∧ Lv zs w' w.heap.size v' P ∧ Below w.heap.size w w') := leavesOf_ok v zs w hR hL
    obtain ⟨hB, hnd, hok, hhd⟩ := lvA_out hL
    have HS : Hid (sndB zs = sdX zs L 0 []) := show _ = _ by rw [snd_of hL]; unfold sdX; rw [if_pos rfl]
    have HL : Hid (lvA zs = some L) := hL
    have Hlen : Hid (L.length ≤ 256) := lv_len hB hnd (fun b hb => (hok b hb).2.1)
    have Hok : Hid (∀ b ∈ L, b ≠ 0 ∧ rnE zs b = 0 ∧ (rnN zs b).lv = 0) := hok
    have Hhd : Hid (L.head? = some 1) := hhd
    have hL0 : L[0]? = some 1 := by rw [← List.head?_eq_getElem?]; exact hhd
    have hE1 := (hok 1 (List.mem_of_getElem? hL0)).2.1
    have hfst := sdX_first (s := []) hL0 hE1
    have Hfst : Hid (sdX zs L 0 [] = (decide ((rnN zs 1).lo = 0) && lfB (rcA zs) [] (plN (rnN zs 1).sl) && sdX zs L 1 [])) := hfst
    clear hR hF hL hnd hok hhd hB hL0 hfst
    by_cases hlo : (rnN zs 1).lo = 0
    · have Hlo : Hid ((rnN zs 1).lo = 0) := hlo
      have HL0 : Hid (L[0]? = some 1) := by have := Hhd.out; rw [List.head?_eq_getElem?] at this; exact this
      clear hlo hE1
      go_enter Tryz.func65, Tryz.ntmps65
      go_wp2_with (first
        | (go_at_call 68; refine K22.out.mono ?_; rintro e w1 ⟨v', P, hP, rfl, lv1, hb1⟩; subst hP; obtain ⟨u0, hu0⟩ := head_at Hhd.out; have LV : Hid (Lv zs w1 w.heap.size v' P) := lv1; have B1 : Hid (Below w.heap.size w w1) := hb1; obtain ⟨g0, off0, cp0, rfl, d0, d1, d2, d3, d4, d5⟩ := lv1.get hu0; have Hp : Hid (0 < P.length) := (List.getElem?_eq_some_iff.1 hu0).1; have hp1 : (0 : Int) < (P.length : Int) := (by have := Hp.out; omega); have hPl : P.length ≤ 256 := (by have := Hlen.out; rwa [List.length_map] at this); rw [Hlo.out, Nat.zero_mul, Nat.add_zero] at d3; clear d0 d1 d2 d4 d5 lv1 hu0 hb1)
        | (go_at_call 86; refine (demand_yes _).mono ?_; rintro e w2 ⟨rfl, hw⟩; rw [hw]; clear hw w2))
      clear d3 hp1
      go_loopw [4, 19] (fun o i wr => ∃ (k : Nat) (s : ByteArray), k ≤ P.length ∧ o = .string s ∧ i = .int .i64 k ∧ (k = 0 → s = ByteArray.empty) ∧ sdX zs (P.map Prod.fst) k s.toList = sndB zs ∧ Below w1.heap.size w1 wr) (fun _ i _ => P.length - (Go.RowKit.intOf i).toNat)
      case atStart => exact ⟨0, ByteArray.empty, Nat.zero_le _, rfl, rfl, fun _ => rfl, by rw [HS.out]; unfold sdX; rw [if_pos rfl, if_pos rfl], Below.refl _ _⟩
      case round =>
        obtain ⟨k, s, hk, rfl, rfl, hs0, hX, hbr⟩ := hrel
        have HX : Hid (sdX zs (P.map Prod.fst) k s.toList = sndB zs) := hX
        have Hs0 : Hid (k = 0 → s = ByteArray.empty) := hs0
        have HBr : Hid (Below w1.heap.size w1 wr) := hbr
        have HRr : Hid (Rl wr v zs) := (HR.out.below B1.out).below hbr
        have lvr := LV.out.below hbr
        clear hs0 hX hbr
        by_cases hlt : k < P.length
        · obtain ⟨⟨b, u⟩, hbu⟩ : ∃ q, P[k]? = some q := ⟨_, List.getElem?_eq_getElem hlt⟩
          have hu := lvr.rd (b, u) (List.mem_of_getElem? hbu)
          have hLb := map_at hbu
          have hE := (Hok.out b (List.mem_of_getElem? hLb)).2.1
          have hmay := (rn_may hE).2
          obtain ⟨g, off, c, hv0, d0, d1, d2, d3, d4, d5⟩ := lvr.get hbu
          cases hv0
          obtain ⟨n, hn⟩ : ∃ n, n = rnN zs b := ⟨_, rfl⟩
          dsimp only at hu
          rw [← hn] at hu d0 d1 d2 d3 hmay
          obtain ⟨ua, uc, rfl⟩ := hu.form
          have HN : Hid (n = rnN zs b) := hn
          have HE : Hid (rnE zs b = 0) := hE
          have Hb : Hid ((P.map Prod.fst)[k]? = some b) := hLb
          have HU : Hid (Rd wr (.slice ua n.sl.length uc) n.sl) := hu.rd (Nat.le_trans hmay.len (by omega))
          have Hsl : Hid (∀ y ∈ n.sl, 1 ≤ y ∧ y ≤ 255) := hmay.sl
          have Hz : Hid (0 ≤ n.lo ∧ n.lo ≤ 255) := ⟨hmay.w0, hmay.w9⟩
          have hltI : (k : Int) < (P.length : Int) := by omega
          clear hn hE hLb hu hmay hbu lvr
          by_cases hk0 : k = 0
          · have hb1' : b = 1 := by have := Hb.out; rw [hk0] at this; rw [HL0.out] at this; exact (Option.some.inj this).symm
            subst hk0
            have hn1 : n.lo = 0 := by rw [HN.out, hb1']; exact Hlo.out
            have HX0 : Hid (sndB zs = (lfB (rcA zs) [] (plN n.sl) && sdX zs (P.map Prod.fst) 1 [])) := show _ = _ by
              rw [HS.out, Hfst.out, HN.out, hb1']
              simp [Hlo.out]
            have K30 : Hid (∀ W, Rl W v zs → Calls Tryz.prog 87 #[v, .agg #[.int .i64 n.lv, .int .i64 n.tu, .int .i64 n.nx, .int .i64 n.lo, .slice ua n.sl.length uc]] W fun e w' => e = .returned (.string ByteArray.empty) ∧ Below W.heap.size W w') := by
              intro W h1
              have := lowOf_ok v (.slice ua n.sl.length uc) zs n W h1 HF.out (by omega) (.inl hn1) _ _ _ rfl
              rw [if_pos hn1] at this
              exact this
            obtain rfl := Hs0.out rfl
            rw [show off0 + 0 * 6 = off0 by omega] at d0 d1 d2 d3 d4 d5
            rw [show ((0 : Nat) : Int) = (0 : Int) from rfl] at hltI ⊢
            clear hb1' hn1
            cases hC : lfB (rcA zs) ByteArray.empty.toList (plN n.sl) with
            | true =>
              have HXn : Hid (sdX zs (P.map Prod.fst) (0 + 1) ByteArray.empty.toList = sndB zs) := show _ = _ by rw [HX0.out, no_list] at *; rw [hC, Bool.true_and]
              have K49 : Hid (∀ W, Rl W v zs → Rd W (.slice ua n.sl.length uc) n.sl → Calls Tryz.prog 88 #[v, .slice ua n.sl.length uc, .string ByteArray.empty] W fun e w' => e = .returned (.tuple #[]) ∧ Below W.heap.size W w') := fun W h1 h2 => checkKeys_ok v _ zs n.sl ByteArray.empty W h1 HF.out h2 Hsl.out hC
              clear hC
              go_wp2_with (first
                | (go_at_call 87; refine (K30.out _ (HRr.out.below (below_new wr (.cells #[.int .i64 n.lv, .int .i64 n.tu, .int .i64 n.nx, .int .i64 n.lo, .slice ua n.sl.length uc, .int .i64 b] 100)))).mono ?_; rintro e w3 ⟨rfl, hb3⟩; have X3 : Hid (Lb w3 wr.heap.size n.lv n.tu n.nx n.lo (.slice ua n.sl.length uc) b) := (lb_new wr n.lv n.tu n.nx n.lo b _).below hb3; have B3 : Hid (Below wr.heap.size wr w3) := bstep (below_new wr (.cells #[.int .i64 n.lv, .int .i64 n.tu, .int .i64 n.nx, .int .i64 n.lo, .slice ua n.sl.length uc, .int .i64 b] 100)) hb3; obtain ⟨c0, c1, c2, c3, c4, c5⟩ := X3.out.c; clear c0 c1 c2 c3 c5 hb3 d0 d1 d2 d3 d4 d5)
                | (go_at_call 86; refine (demand_yes _).mono ?_; rintro e w4 ⟨rfl, hw⟩; rw [hw]; clear hw w4)
                | (go_at_call 88; refine (K49.out _ (HRr.out.below B3.out) (HU.out.below B3.out)).mono ?_; rintro e w5 ⟨rfl, hb5⟩))
              go_roundw
              case rel => exact ⟨0 + 1, ByteArray.empty, by omega, rfl, by go_num, fun h => by omega, HXn.out, bstep HBr.out (bstep B3.out hb5)⟩
              case measure => simp [Go.RowKit.intOf]; omega
            | false =>
              have D : Hid (sndB zs = false) := show _ = _ by rw [HX0.out]; rw [no_list] at hC; rw [hC, Bool.false_and]
              have K49 : Hid (∀ W, Rl W v zs → Rd W (.slice ua n.sl.length uc) n.sl → Calls Tryz.prog 88 #[v, .slice ua n.sl.length uc, .string ByteArray.empty] W fun e w' => e = .panicked [unS] ∧ Below W.heap.size W w') := fun W h1 h2 => checkKeys_bad v _ zs n.sl ByteArray.empty W h1 HF.out h2 Hsl.out hC
              clear hC
              go_wp2_with (first
                | (go_at_call 87; refine (K30.out _ (HRr.out.below (below_new wr (.cells #[.int .i64 n.lv, .int .i64 n.tu, .int .i64 n.nx, .int .i64 n.lo, .slice ua n.sl.length uc, .int .i64 b] 100)))).mono ?_; rintro e w3 ⟨rfl, hb3⟩; have X3 : Hid (Lb w3 wr.heap.size n.lv n.tu n.nx n.lo (.slice ua n.sl.length uc) b) := (lb_new wr n.lv n.tu n.nx n.lo b _).below hb3; have B3 : Hid (Below wr.heap.size wr w3) := bstep (below_new wr (.cells #[.int .i64 n.lv, .int .i64 n.tu, .int .i64 n.nx, .int .i64 n.lo, .slice ua n.sl.length uc, .int .i64 b] 100)) hb3; obtain ⟨c0, c1, c2, c3, c4, c5⟩ := X3.out.c; clear c0 c1 c2 c3 c5 hb3 d0 d1 d2 d3 d4 d5)
                | (go_at_call 86; refine (demand_yes _).mono ?_; rintro e w4 ⟨rfl, hw⟩; rw [hw]; clear hw w4)
                | (go_at_call 88; refine (K49.out _ (HRr.out.below B3.out) (HU.out.below B3.out)).mono ?_; rintro e w5 ⟨rfl, hb5⟩))
              exact ⟨rfl, .inr ⟨D.out, rfl, bstep B1.out (bstep HBr.out (bstep B3.out hb5))⟩⟩
          · have hk0I : ((k : Int) == 0) = false := by simp [hk0]
            have Hk0 : Hid (¬ k = 0) := hk0
            clear hk0
            cases hK : lowK zs n with
            | false =>
              have D : Hid (sndB zs = false) := show _ = _ by rw [← HX.out]; exact sdX_low Hk0.out Hb.out HE.out (by rw [← HN.out]; exact hK)
              have hK2 : n.lo ≠ 0 ∧ RrdE zs n.lo ≠ 0 := by
                unfold lowK at hK
                simpa using hK
              have K30 : Hid (∀ W, Rl W v zs → Calls Tryz.prog 87 #[v, .agg #[.int .i64 n.lv, .int .i64 n.tu, .int .i64 n.nx, .int .i64 n.lo, .slice ua n.sl.length uc]] W fun e w' => e = .panicked [unS] ∧ Below W.heap.size W w') := fun W h1 => lowOf_bad v (.slice ua n.sl.length uc) zs n W h1 HF.out Hz.out hK2.1 hK2.2 _ _ _ rfl
              clear hK hK2
              go_wp2_with (first
                | (go_at_call 87; refine (K30.out _ (HRr.out.below (below_new wr (.cells #[.int .i64 n.lv, .int .i64 n.tu, .int .i64 n.nx, .int .i64 n.lo, .slice ua n.sl.length uc, .int .i64 b] 100)))).mono ?_; rintro e w3 ⟨rfl, hb3⟩; have B3 : Hid (Below wr.heap.size wr w3) := bstep (below_new wr (.cells #[.int .i64 n.lv, .int .i64 n.tu, .int .i64 n.nx, .int .i64 n.lo, .slice ua n.sl.length uc, .int .i64 b] 100)) hb3; clear hb3))
              exact ⟨rfl, .inr ⟨D.out, rfl, bstep B1.out (bstep HBr.out B3.out)⟩⟩
            | true =>
              have HX2 := sdX_next (s := s.toList) Hk0.out Hb.out HE.out (by rw [← HN.out]; exact hK)
              rw [HX.out, ← HN.out] at HX2
              have K30 : Hid (∀ W, Rl W v zs → Calls Tryz.prog 87 #[v, .agg #[.int .i64 n.lv, .int .i64 n.tu, .int .i64 n.nx, .int .i64 n.lo, .slice ua n.sl.length uc]] W fun e w' => e = .returned (.string (lowS zs n)) ∧ Below W.heap.size W w') := by
                intro W h1
                refine lowOf_ok v (.slice ua n.sl.length uc) zs n W h1 HF.out Hz.out ?_ _ _ _ rfl
                unfold lowK at hK
                simpa using hK
              generalize lowS zs n = low at *
              have HX2 : Hid (sndB zs = (Op.bytesLess s.toList low.toList && lfB (rcA zs) low.toList (plN n.sl) && sdX zs (P.map Prod.fst) (k + 1) low.toList)) := HX2
              have hgt := gt_bl low.toList s.toList
              clear hK
              cases h1 : Op.bytesLess low.toList s.toList with
              | false =>
                cases h2 : (low.toList == s.toList) with
                | false =>
                  rw [h1, h2] at hgt
                  have Hgt : Hid (Op.bytesLess s.toList low.toList = true) := hgt.symm
                  clear hgt
                  cases hC : lfB (rcA zs) low.toList (plN n.sl) with
                  | true =>
                    have HXn : Hid (sdX zs (P.map Prod.fst) (k + 1) low.toList = sndB zs) := show _ = _ by rw [HX2.out, Hgt.out, hC]; rfl
                    have K49 : Hid (∀ W, Rl W v zs → Rd W (.slice ua n.sl.length uc) n.sl → Calls Tryz.prog 88 #[v, .slice ua n.sl.length uc, .string low] W fun e w' => e = .returned (.tuple #[]) ∧ Below W.heap.size W w') := fun W h1 h2 => checkKeys_ok v _ zs n.sl low W h1 HF.out h2 Hsl.out hC
                    clear hC
                    go_wp2_with (first
                      | (go_at_call 87; refine (K30.out _ (HRr.out.below (below_new wr (.cells #[.int .i64 n.lv, .int .i64 n.tu, .int .i64 n.nx, .int .i64 n.lo, .slice ua n.sl.length uc, .int .i64 b] 100)))).mono ?_; rintro e w3 ⟨rfl, hb3⟩; have X3 : Hid (Lb w3 wr.heap.size n.lv n.tu n.nx n.lo (.slice ua n.sl.length uc) b) := (lb_new wr n.lv n.tu n.nx n.lo b _).below hb3; have B3 : Hid (Below wr.heap.size wr w3) := bstep (below_new wr (.cells #[.int .i64 n.lv, .int .i64 n.tu, .int .i64 n.nx, .int .i64 n.lo, .slice ua n.sl.length uc, .int .i64 b] 100)) hb3; obtain ⟨c0, c1, c2, c3, c4, c5⟩ := X3.out.c; clear c0 c1 c2 c3 c5 hb3 d0 d1 d2 d3 d4 d5)
                      | (go_at_call 86; refine (demand_yes _).mono ?_; rintro e w4 ⟨rfl, hw⟩; rw [hw]; clear hw w4)
                      | (go_at_call 88; refine (K49.out _ (HRr.out.below B3.out) (HU.out.below B3.out)).mono ?_; rintro e w5 ⟨rfl, hb5⟩))
                    go_roundw
                    case rel => exact ⟨k + 1, low, by omega, rfl, by go_num, fun h => by omega, HXn.out, bstep HBr.out (bstep B3.out hb5)⟩
                    case measure => simp [Go.RowKit.intOf]; omega
                  | false =>
                    have D : Hid (sndB zs = false) := show _ = _ by rw [HX2.out, hC]; simp
                    have K49 : Hid (∀ W, Rl W v zs → Rd W (.slice ua n.sl.length uc) n.sl → Calls Tryz.prog 88 #[v, .slice ua n.sl.length uc, .string low] W fun e w' => e = .panicked [unS] ∧ Below W.heap.size W w') := fun W h1 h2 => checkKeys_bad v _ zs n.sl low W h1 HF.out h2 Hsl.out hC
                    clear hC
                    go_wp2_with (first
                      | (go_at_call 87; refine (K30.out _ (HRr.out.below (below_new wr (.cells #[.int .i64 n.lv, .int .i64 n.tu, .int .i64 n.nx, .int .i64 n.lo, .slice ua n.sl.length uc, .int .i64 b] 100)))).mono ?_; rintro e w3 ⟨rfl, hb3⟩; have X3 : Hid (Lb w3 wr.heap.size n.lv n.tu n.nx n.lo (.slice ua n.sl.length uc) b) := (lb_new wr n.lv n.tu n.nx n.lo b _).below hb3; have B3 : Hid (Below wr.heap.size wr w3) := bstep (below_new wr (.cells #[.int .i64 n.lv, .int .i64 n.tu, .int .i64 n.nx, .int .i64 n.lo, .slice ua n.sl.length uc, .int .i64 b] 100)) hb3; obtain ⟨c0, c1, c2, c3, c4, c5⟩ := X3.out.c; clear c0 c1 c2 c3 c5 hb3 d0 d1 d2 d3 d4 d5)
                      | (go_at_call 86; refine (demand_yes _).mono ?_; rintro e w4 ⟨rfl, hw⟩; rw [hw]; clear hw w4)
                      | (go_at_call 88; refine (K49.out _ (HRr.out.below B3.out) (HU.out.below B3.out)).mono ?_; rintro e w5 ⟨rfl, hb5⟩))
                    exact ⟨rfl, .inr ⟨D.out, rfl, bstep B1.out (bstep HBr.out (bstep B3.out hb5))⟩⟩
                | true =>
                  rw [h1, h2] at hgt
                  have Hgt : Hid (Op.bytesLess s.toList low.toList = false) := hgt.symm
                  clear hgt
                  have D : Hid (sndB zs = false) := show _ = _ by rw [HX2.out, Hgt.out]; rfl
                  go_wp2_with (first
                    | (go_at_call 87; refine (K30.out _ (HRr.out.below (below_new wr (.cells #[.int .i64 n.lv, .int .i64 n.tu, .int .i64 n.nx, .int .i64 n.lo, .slice ua n.sl.length uc, .int .i64 b] 100)))).mono ?_; rintro e w3 ⟨rfl, hb3⟩; have X3 : Hid (Lb w3 wr.heap.size n.lv n.tu n.nx n.lo (.slice ua n.sl.length uc) b) := (lb_new wr n.lv n.tu n.nx n.lo b _).below hb3; have B3 : Hid (Below wr.heap.size wr w3) := bstep (below_new wr (.cells #[.int .i64 n.lv, .int .i64 n.tu, .int .i64 n.nx, .int .i64 n.lo, .slice ua n.sl.length uc, .int .i64 b] 100)) hb3; obtain ⟨c0, c1, c2, c3, c4, c5⟩ := X3.out.c; clear c0 c1 c2 c3 c5 hb3 d0 d1 d2 d3 d4 d5)
                    | (go_at_call 86; refine (demand_no _).mono ?_; rintro e w4 ⟨rfl, hw⟩; rw [hw]; clear hw w4))
                  exact ⟨rfl, .inr ⟨D.out, rfl, bstep B1.out (bstep HBr.out B3.out)⟩⟩
              | true =>
                rw [h1] at hgt
                have Hgt : Hid (Op.bytesLess s.toList low.toList = false) := hgt.symm
                clear hgt
                have D : Hid (sndB zs = false) := show _ = _ by rw [HX2.out, Hgt.out]; rfl
                go_wp2_with (first
                  | (go_at_call 87; refine (K30.out _ (HRr.out.below (below_new wr (.cells #[.int .i64 n.lv, .int .i64 n.tu, .int .i64 n.nx, .int .i64 n.lo, .slice ua n.sl.length uc, .int .i64 b] 100)))).mono ?_; rintro e w3 ⟨rfl, hb3⟩; have X3 : Hid (Lb w3 wr.heap.size n.lv n.tu n.nx n.lo (.slice ua n.sl.length uc) b) := (lb_new wr n.lv n.tu n.nx n.lo b _).below hb3; have B3 : Hid (Below wr.heap.size wr w3) := bstep (below_new wr (.cells #[.int .i64 n.lv, .int .i64 n.tu, .int .i64 n.nx, .int .i64 n.lo, .slice ua n.sl.length uc, .int .i64 b] 100)) hb3; obtain ⟨c0, c1, c2, c3, c4, c5⟩ := X3.out.c; clear c0 c1 c2 c3 c5 hb3 d0 d1 d2 d3 d4 d5)
                  | (go_at_call 86; refine (demand_no _).mono ?_; rintro e w4 ⟨rfl, hw⟩; rw [hw]; clear hw w4))
                exact ⟨rfl, .inr ⟨D.out, rfl, bstep B1.out (bstep HBr.out B3.out)⟩⟩
        · have hltI : ¬ (k : Int) < (P.length : Int) := by omega
          have D : Hid (sndB zs = true) := show _ = _ by rw [← HX.out]; exact sdX_end (by rw [List.length_map]; omega)
          have LVr : Hid (Lv zs wr w.heap.size (.slice (some ⟨g0, off0, none⟩) P.length cp0) P) := lvr
          clear lvr
          go_wp2
          exact bodyPost_ret (results_tmp rfl _ _ _) rfl (.inl ⟨.slice (some ⟨g0, off0, none⟩) P.length cp0, P, rfl, D.out, rfl, LVr.out, bstep B1.out HBr.out⟩)
    · have D : Hid (sndB zs = false) := show _ = _ by rw [HS.out, Hfst.out]; simp [hlo]
      obtain ⟨x, hx⟩ : ∃ x, x = (rnN zs 1).lo := ⟨_, rfl⟩
      rw [← hx] at hlo
      have Hx : Hid (x = (rnN zs 1).lo) := hx
      have hE : (x == 0) = false := by simp [hlo]
      clear hlo hx hE1
      go_enter Tryz.func65, Tryz.ntmps65
      go_wp2_with (first
        | (go_at_call 68; refine K22.out.mono ?_; rintro e w1 ⟨v', P, hP, rfl, lv1, hb1⟩; subst hP; obtain ⟨u0, hu0⟩ := head_at Hhd.out; obtain ⟨g, off, c, rfl, d0, d1, d2, d3, d4, d5⟩ := lv1.get hu0; have Hp : Hid (0 < P.length) := (List.getElem?_eq_some_iff.1 hu0).1; have hp1 : (0 : Int) < (P.length : Int) := (by have := Hp.out; omega); rw [← Hx.out, Nat.zero_mul, Nat.add_zero] at d3; clear d0 d1 d2 d4 d5 lv1 hu0)
        | (go_at_call 86; refine (demand_no _).mono ?_; rintro e w2 ⟨rfl, hw⟩; rw [hw]; clear hw w2))
      exact ⟨rfl, .inr ⟨D.out, rfl, hb1⟩⟩
end Go.Proofs.YtcgclhahonndbaaGreat
namespace Go.Proofs.YtcgclhahonndbaaGreat
open Go.RowKit Go.Shelf
set_option linter.unusedVariables false
/-- What the first block and the leaves reach. -/
def lfL (zs : List Int) (L : List Int) : List Int := L.flatMap (fun b => rcN (rnN zs b) b)
theorem soundLeaves_ok {L : List Int} (v : Value) (zs : List Int) (w : World) (hR : Rl w v zs) (hF : Fits zs) (h : sndB zs = true) (hL : lvA zs = some L) : Calls Tryz.prog 65 #[v] w fun e w' => ∃ v' P, L = P.map Prod.fst ∧ e = .returned v' ∧ Lv zs w' w.heap.size v' P ∧ Below w.heap.size w w' := by
  refine (soundLeaves_any v zs w hR hF).mono ?_
  rintro e w' (⟨v', P, h1, h2, h3, h4⟩ | ⟨h1, _⟩)
  · rw [hL] at h1
    exact ⟨v', P, Option.some.inj h1, h3, h4⟩
  · rw [h] at h1
    cases h1
theorem soundLeaves_bad (v : Value) (zs : List Int) (w : World) (hR : Rl w v zs) (hF : Fits zs) (h : sndB zs = false) : Calls Tryz.prog 65 #[v] w fun e w' => e = .panicked [unS] ∧ Below w.heap.size w w' := by
  refine (soundLeaves_any v zs w hR hF).mono ?_
  rintro e w' (⟨v', P, h1, h2, h3, h4⟩ | ⟨h1, h2, h3⟩)
  · rw [h] at h2
    cases h2
  · exact ⟨h2, h3⟩
theorem snd_leaves {zs : List Int} (h : sndB zs = true) : ∃ L, lvA zs = some L := by
  unfold sndB at h
  split at h
  · cases h
  · exact ⟨_, by assumption⟩
end Go.Proofs.YtcgclhahonndbaaGreat
