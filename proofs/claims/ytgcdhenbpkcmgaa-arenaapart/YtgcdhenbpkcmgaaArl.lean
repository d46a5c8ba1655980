/- Layer 11: the nodes above the leaves, gone through. -/
import Derived.Test.YtgcdhenbpkcmgaaArk
namespace Go.Proofs.Ytgcdhenbpkcmgaa
open Go.RowKit Go.Shelf
set_option linter.unusedVariables false

theorem rcN_bd {n : Nd} {x : Int} (hx : 0 ≤ x ∧ x ≤ 255) (hlo : 0 ≤ n.lo ∧ n.lo ≤ 255) (hsl : ∀ y ∈ n.sl, 1 ≤ y ∧ y ≤ 255) : ∀ y ∈ rcN n x, 0 ≤ y ∧ y ≤ 255 := by
  intro y hy
  unfold rcN at hy
  rw [List.mem_cons, List.mem_append] at hy
  rcases hy with rfl | hy | hy
  · exact hx
  · split at hy
    · cases hy
    · rw [List.mem_singleton] at hy
      subst hy
      exact hlo
  · have := hsl y hy
    omega
/-- A node was reached: what this leaves. -/
theorem DS.start {zs : List Int} {b c : Nat} {w W1 W2 W3 : World} {lR lT : List Int} {blk : Int} (hB : rdB zs = true) (hbc : b ≠ c) (h1 : St w b lR) (h2 : St w c lT) (hn : lT.Nodup) (ho : ∀ y ∈ lT, rnE zs y = 0) (hE : rnE zs blk = 0) (hin : blk ∉ lT)
    (hb : Below w.heap.size w W1) (t2 : Tn c c W1 W2) (s2 : St W2 c (lT ++ [blk])) (t3 : Tn b b W2 W3) (s3 : St W3 b (lR ++ rcN (rnN zs blk) blk)) : DS zs b c w W3 lR lT (rcN (rnN zs blk) blk) [blk] := by
  have hm := (rn_may hE).2
  refine ⟨s3, s2.tn t3 hbc.symm hbc.symm, ?_, ?_, rcN_len hm.len blk, rcN_bd (blk_bd hB hE) ⟨hm.w0, hm.w9⟩ hm.sl, (Tn.of_below hb).trans (t2.wide.swap.trans t3.wide)⟩
  · rw [List.nodup_append]
    exact ⟨hn, by simp, fun a ha b hb => by rw [List.mem_singleton] at hb; subst hb; exact fun e => hin (e ▸ ha)⟩
  · intro y hy
    rw [List.mem_append, List.mem_singleton] at hy
    rcases hy with hy | rfl
    · exact ho y hy
    · exact hE

set_option maxRecDepth 100000 in
set_option maxHeartbeats 8000000 in
/-- A way that goes on: behind it by what holds of shorter ones. -/
theorem down_in (zs : List Int) (va : Option Addr) (vl vc : Nat) (b c : Nat) (m : Nat) (ih : DnP zs (.slice va vl vc) b c m) (hbc : b ≠ c) (hF : Fits zs) (lR lT : List Int) (blk lvl : Int) (w : World) (hR : Rl w (.slice va vl vc) zs) (hB : rdB zs = true) (h1 : St w b lR) (h2 : St w c lT) (hn : lT.Nodup) (ho : ∀ y ∈ lT, rnE zs y = 0)
    (hlen : lR.length ≤ 15 * lT.length + 5000) (hm : 256 - lT.length ≤ m + 1) (hl : lvl ≠ 0) (hE : rnE zs blk = 0) (hlv : (rnN zs blk).lv = lvl) (hin : blk ∉ lT) :
    Calls Try.prog 43 #[.agg #[.slice va vl vc, .map (some b), .map (some c)], .int .i64 blk, .int .i64 lvl] w fun e w' => e = .returned (.tuple #[]) ∧ ∃ lR2 lT2, DS zs b c w w' lR lT lR2 lT2 := by
  have k17 := fun W (hW : Rl W (.slice va vl vc) zs) => read_any (.slice va vl vc) zs blk W hW
  rw [hE] at k17
  have K17 : Hid (∀ W (hW : Rl W (.slice va vl vc) zs), Calls Try.prog 17 #[.slice va vl vc, .int .i64 blk] W fun e w' => ∃ v', e = .returned (.tuple #[.agg #[.int .i64 (rnN zs blk).lv, .int .i64 (rnN zs blk).tu, .int .i64 (rnN zs blk).nx, .int .i64 (rnN zs blk).lo, v'], .int .i64 0]) ∧ OwnI w' W.heap.size v' (rnN zs blk).sl ∧ Below W.heap.size W w') := k17
  have HR : Hid (Rl w (.slice va vl vc) zs) := hR
  have HB : Hid (rdB zs = true) := hB
  have HF : Hid (Fits zs) := hF
  have Hbc : Hid (b ≠ c) := hbc
  have T0 : Hid (Tb (w.alloc (.cells #[.slice va vl vc, .map (some b), .map (some c)] 79)) w.heap.size (.slice va vl vc) b c) := tb_new w _ b c
  have B0 : Hid (Below w.heap.size w (w.alloc (.cells #[.slice va vl vc, .map (some b), .map (some c)] 79))) := (Below.refl _ _).alloc (Nat.le_refl _) _
  have H1 : Hid (St w b lR) := h1
  have H2 : Hid (St w c lT) := h2
  have Hn : Hid (lT.Nodup) := hn
  have Ho : Hid (∀ y ∈ lT, rnE zs y = 0) := ho
  have Hin : Hid (blk ∉ lT) := hin
  have Hlen : Hid (lR.length ≤ 15 * lT.length + 5000 ∧ 256 - lT.length ≤ m + 1 ∧ lT.length ≤ 256) := ⟨hlen, hm, lv_len hB hn ho⟩
  have IH : Hid (DnP zs (.slice va vl vc) b c m) := ih
  have HE : Hid (rnE zs blk = 0) := hE
  have hbd := blk_bd hB hE
  have Hb : Hid (-9223372036854775808 ≤ blk ∧ blk < 9223372036854775808) := show _ ∧ _ by omega
  have Hbd : Hid (0 ≤ blk ∧ blk ≤ 255) := hbd
  have hmay := (rn_may hE).2
  have Hsl : Hid (∀ y ∈ (rnN zs blk).sl, 1 ≤ y ∧ y ≤ 255) := hmay.sl
  have Hz : Hid ((0 ≤ (rnN zs blk).lo ∧ (rnN zs blk).lo ≤ 255) ∧ (rnN zs blk).sl.length ≤ 13) := ⟨⟨hmay.w0, hmay.w9⟩, hmay.len⟩
  have hd : decide (blk ∈ lT) = false := decide_eq_false hin
  have hlE : (lvl == 0) = false := by simp [hl]
  have hl0 : 0 ≤ lvl := by rw [← hlv]; exact hmay.l0
  have hl9 : lvl ≤ 9 := by rw [← hlv]; exact hmay.l9
  obtain ⟨n, hn'⟩ : ∃ n, n = rnN zs blk := ⟨_, rfl⟩
  have HN : Hid (n = rnN zs blk) := hn'
  rw [← hn'] at K17 Hsl Hz hlv
  have hnx : Hid (0 ≤ n.nx ∧ n.nx ≤ 255) := by rw [hn']; exact ⟨hmay.x0, hmay.x9⟩
  clear k17 h1 h2 hn ho hR hB hF hbc hin hlen hm ih hE hbd hmay hn' hl
  obtain ⟨lv, tu, nx, lo, sl⟩ := n
  dsimp only at *
  subst hlv
  go_enter Try.func43, Try.ntmps43
  go_wp2_with (first
    | (go_at_call 17; refine (K17.out _ (HR.out.below B0.out)).mono ?_; rintro e w1 ⟨v1, rfl, r1, hb1⟩; obtain ⟨a1, c1, rfl⟩ := r1.form; have B2 : Hid (Below w.heap.size w (w1.alloc (.cells #[.int .i64 lv, .int .i64 tu, .int .i64 nx, .int .i64 lo, .slice a1 sl.length c1] 37))) := (bstep B0.out hb1).alloc (bstep B0.out hb1).size _; have T2 : Hid (Tb (w1.alloc (.cells #[.int .i64 lv, .int .i64 tu, .int .i64 nx, .int .i64 lo, .slice a1 sl.length c1] 37)) w.heap.size (.slice va vl vc) b c) := (T0.out.below hb1).below ((Below.refl _ _).alloc (Nat.le_refl _) _); have X2 : Hid (Nb (w1.alloc (.cells #[.int .i64 lv, .int .i64 tu, .int .i64 nx, .int .i64 lo, .slice a1 sl.length c1] 37)) w1.heap.size lv tu nx lo (.slice a1 sl.length c1)) := nb_new w1 lv tu nx lo _; have O2 : Hid (Rd (w1.alloc (.cells #[.int .i64 lv, .int .i64 tu, .int .i64 nx, .int .i64 lo, .slice a1 sl.length c1] 37)) (.slice a1 sl.length c1) sl) := (r1.rd (Nat.le_trans Hz.out.2 (by omega))).below ((Below.refl _ _).alloc (Nat.le_refl _) _); obtain ⟨e0, e1, e2⟩ := T2.out.c; obtain ⟨d0, d1, d2, d3, d4⟩ := X2.out.c; clear e0 e1 d1 d2 d3 d4 r1 hb1)
    | (go_at_call 40; refine (has_any c lT blk _ (H2.out.below B2.out) Hb.out).mono ?_; rintro e w3 ⟨rfl, hb3⟩; rw [hd]; have B3 : Hid (Below w.heap.size w w3) := bstep B2.out hb3; have T3 : Hid (Tb w3 w.heap.size (.slice va vl vc) b c) := T2.out.below hb3; have X3 : Hid (Nb w3 w1.heap.size lv tu nx lo (.slice a1 sl.length c1)) := X2.out.below hb3; have O3 : Hid (Rd w3 (.slice a1 sl.length c1) sl) := O2.out.below hb3; clear e2 d0 hb3; obtain ⟨e0, e1, e2⟩ := T3.out.c; clear e0 e1)
    | (go_at_call 41; refine (put_any c c lT blk _ (H2.out.below B3.out) (by have := Hlen.out; omega) Hb.out).mono ?_; rintro e w4 ⟨rfl, s4, tn4⟩; have M3 := (H2.out.below B3.out).ma; have S4 : Hid (St w4 c (lT ++ [blk])) := s4; have Q4 : Hid (Tn c c w3 w4) := tn4; have T4 : Hid (Tb w4 w.heap.size (.slice va vl vc) b c) := T3.out.tn tn4 M3 M3; have X4 : Hid (Nb w4 w1.heap.size lv tu nx lo (.slice a1 sl.length c1)) := X3.out.tn tn4 M3 M3; have O4 : Hid (Rd w4 (.slice a1 sl.length c1) sl) := O3.out.tn tn4 M3 M3; have R4 : Hid (St w4 b lR) := (H1.out.below B3.out).tn tn4 Hbc.out Hbc.out; clear e2 s4 tn4 M3; obtain ⟨e0, e1, e2⟩ := T4.out.c; obtain ⟨d0, d1, d2, d3, d4⟩ := X4.out.c)
    | (go_at_call 42; refine (reach_any (.slice va vl vc) (.slice a1 sl.length c1) b c lR ⟨lv, tu, nx, lo, sl⟩ blk _ R4.out O4.out (by have := Hlen.out; omega) Hz.out.2 Hz.out.1 Hsl.out (by have := Hbd.out; omega) va vl vc rfl).mono ?_; rintro e w5 ⟨rfl, s5, tn5⟩; have D5 : Hid (DS zs b c w w5 lR lT (rcN (rnN zs blk) blk) [blk]) := DS.start HB.out Hbc.out H1.out H2.out Hn.out Ho.out HE.out Hin.out B3.out Q4.out S4.out tn5 (by rw [← HN.out]; exact s5); have M4 := R4.out.ma; have R5m : Hid (Ma w5 b) := s5.ma; have R5c : Hid (Ma w5 c) := S4.out.ma.tn tn5 Hbc.out.symm Hbc.out.symm; have T5 : Hid (Tb w5 w.heap.size (.slice va vl vc) b c) := T4.out.tn tn5 M4 M4; have X5 : Hid (Nb w5 w1.heap.size lv tu nx lo (.slice a1 sl.length c1)) := X4.out.tn tn5 M4 M4; have O5 : Hid (Rd w5 (.slice a1 sl.length c1) sl) := O4.out.tn tn5 M4 M4; clear s5 tn5 M4 e0 e1 e2 d0 d1 d2 d3 d4; obtain ⟨d0, d1, d2, d3, d4⟩ := X5.out.c; clear d0 d1 d2 d3))
  go_loopw [48] (fun i wr => ∃ (k : Nat) (lR2 lT2 : List Int), k ≤ sl.length ∧ i = .int .i64 k ∧ DS zs b c w wr lR lT lR2 lT2 ∧ 1 ≤ lT2.length ∧ Tn b c w5 wr) (fun i _ => sl.length - (Go.RowKit.intOf i).toNat)
  case atStart => exact ⟨0, _, _, Nat.zero_le _, rfl, D5.out, by simp, Tn.refl _ _ _⟩
  case round =>
    obtain ⟨k, lR2, lT2, hk, rfl, hD, ht1, htn⟩ := hrel
    have hs13 : sl.length ≤ 13 := Hz.out.2
    have HD : Hid (DS zs b c w wr lR lT lR2 lT2) := hD
    have Ht1 : Hid (1 ≤ lT2.length) := ht1
    have Htn : Hid (Tn b c w5 wr) := htn
    have MB := R5m.out
    have MC := R5c.out
    have Tr : Hid (Tb wr w.heap.size (.slice va vl vc) b c) := T5.out.tn htn MB MC
    have Xr : Hid (Nb wr w1.heap.size lv tu nx lo (.slice a1 sl.length c1)) := X5.out.tn htn MB MC
    have R2 := O5.out.tn htn MB MC
    have HRr : Hid (Rl wr (.slice va vl vc) zs) := (HR.out).tn hD.tn H1.out.ma H2.out.ma
    have Hcnt : Hid ((lR ++ lR2).length ≤ 15 * (lT ++ lT2).length + 5000 ∧ 256 - (lT ++ lT2).length ≤ m) := show _ ∧ _ by
      have := hD.len
      have := Hlen.out
      simp only [List.length_append]
      omega
    clear hD ht1 htn MB MC
    by_cases hlt : k < sl.length
    · obtain ⟨b', off', rfl, hcell⟩ := R2.at k hlt
      have hy := Hsl.out _ (List.getElem_mem hlt)
      obtain ⟨y, hyk⟩ : ∃ y, sl[k] = y := ⟨_, rfl⟩
      rw [hyk] at hcell hy
      have Hy : Hid (-9223372036854775808 ≤ y ∧ y < 9223372036854775808) := show _ ∧ _ by omega
      have hltI : (k : Int) < (sl.length : Int) := by omega
      obtain ⟨e0, e1, e2⟩ := Tr.out.c
      clear hy hyk R2 e1 e2
      have k59 := fun W (hW : Rl W (.slice va vl vc) zs) => Rread_any (.slice va vl vc) zs y W hW HF.out Hy.out
      obtain ⟨x, hx⟩ : ∃ x, x = rdX zs y := ⟨_, rfl⟩
      rw [← hx] at k59
      obtain ⟨kd, key, val, ch⟩ := x
      dsimp only at k59
      by_cases hE : RrdE zs y = 0
      · rw [hE] at k59
        have K59 : Hid (∀ W (hW : Rl W (.slice va vl vc) zs), Calls Try.prog 59 #[.slice va vl vc, .int .i64 y] W fun e w' => e = .returned (.tuple #[.agg #[.int .i64 kd, .string key, .string val, .int .i64 ch], .int .i64 0]) ∧ Below W.heap.size W w') := k59
        clear k59 hx hE
        by_cases hkd : kd = 2
        · subst hkd
          go_wp2_with (first
            | (go_at_call 59; refine (K59.out _ HRr.out).mono ?_; rintro e w6 ⟨rfl, hb6⟩; have B6 : Hid (Below wr.heap.size wr (w6.alloc (.cells #[.int .i64 2, .string key, .string val, .int .i64 ch] 89))) := hb6.alloc hb6.size _; have T6 : Hid (Tb (w6.alloc (.cells #[.int .i64 2, .string key, .string val, .int .i64 ch] 89)) w.heap.size (.slice va vl vc) b c) := Tr.out.below B6.out; have Y6 : Hid (RcAt (w6.alloc (.cells #[.int .i64 2, .string key, .string val, .int .i64 ch] 89)) w6.heap.size ⟨2, key, val, ch⟩) := rc_new w6 ⟨2, key, val, ch⟩; obtain ⟨z0, z1, z2⟩ := T6.out.c; obtain ⟨y0, y1, y2, y3⟩ := Y6.out.c; clear y1 y2 hb6 hcell e0)
            | (go_at_call 43; refine (IH.out (lR ++ lR2) (lT ++ lT2) _ _ _ (HRr.out.below B6.out) (HD.out.sR.below B6.out) (HD.out.sT.below B6.out) HD.out.nd HD.out.ok Hcnt.out.1 Hcnt.out.2).mono ?_; rintro e w7 ⟨rfl, lR3, lT3, D7, _⟩))
          go_roundw
          case rel => exact ⟨k + 1, _, _, by omega, by go_num, (HD.out.below B6.out).trans D7, by rw [List.length_append]; exact Nat.le_trans Ht1.out (Nat.le_add_right _ _), Htn.out.trans ((Tn.of_below B6.out).trans D7.tn)⟩
          case measure => simp [Go.RowKit.intOf]; omega
        · have hkE : (kd == 2) = false := by simp [hkd]
          clear hkd
          go_wp2_with (first
            | (go_at_call 59; refine (K59.out _ HRr.out).mono ?_; rintro e w6 ⟨rfl, hb6⟩; have B6 : Hid (Below wr.heap.size wr (w6.alloc (.cells #[.int .i64 kd, .string key, .string val, .int .i64 ch] 89))) := hb6.alloc hb6.size _; have Y6 : Hid (RcAt (w6.alloc (.cells #[.int .i64 kd, .string key, .string val, .int .i64 ch] 89)) w6.heap.size ⟨kd, key, val, ch⟩) := rc_new w6 ⟨kd, key, val, ch⟩; obtain ⟨y0, y1, y2, y3⟩ := Y6.out.c; clear y1 y2 y3 hb6 hcell e0))
          go_roundw
          case rel => exact ⟨k + 1, _, _, by omega, by go_num, HD.out.below B6.out, Ht1.out, Htn.out.trans (Tn.of_below B6.out)⟩
          case measure => simp [Go.RowKit.intOf]; omega
      · have hEE : (RrdE zs y == 0) = false := by simp [hE]
        have K59 : Hid (∀ W (hW : Rl W (.slice va vl vc) zs), Calls Try.prog 59 #[.slice va vl vc, .int .i64 y] W fun e w' => e = .returned (.tuple #[.agg #[.int .i64 kd, .string key, .string val, .int .i64 ch], .int .i64 (RrdE zs y)]) ∧ Below W.heap.size W w') := k59
        clear k59 hx hE
        generalize RrdE zs y = E at *
        go_wp2_with (first
          | (go_at_call 59; refine (K59.out _ HRr.out).mono ?_; rintro e w6 ⟨rfl, hb6⟩; have B6 : Hid (Below wr.heap.size wr (w6.alloc (.cells #[.int .i64 kd, .string key, .string val, .int .i64 ch] 89))) := hb6.alloc hb6.size _; have Y6 : Hid (RcAt (w6.alloc (.cells #[.int .i64 kd, .string key, .string val, .int .i64 ch] 89)) w6.heap.size ⟨kd, key, val, ch⟩) := rc_new w6 ⟨kd, key, val, ch⟩; obtain ⟨y0, y1, y2, y3⟩ := Y6.out.c; clear y1 y2 y3 hb6 hcell e0))
        go_roundw
        case rel => exact ⟨k + 1, _, _, by omega, by go_num, HD.out.below B6.out, Ht1.out, Htn.out.trans (Tn.of_below B6.out)⟩
        case measure => simp [Go.RowKit.intOf]; omega
    · have hltI : ¬ (k : Int) < (sl.length : Int) := by omega
      obtain ⟨d0, d1, d2, d3, d4⟩ := Xr.out.c
      obtain ⟨e0, e1, e2⟩ := Tr.out.c
      clear R2 d0 d1 d3 d4
      by_cases hnx0 : nx = 0
      · have hnE : (nx != 0) = false := by simp [hnx0]
        clear hnx0 e0 e1 e2
        go_wp2
        exact ⟨rfl, _, results_none rfl _ _ _, rfl, _, _, HD.out⟩
      · have hnE : (nx != 0) = true := by simp [hnx0]
        clear hnx0
        go_wp2_with (first
          | (go_at_call 43; refine (IH.out (lR ++ lR2) (lT ++ lT2) _ _ _ HRr.out HD.out.sR HD.out.sT HD.out.nd HD.out.ok Hcnt.out.1 Hcnt.out.2).mono ?_; rintro e w7 ⟨rfl, lR3, lT3, D7, _⟩))
        exact ⟨rfl, _, results_none rfl _ _ _, rfl, _, _, HD.out.trans D7⟩
/-- Each way through nodes above the leaves ends, and leaves what it should. -/
theorem down_any (zs : List Int) (va : Option Addr) (vl vc : Nat) (b c : Nat) (hbc : b ≠ c) (hF : Fits zs) (hB : rdB zs = true) : ∀ m, DnP zs (.slice va vl vc) b c m := by
  intro m
  induction m with
  | zero =>
    intro lR lT blk lvl w hR h1 h2 hn ho hlen hm
    have hx : lvl = 0 ∨ rnE zs blk ≠ 0 ∨ (rnN zs blk).lv ≠ lvl ∨ blk ∈ lT := by
      by_cases hE : rnE zs blk = 0
      · by_cases hin : blk ∈ lT
        · exact .inr (.inr (.inr hin))
        · have hnd : (blk :: lT).Nodup := List.nodup_cons.2 ⟨hin, hn⟩
          have := lv_len hB hnd (fun y hy => by
            rw [List.mem_cons] at hy
            rcases hy with rfl | hy
            · exact hE
            · exact ho y hy)
          rw [List.length_cons] at this
          omega
      · exact .inr (.inl hE)
    refine (down_out zs va vl vc b c lR lT blk lvl w hR hB h1 h2 hn ho hx).mono ?_
    rintro e w' ⟨rfl, D⟩
    exact ⟨rfl, _, _, D, fun _ => rfl⟩
  | succ m ih =>
    intro lR lT blk lvl w hR h1 h2 hn ho hlen hm
    by_cases hx : lvl = 0 ∨ rnE zs blk ≠ 0 ∨ (rnN zs blk).lv ≠ lvl ∨ blk ∈ lT
    · refine (down_out zs va vl vc b c lR lT blk lvl w hR hB h1 h2 hn ho hx).mono ?_
      rintro e w' ⟨rfl, D⟩
      exact ⟨rfl, _, _, D, fun _ => rfl⟩
    · have hl : lvl ≠ 0 := fun h => hx (.inl h)
      have hE : rnE zs blk = 0 := by
        by_cases h : rnE zs blk = 0
        · exact h
        · exact absurd (.inr (.inl h)) hx
      have hlv : (rnN zs blk).lv = lvl := by
        by_cases h : (rnN zs blk).lv = lvl
        · exact h
        · exact absurd (.inr (.inr (.inl h))) hx
      have hin : blk ∉ lT := fun h => hx (.inr (.inr (.inr h)))
      refine (down_in zs va vl vc b c m ih hbc hF lR lT blk lvl w hR hB h1 h2 hn ho hlen hm hl hE hlv hin).mono ?_
      rintro e w' ⟨rfl, lR2, lT2, D⟩
      exact ⟨rfl, _, _, D, fun h => absurd h hl⟩
end Go.Proofs.Ytgcdhenbpkcmgaa
