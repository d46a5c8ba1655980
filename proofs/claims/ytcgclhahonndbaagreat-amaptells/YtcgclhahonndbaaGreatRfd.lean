/- The document's Check. -/
import Derived.Test.YtcgclhahonndbaaGreatRfc
namespace Go.Proofs.YtcgclhahonndbaaGreat
open Go.RowKit Go.Shelf
set_option linter.unusedVariables false

theorem tL_le {x y : ByteArray} (h : tL y x = true) : Op.bytesLess x.toList y.toList = false ∧ (x.toList == y.toList) = false := by
  have h1 := tL_as h
  have h2 : tE x y = false := tE_no (fun e => tL_ne h e.symm)
  unfold tL at h1
  unfold tE at h2
  exact ⟨h1, h2⟩
theorem tL_ge {x y : ByteArray} (h : tL y x = false) : (Op.bytesLess x.toList y.toList = true ∧ (x.toList == y.toList) = false) ∨ (Op.bytesLess x.toList y.toList = false ∧ (x.toList == y.toList) = true) := by
  by_cases e : x = y
  · subst e
    right
    have h1 := tL_irr x
    unfold tL at h1
    exact ⟨h1, by simp⟩
  · left
    have h1 := tL_tot h (fun e' => e e'.symm)
    have h2 : tE x y = false := tE_no e
    unfold tL at h1
    unfold tE at h2
    exact ⟨h1, h2⟩
theorem lo_yes {zs : List Int} {b : Int} (hE : rnE zs b = 0) (hT : loE zs b = 0) : lowK zs (rnN zs b) = true ∧ loS zs b = lowS zs (rnN zs b) := by
  unfold loE at hT
  split at hT
  · rename_i h
    refine ⟨h.2, ?_⟩
    unfold loS
    rw [if_pos h]
  · omega
theorem lo_no {zs : List Int} {b : Int} (hE : rnE zs b = 0) (hT : loE zs b ≠ 0) : lowK zs (rnN zs b) = false := by
  cases h : lowK zs (rnN zs b) with
  | false => rfl
  | true =>
    unfold loE at hT
    rw [if_pos ⟨hE, h⟩] at hT
    exact absurd rfl hT
theorem lo_mt {zs : List Int} {b : Int} (h : (rnN zs b).lo = 0) : (lowS zs (rnN zs b)).toList = [] := by
  unfold lowS
  rw [if_pos h, no_list]
theorem sf1 {zs L : List Int} {k : Nat} {s : List UInt8} {b : Int} (h : L[k]? = some b) (hE : rnE zs b = 0) (hT : loE zs b ≠ 0) : sdX zs L k s = false := by
  have hK := lo_no hE hT
  by_cases hk : k = 0
  · subst hk
    rw [sdX_first h hE]
    unfold lowK at hK
    simp only [Bool.or_eq_false_iff, decide_eq_false_iff_not] at hK
    simp [hK.1]
  · exact sdX_low hk h hE hK
theorem sf2 {zs L : List Int} {k : Nat} {s : List UInt8} {b : Int} (h : L[k]? = some b) (hE : rnE zs b = 0) (hT : loE zs b = 0) (hW : lfB (rcA zs) (loS zs b).toList (plN (rnN zs b).sl) = false) : sdX zs L k s = false := by
  obtain ⟨hK, hS⟩ := lo_yes hE hT
  rw [hS] at hW
  by_cases hk : k = 0
  · subst hk
    rw [sdX_first h hE]
    by_cases h0 : (rnN zs b).lo = 0
    · rw [lo_mt h0] at hW
      rw [hW]
      simp
    · simp [h0]
  · rw [sdX_next hk h hE hK, hW]
    simp
theorem sf3 {zs L : List Int} {s : List UInt8} {b : Int} (h : L[0]? = some b) (hE : rnE zs b = 0) (h0 : (rnN zs b).lo ≠ 0) : sdX zs L 0 s = false := by
  rw [sdX_first h hE]
  simp [h0]
theorem sf4 {zs L : List Int} {s : List UInt8} {b : Int} (h : L[0]? = some b) (hE : rnE zs b = 0) (hT : loE zs b = 0) (hW : lfB (rcA zs) (loS zs b).toList (plN (rnN zs b).sl) = true) (h0 : (rnN zs b).lo = 0) : sdX zs L (0 + 1) (loS zs b).toList = sdX zs L 0 s := by
  obtain ⟨hK, hS⟩ := lo_yes hE hT
  rw [hS] at hW ⊢
  rw [lo_mt h0] at hW ⊢
  rw [sdX_first h hE, hW, h0]
  simp
theorem sf5 {zs L : List Int} {k : Nat} {s : List UInt8} {b : Int} (hk : k ≠ 0) (h : L[k]? = some b) (hE : rnE zs b = 0) (hT : loE zs b = 0) (hb : Op.bytesLess s (loS zs b).toList = false) : sdX zs L k s = false := by
  obtain ⟨hK, hS⟩ := lo_yes hE hT
  rw [hS] at hb
  rw [sdX_next hk h hE hK, hb]
  simp
theorem sf6 {zs L : List Int} {k : Nat} {s : List UInt8} {b : Int} (hk : k ≠ 0) (h : L[k]? = some b) (hE : rnE zs b = 0) (hT : loE zs b = 0) (hW : lfB (rcA zs) (loS zs b).toList (plN (rnN zs b).sl) = true) (hb : Op.bytesLess s (loS zs b).toList = true) : sdX zs L (k + 1) (loS zs b).toList = sdX zs L k s := by
  obtain ⟨hK, hS⟩ := lo_yes hE hT
  rw [hS] at hb hW ⊢
  rw [sdX_next hk h hE hK, hb, hW]
  simp
set_option maxRecDepth 100000 in
set_option maxHeartbeats 4000000 in
theorem checkR_any (v : Value) (zs : List Int) (w : World) (hR : Rl w v zs) (hF : Fits zs) (hl : zs.length ≤ 1000) : Calls Tryz.prog 24 #[v] w fun e w' => e = .returned (.int .i64 (chE zs)) ∧ Below w.heap.size w w' := by
  have HR : Hid (Rl w v zs) := hR
  have k25 := leavesR_any v zs w hR hl
  have K43 : Hid (∀ b W, Rl W v zs → rnE zs b = 0 → Calls Tryz.prog 43 #[v, .int .i64 b] W fun e w' => ∃ v', e = .returned (.tuple #[.agg #[.int .i64 (rnN zs b).lv, .int .i64 (rnN zs b).tu, .int .i64 (rnN zs b).nx, .int .i64 (rnN zs b).lo, v'], .int .i64 0]) ∧ Rd w' v' (rnN zs b).sl ∧ Below W.heap.size W w') := fun b W h hE => by
    have := readR_any v zs b W (h.rd hl)
    rwa [hE] at this
  have K44 : Hid (∀ b W, Rl W v zs → Calls Tryz.prog 44 #[v, .int .i64 b] W fun e w' => e = .returned (.tuple #[.string (loS zs b), .int .i64 (loE zs b)]) ∧ Below W.heap.size W w') := fun b W h => lowR_any v zs b W h hF hl
  have K45 : Hid (∀ b low W, Rl W v zs → Calls Tryz.prog 45 #[v, .int .i64 b, .string low] W fun e w' => e = .returned (.bool (lfB (rcA zs) low.toList (plN (rnN zs b).sl))) ∧ Below W.heap.size W w') := fun b low W h => leafR_any v zs b low W h hF hl
  clear hR hF hl
  cases hL : lvA zs with
  | none =>
    have hE : lvE zs = 110 := by unfold lvE; rw [hL]
    have hl : lvL zs = [] := by unfold lvL; rw [hL]; rfl
    have hC : chE zs = 110 := by unfold chE sndB; rw [hL]; rfl
    rw [hE, hl] at k25
    rw [hC]
    have K25 : Hid (Calls Tryz.prog 25 #[v] w fun e w' => ∃ v', e = .returned (.tuple #[v', .int .i64 110]) ∧ Rd w' v' [] ∧ Below w.heap.size w w') := k25
    clear k25 hL hE hl hC
    go_enter Tryz.func24, Tryz.ntmps24
    go_wp2_with (first
      | (go_at_call 25; refine K25.out.mono ?_; rintro e w1 ⟨v1, rfl, r1, hb1⟩; obtain ⟨_, a1, c1, rfl⟩ := r1.form))
    exact bodyPost_ret (results_tmp rfl _ _ _) rfl ⟨rfl, hb1⟩
  | some L =>
    have hE : lvE zs = 0 := by unfold lvE; rw [hL]
    have hl : lvL zs = L := by unfold lvL; rw [hL]; rfl
    rw [hE, hl] at k25
    have K25 : Hid (Calls Tryz.prog 25 #[v] w fun e w' => ∃ v', e = .returned (.tuple #[v', .int .i64 0]) ∧ Rd w' v' L ∧ Below w.heap.size w w') := k25
    obtain ⟨_, _, hok, _⟩ := lvA_out hL
    obtain ⟨SB, hSB⟩ : ∃ SB, SB = sndB zs := ⟨_, rfl⟩
    have h0 : sdX zs L 0 (ByteArray.toList ⟨#[]⟩) = SB := by rw [hSB, snd_of hL]; rfl
    have H0 : Hid (sdX zs L 0 (ByteArray.toList ⟨#[]⟩) = SB) := h0
    have HC : Hid (chE zs = if SB = true then 0 else 110) := show _ = _ by rw [hSB]; rfl
    have HOK : Hid (∀ (k : Nat) b, L[k]? = some b → rnE zs b = 0) := fun k b h => (hok b (List.mem_of_getElem? h)).2.1
    clear k25 hL hE hl hok hSB h0
    go_enter Tryz.func24, Tryz.ntmps24
    go_wp2_with (first
      | (go_at_call 25; refine K25.out.mono ?_; rintro e w1 ⟨v1, rfl, r1, hb1⟩; obtain ⟨_, a1, c1, rfl⟩ := r1.form; have R1 : Hid (Rd w1 (.slice a1 L.length c1) L) := r1; have B1 : Hid (Below w.heap.size w w1) := hb1; clear r1 hb1))
    go_loopw [5, 6] (fun l i wr => ∃ (k : Nat) (s : ByteArray), k ≤ L.length ∧ l = .string s ∧ i = .int .i64 k ∧ sdX zs L k s.toList = SB ∧ Below w1.heap.size w1 wr) (fun _ i _ => L.length - (Go.RowKit.intOf i).toNat)
    case atStart => exact ⟨0, _, Nat.zero_le _, rfl, rfl, H0.out, Below.refl _ _⟩
    case round =>
      obtain ⟨k, s, hk, rfl, rfl, hX, hbr⟩ := hrel
      have HX : Hid (sdX zs L k s.toList = SB) := hX
      have HBr : Hid (Below w1.heap.size w1 wr) := hbr
      have HRr : Hid (Rl wr v zs) := HR.out.below (bstep B1.out hbr)
      have Bw : Hid (Below w.heap.size w wr) := bstep B1.out hbr
      have RL : Hid (Rd wr (.slice a1 L.length c1) L) := R1.out.below hbr
      clear hX hbr
      by_cases hlt : k < L.length
      · have hltI : (k : Int) < (L.length : Int) := by omega
        obtain ⟨b, hb⟩ : ∃ b, L[k]? = some b := ⟨_, List.getElem?_eq_getElem hlt⟩
        obtain ⟨bb, off, e2, hcell⟩ := RL.out.at k hlt
        have hs2 : L[k] = b := by rw [List.getElem?_eq_getElem hlt] at hb; exact Option.some.inj hb
        rw [hs2] at hcell
        cases e2
        have hE := HOK.out k b hb
        have k43 := fun W h => K43.out b W h hE
        have k44 := fun W h => K44.out b W h
        have k45 := fun W h => K45.out b (loS zs b) W h
        have F1 : Hid (loE zs b ≠ 0 → SB = false) := fun h => by rw [← HX.out]; exact sf1 hb hE h
        have F2 : Hid (loE zs b = 0 → lfB (rcA zs) (loS zs b).toList (plN (rnN zs b).sl) = false → SB = false) := fun h h2 => by rw [← HX.out]; exact sf2 hb hE h h2
        have F3 : Hid (k = 0 → (rnN zs b).lo ≠ 0 → SB = false) := fun h h2 => by subst h; rw [← HX.out]; exact sf3 hb hE h2
        have F4 : Hid (k = 0 → loE zs b = 0 → lfB (rcA zs) (loS zs b).toList (plN (rnN zs b).sl) = true → (rnN zs b).lo = 0 → sdX zs L (0 + 1) (loS zs b).toList = SB) := fun h h2 h3 h4 => by subst h; rw [← HX.out]; exact sf4 hb hE h2 h3 h4
        have F5 : Hid (k ≠ 0 → loE zs b = 0 → tL s (loS zs b) = false → SB = false) := fun h h2 h3 => by rw [← HX.out]; exact sf5 h hb hE h2 h3
        have F6 : Hid (k ≠ 0 → loE zs b = 0 → lfB (rcA zs) (loS zs b).toList (plN (rnN zs b).sl) = true → tL s (loS zs b) = true → sdX zs L (k + 1) (loS zs b).toList = SB) := fun h h2 h3 h4 => by rw [← HX.out]; exact sf6 h hb hE h2 h3 h4
        clear hs2 hE hb
        generalize lfB (rcA zs) (loS zs b).toList (plN (rnN zs b).sl) = W at *
        generalize loS zs b = S at *
        generalize loE zs b = T at *
        generalize rnN zs b = n at *
        obtain ⟨lv, tu, nx, lo, sl⟩ := n
        dsimp only at k43 F3 F4
        have K43b : Hid (∀ W, Rl W v zs → Calls Tryz.prog 43 #[v, .int .i64 b] W fun e w' => ∃ v', e = .returned (.tuple #[.agg #[.int .i64 lv, .int .i64 tu, .int .i64 nx, .int .i64 lo, v'], .int .i64 0]) ∧ Rd w' v' sl ∧ Below W.heap.size W w') := k43
        have K44b : Hid (∀ W, Rl W v zs → Calls Tryz.prog 44 #[v, .int .i64 b] W fun e w' => e = .returned (.tuple #[.string S, .int .i64 T]) ∧ Below W.heap.size W w') := k44
        have K45b : Hid (∀ w0, Rl w0 v zs → Calls Tryz.prog 45 #[v, .int .i64 b, .string S] w0 fun e w' => e = .returned (.bool W) ∧ Below w0.heap.size w0 w') := k45
        clear k43 k44 k45
        by_cases hT : T = 0
        · subst hT
          cases W with
          | false =>
            have D : Hid (chE zs = 110) := show _ = _ by rw [HC.out, F2.out rfl rfl]; rfl
            clear F1 F2 F3 F4 F5 F6
            go_wp2_with (first
              | (go_at_call 43; refine (K43b.out _ HRr.out).mono ?_; rintro e w3 ⟨v3, rfl, r3, hb3⟩; obtain ⟨_, a3, c3, rfl⟩ := r3.form; have N3 : Hid (Nb (w3.alloc (.cells #[.int .i64 lv, .int .i64 tu, .int .i64 nx, .int .i64 lo, .slice a3 sl.length c3] 43)) w3.heap.size lv tu nx lo (.slice a3 sl.length c3)) := nb_new w3 lv tu nx lo _; have B3 : Hid (Below wr.heap.size wr (w3.alloc (.cells #[.int .i64 lv, .int .i64 tu, .int .i64 nx, .int .i64 lo, .slice a3 sl.length c3] 43))) := hb3.alloc hb3.size _; have hcell3 := (B3.out.cell (p := ⟨bb, off + k, none⟩) (World.block_lt_of_cell? _ _ hcell)).trans hcell; clear r3 hb3)
              | (go_at_call 44; refine (K44b.out _ (HRr.out.below B3.out)).mono ?_; rintro e w4 ⟨rfl, hb4⟩; have B4 : Hid (Below wr.heap.size wr w4) := bstep B3.out hb4; have N4 : Hid (Nb w4 w3.heap.size lv tu nx lo (.slice a3 sl.length c3)) := N3.out.below hb4; have hcell4 := (B4.out.cell (p := ⟨bb, off + k, none⟩) (World.block_lt_of_cell? _ _ hcell)).trans hcell; clear hb4 hcell3)
              | (go_at_call 45; refine (K45b.out _ (HRr.out.below B4.out)).mono ?_; rintro e w5 ⟨rfl, hb5⟩; have B5 : Hid (Below wr.heap.size wr w5) := bstep B4.out hb5; have N5 : Hid (Nb w5 w3.heap.size lv tu nx lo (.slice a3 sl.length c3)) := N4.out.below hb5; obtain ⟨n0, n1, n2, n3, n4⟩ := N5.out.c; clear hb5 hcell4))
            refine bodyPost_ret (results_tmp rfl _ _ _) rfl ?_
            dsimp only
            rw [D.out]
            exact ⟨rfl, bstep Bw.out B5.out⟩
          | true =>
            by_cases hk0 : k = 0
            · subst hk0
              rw [Nat.add_zero] at hcell
              rw [show ((0 : Nat) : Int) = (0 : Int) from rfl] at hltI ⊢
              by_cases hlo : lo = 0
              · subst hlo
                have XN : Hid (sdX zs L (0 + 1) S.toList = SB) := F4.out rfl rfl rfl rfl
                clear F1 F2 F3 F4 F5 F6
                go_wp2_with (first
                  | (go_at_call 43; refine (K43b.out _ HRr.out).mono ?_; rintro e w3 ⟨v3, rfl, r3, hb3⟩; obtain ⟨_, a3, c3, rfl⟩ := r3.form; have N3 : Hid (Nb (w3.alloc (.cells #[.int .i64 lv, .int .i64 tu, .int .i64 nx, .int .i64 0, .slice a3 sl.length c3] 43)) w3.heap.size lv tu nx 0 (.slice a3 sl.length c3)) := nb_new w3 lv tu nx 0 _; have B3 : Hid (Below wr.heap.size wr (w3.alloc (.cells #[.int .i64 lv, .int .i64 tu, .int .i64 nx, .int .i64 0, .slice a3 sl.length c3] 43))) := hb3.alloc hb3.size _; have hcell3 := (B3.out.cell (p := ⟨bb, off, none⟩) (World.block_lt_of_cell? _ _ hcell)).trans hcell; clear r3 hb3)
                  | (go_at_call 44; refine (K44b.out _ (HRr.out.below B3.out)).mono ?_; rintro e w4 ⟨rfl, hb4⟩; have B4 : Hid (Below wr.heap.size wr w4) := bstep B3.out hb4; have N4 : Hid (Nb w4 w3.heap.size lv tu nx 0 (.slice a3 sl.length c3)) := N3.out.below hb4; have hcell4 := (B4.out.cell (p := ⟨bb, off, none⟩) (World.block_lt_of_cell? _ _ hcell)).trans hcell; clear hb4 hcell3)
                  | (go_at_call 45; refine (K45b.out _ (HRr.out.below B4.out)).mono ?_; rintro e w5 ⟨rfl, hb5⟩; have B5 : Hid (Below wr.heap.size wr w5) := bstep B4.out hb5; have N5 : Hid (Nb w5 w3.heap.size lv tu nx 0 (.slice a3 sl.length c3)) := N4.out.below hb5; obtain ⟨n0, n1, n2, n3, n4⟩ := N5.out.c; clear hb5 hcell4))
                go_roundw
                case rel => exact ⟨0 + 1, S, by omega, rfl, by go_num, XN.out, bstep HBr.out B5.out⟩
                case measure => simp [Go.RowKit.intOf]; omega
              · have D : Hid (chE zs = 110) := show _ = _ by rw [HC.out, F3.out rfl hlo]; rfl
                have hE1 : (lo == 0) = false := by simp [hlo]
                have hN1 : (lo != 0) = true := by simp [hlo]
                clear F1 F2 F3 F4 F5 F6 hlo
                go_wp2_with (first
                  | (go_at_call 43; refine (K43b.out _ HRr.out).mono ?_; rintro e w3 ⟨v3, rfl, r3, hb3⟩; obtain ⟨_, a3, c3, rfl⟩ := r3.form; have N3 : Hid (Nb (w3.alloc (.cells #[.int .i64 lv, .int .i64 tu, .int .i64 nx, .int .i64 lo, .slice a3 sl.length c3] 43)) w3.heap.size lv tu nx lo (.slice a3 sl.length c3)) := nb_new w3 lv tu nx lo _; have B3 : Hid (Below wr.heap.size wr (w3.alloc (.cells #[.int .i64 lv, .int .i64 tu, .int .i64 nx, .int .i64 lo, .slice a3 sl.length c3] 43))) := hb3.alloc hb3.size _; have hcell3 := (B3.out.cell (p := ⟨bb, off, none⟩) (World.block_lt_of_cell? _ _ hcell)).trans hcell; clear r3 hb3)
                  | (go_at_call 44; refine (K44b.out _ (HRr.out.below B3.out)).mono ?_; rintro e w4 ⟨rfl, hb4⟩; have B4 : Hid (Below wr.heap.size wr w4) := bstep B3.out hb4; have N4 : Hid (Nb w4 w3.heap.size lv tu nx lo (.slice a3 sl.length c3)) := N3.out.below hb4; have hcell4 := (B4.out.cell (p := ⟨bb, off, none⟩) (World.block_lt_of_cell? _ _ hcell)).trans hcell; clear hb4 hcell3)
                  | (go_at_call 45; refine (K45b.out _ (HRr.out.below B4.out)).mono ?_; rintro e w5 ⟨rfl, hb5⟩; have B5 : Hid (Below wr.heap.size wr w5) := bstep B4.out hb5; have N5 : Hid (Nb w5 w3.heap.size lv tu nx lo (.slice a3 sl.length c3)) := N4.out.below hb5; obtain ⟨n0, n1, n2, n3, n4⟩ := N5.out.c; clear hb5 hcell4))
                refine bodyPost_ret (results_tmp rfl _ _ _) rfl ?_
                dsimp only
                rw [D.out]
                exact ⟨rfl, bstep Bw.out B5.out⟩
            · have hk0I : ((k : Int) == 0) = false := by simp [hk0]
              have hkp : (k : Int) > 0 := by omega
              cases htl : tL s S with
              | true =>
                obtain ⟨e7, e8⟩ := tL_le htl
                have XN : Hid (sdX zs L (k + 1) S.toList = SB) := F6.out hk0 rfl rfl htl
                clear F1 F2 F3 F4 F5 F6 hk0 htl
                go_wp2_with (first
                  | (go_at_call 43; refine (K43b.out _ HRr.out).mono ?_; rintro e w3 ⟨v3, rfl, r3, hb3⟩; obtain ⟨_, a3, c3, rfl⟩ := r3.form; have N3 : Hid (Nb (w3.alloc (.cells #[.int .i64 lv, .int .i64 tu, .int .i64 nx, .int .i64 lo, .slice a3 sl.length c3] 43)) w3.heap.size lv tu nx lo (.slice a3 sl.length c3)) := nb_new w3 lv tu nx lo _; have B3 : Hid (Below wr.heap.size wr (w3.alloc (.cells #[.int .i64 lv, .int .i64 tu, .int .i64 nx, .int .i64 lo, .slice a3 sl.length c3] 43))) := hb3.alloc hb3.size _; have hcell3 := (B3.out.cell (p := ⟨bb, off + k, none⟩) (World.block_lt_of_cell? _ _ hcell)).trans hcell; clear r3 hb3)
                  | (go_at_call 44; refine (K44b.out _ (HRr.out.below B3.out)).mono ?_; rintro e w4 ⟨rfl, hb4⟩; have B4 : Hid (Below wr.heap.size wr w4) := bstep B3.out hb4; have N4 : Hid (Nb w4 w3.heap.size lv tu nx lo (.slice a3 sl.length c3)) := N3.out.below hb4; have hcell4 := (B4.out.cell (p := ⟨bb, off + k, none⟩) (World.block_lt_of_cell? _ _ hcell)).trans hcell; clear hb4 hcell3)
                  | (go_at_call 45; refine (K45b.out _ (HRr.out.below B4.out)).mono ?_; rintro e w5 ⟨rfl, hb5⟩; have B5 : Hid (Below wr.heap.size wr w5) := bstep B4.out hb5; have N5 : Hid (Nb w5 w3.heap.size lv tu nx lo (.slice a3 sl.length c3)) := N4.out.below hb5; obtain ⟨n0, n1, n2, n3, n4⟩ := N5.out.c; clear hb5 hcell4))
                go_roundw
                case rel => exact ⟨k + 1, S, by omega, rfl, by go_num, XN.out, bstep HBr.out B5.out⟩
                case measure => simp [Go.RowKit.intOf]; omega
              | false =>
                have D : Hid (chE zs = 110) := show _ = _ by rw [HC.out, F5.out hk0 rfl htl]; rfl
                rcases tL_ge htl with ⟨e7, e8⟩ | ⟨e7, e8⟩
                all_goals
                  clear F1 F2 F3 F4 F5 F6 hk0 htl
                  go_wp2_with (first
                    | (go_at_call 43; refine (K43b.out _ HRr.out).mono ?_; rintro e w3 ⟨v3, rfl, r3, hb3⟩; obtain ⟨_, a3, c3, rfl⟩ := r3.form; have N3 : Hid (Nb (w3.alloc (.cells #[.int .i64 lv, .int .i64 tu, .int .i64 nx, .int .i64 lo, .slice a3 sl.length c3] 43)) w3.heap.size lv tu nx lo (.slice a3 sl.length c3)) := nb_new w3 lv tu nx lo _; have B3 : Hid (Below wr.heap.size wr (w3.alloc (.cells #[.int .i64 lv, .int .i64 tu, .int .i64 nx, .int .i64 lo, .slice a3 sl.length c3] 43))) := hb3.alloc hb3.size _; have hcell3 := (B3.out.cell (p := ⟨bb, off + k, none⟩) (World.block_lt_of_cell? _ _ hcell)).trans hcell; clear r3 hb3)
                    | (go_at_call 44; refine (K44b.out _ (HRr.out.below B3.out)).mono ?_; rintro e w4 ⟨rfl, hb4⟩; have B4 : Hid (Below wr.heap.size wr w4) := bstep B3.out hb4; have N4 : Hid (Nb w4 w3.heap.size lv tu nx lo (.slice a3 sl.length c3)) := N3.out.below hb4; have hcell4 := (B4.out.cell (p := ⟨bb, off + k, none⟩) (World.block_lt_of_cell? _ _ hcell)).trans hcell; clear hb4 hcell3)
                    | (go_at_call 45; refine (K45b.out _ (HRr.out.below B4.out)).mono ?_; rintro e w5 ⟨rfl, hb5⟩; have B5 : Hid (Below wr.heap.size wr w5) := bstep B4.out hb5; have N5 : Hid (Nb w5 w3.heap.size lv tu nx lo (.slice a3 sl.length c3)) := N4.out.below hb5; obtain ⟨n0, n1, n2, n3, n4⟩ := N5.out.c; clear hb5 hcell4))
                  refine bodyPost_ret (results_tmp rfl _ _ _) rfl ?_
                  dsimp only
                  rw [D.out]
                  exact ⟨rfl, bstep Bw.out B5.out⟩
        · have D : Hid (chE zs = 110) := show _ = _ by rw [HC.out, F1.out hT]; rfl
          have hE1 : (T == 0) = false := by simp [hT]
          have hN1 : (T != 0) = true := by simp [hT]
          clear F1 F2 F3 F4 F5 F6 hT
          go_wp2_with (first
            | (go_at_call 43; refine (K43b.out _ HRr.out).mono ?_; rintro e w3 ⟨v3, rfl, r3, hb3⟩; obtain ⟨_, a3, c3, rfl⟩ := r3.form; have N3 : Hid (Nb (w3.alloc (.cells #[.int .i64 lv, .int .i64 tu, .int .i64 nx, .int .i64 lo, .slice a3 sl.length c3] 43)) w3.heap.size lv tu nx lo (.slice a3 sl.length c3)) := nb_new w3 lv tu nx lo _; have B3 : Hid (Below wr.heap.size wr (w3.alloc (.cells #[.int .i64 lv, .int .i64 tu, .int .i64 nx, .int .i64 lo, .slice a3 sl.length c3] 43))) := hb3.alloc hb3.size _; have hcell3 := (B3.out.cell (p := ⟨bb, off + k, none⟩) (World.block_lt_of_cell? _ _ hcell)).trans hcell; clear r3 hb3)
            | (go_at_call 44; refine (K44b.out _ (HRr.out.below B3.out)).mono ?_; rintro e w4 ⟨rfl, hb4⟩; have B4 : Hid (Below wr.heap.size wr w4) := bstep B3.out hb4; have N4 : Hid (Nb w4 w3.heap.size lv tu nx lo (.slice a3 sl.length c3)) := N3.out.below hb4; have hcell4 := (B4.out.cell (p := ⟨bb, off + k, none⟩) (World.block_lt_of_cell? _ _ hcell)).trans hcell; clear hb4 hcell3)
            | (go_at_call 45; refine (K45b.out _ (HRr.out.below B4.out)).mono ?_; rintro e w5 ⟨rfl, hb5⟩; have B5 : Hid (Below wr.heap.size wr w5) := bstep B4.out hb5; have N5 : Hid (Nb w5 w3.heap.size lv tu nx lo (.slice a3 sl.length c3)) := N4.out.below hb5; obtain ⟨n0, n1, n2, n3, n4⟩ := N5.out.c; clear hb5 hcell4))
          refine bodyPost_ret (results_tmp rfl _ _ _) rfl ?_
          dsimp only
          rw [D.out]
          exact ⟨rfl, bstep Bw.out B5.out⟩
      · have hge : ¬ (k : Int) < (L.length : Int) := by omega
        have D : Hid (chE zs = 0) := show _ = _ by rw [HC.out, ← HX.out, sdX_end (by omega)]; rfl
        go_wp2
        refine bodyPost_ret (results_tmp rfl _ _ _) rfl ?_
        dsimp only
        rw [D.out]
        exact ⟨rfl, Bw.out⟩
end Go.Proofs.YtcgclhahonndbaaGreat
