/- The document's leaf. -/
import Derived.Test.YtcgclhahonndbaaGreatAmnum
namespace Go.Proofs.YtcgclhahonndbaaGreat
open Go.RowKit Go.Shelf
set_option linter.unusedVariables false

/-- The key of the slot ahead of the k-th. -/
def pkS (zs L : List Int) (k : Nat) : ByteArray := (rdX zs (L.getD (k - 1) 0)).key
theorem pk_at {zs L : List Int} {k : Nat} {y : Int} (h : L[k]? = some y) : pkS zs L (k + 1) = (rdX zs y).key := by
  unfold pkS
  rw [Nat.add_sub_cancel, List.getD_eq_getElem?_getD, h]
  rfl
theorem lf_lt {k : Nat} {s key low : ByteArray} (h0 : k ≠ 0 → tL s low = false) (h : tL key low = true) : (if k = 0 then !Op.bytesLess key.toList low.toList else Op.bytesLess s.toList key.toList) = false := by
  split
  · unfold tL at h
    rw [h]
    rfl
  · rename_i hk
    cases e : Op.bytesLess s.toList key.toList with
    | false => rfl
    | true =>
      have h2 : tL s low = true := tL_tr (show tL s key = true from e) h
      rw [h0 hk] at h2
      cases h2
set_option maxRecDepth 100000 in
set_option maxHeartbeats 4000000 in
theorem leafR_any (v : Value) (zs : List Int) (b : Int) (low : ByteArray) (w : World) (hR : Rl w v zs) (hF : Fits zs) (hl : zs.length ≤ 1000) : Calls Tryz.prog 45 #[v, .int .i64 b, .string low] w fun e w' => e = .returned (.bool (lfB (rcA zs) low.toList (plN (rnN zs b).sl))) ∧ Below w.heap.size w w' := by
  have HR : Hid (Rl w v zs) := hR
  have K48 : Hid (∀ y W, Rl W v zs → Calls Tryz.prog 48 #[v, .int .i64 y] W fun e w' => e = .returned (.tuple #[.agg #[.int .i64 (rdX zs y).k, .string (rdX zs y).key, .string (rdX zs y).val, .int .i64 (rdX zs y).ch], .int .i64 (RrdE zs y)]) ∧ Below W.heap.size W w') := fun y W h => RreadR_any v zs y W (h.rd hl) hF hl
  have k43 := fun W (h : Rl W v zs) => readR_any v zs b W (h.rd hl)
  clear hR hF hl
  generalize rnE zs b = E at *
  generalize rnN zs b = n at *
  obtain ⟨lv, tu, nx, lo, sl⟩ := n
  dsimp only at k43 ⊢
  have K43 : Hid (∀ W, Rl W v zs → Calls Tryz.prog 43 #[v, .int .i64 b] W fun e w' => ∃ v', e = .returned (.tuple #[.agg #[.int .i64 lv, .int .i64 tu, .int .i64 nx, .int .i64 lo, v'], .int .i64 E]) ∧ Rd w' v' sl ∧ Below W.heap.size W w') := k43
  have K47 : Hid (∀ u W, Rd W u sl → Calls Tryz.prog 47 #[u] W fun e w' => ∃ v', e = .returned v' ∧ Rd w' v' (plN sl) ∧ Below W.heap.size W w') := fun u W h => plainR_any u sl W h
  clear k43
  generalize plN sl = L at *
  obtain ⟨B, hB⟩ : ∃ B, B = lfB (rcA zs) low.toList L := ⟨_, rfl⟩
  have NONE : Hid (∀ k y, L[k]? = some y → lfX (rcA zs) low.toList L k (pkS zs L k).toList = B → RrdE zs y ≠ 0 → B = false) := fun k y h1 h2 h3 => by rw [← h2]; exact lfX_none h1 (rc_no h3)
  have SOME : Hid (∀ k y, L[k]? = some y → lfX (rcA zs) low.toList L k (pkS zs L k).toList = B → RrdE zs y = 0 → B = (decide ((rdX zs y).k = 1) && (if k = 0 then !Op.bytesLess (rdX zs y).key.toList low.toList else Op.bytesLess (pkS zs L k).toList (rdX zs y).key.toList) && lfX (rcA zs) low.toList L (k + 1) (rdX zs y).key.toList)) := fun k y h1 h2 h3 => by rw [← h2]; exact lfX_some h1 (rc_yes h3)
  have DONE : Hid (∀ k, L.length ≤ k → lfX (rcA zs) low.toList L k (pkS zs L k).toList = B → B = true) := fun k h1 h2 => by rw [← h2]; exact lfX_end h1
  have I0 : Hid (lfX (rcA zs) low.toList L 0 (pkS zs L 0).toList = B) := hB.symm
  have HP : Hid (∀ k y, L[k]? = some y → pkS zs L (k + 1) = (rdX zs y).key) := fun k y h => pk_at h
  rw [← hB]
  clear hB
  go_enter Tryz.func45, Tryz.ntmps45
  go_wp2_with (first
    | (go_at_call 43; refine (K43.out _ HR.out).mono ?_; rintro e w1 ⟨v1, rfl, r1, hb1⟩; obtain ⟨_, a1, c1, rfl⟩ := r1.form; have N1 : Hid (Nb (w1.alloc (.cells #[.int .i64 lv, .int .i64 tu, .int .i64 nx, .int .i64 lo, .slice a1 sl.length c1] 43)) w1.heap.size lv tu nx lo (.slice a1 sl.length c1)) := nb_new w1 lv tu nx lo _; obtain ⟨n0, n1, n2, n3, n4⟩ := N1.out.c; have B1 : Hid (Below w.heap.size w (w1.alloc (.cells #[.int .i64 lv, .int .i64 tu, .int .i64 nx, .int .i64 lo, .slice a1 sl.length c1] 43))) := hb1.alloc hb1.size _; have R1 : Hid (Rd (w1.alloc (.cells #[.int .i64 lv, .int .i64 tu, .int .i64 nx, .int .i64 lo, .slice a1 sl.length c1] 43)) (.slice a1 sl.length c1) sl) := r1.below (below_new _ _); clear r1 hb1)
    | (go_at_call 47; refine (K47.out _ _ R1.out).mono ?_; rintro e w2 ⟨v2, rfl, r2, hb2⟩; obtain ⟨_, a2, c2, rfl⟩ := r2.form; have R2 : Hid (Rd w2 (.slice a2 L.length c2) L) := r2; have B2 : Hid (Below w.heap.size w w2) := bstep B1.out hb2; clear r2 hb2 n0 n1 n2 n3 n4))
  go_loopw [10] (fun i wr => ∃ (k : Nat), k ≤ L.length ∧ i = .int .i64 k ∧ lfX (rcA zs) low.toList L k (pkS zs L k).toList = B ∧ (k ≠ 0 → tL (pkS zs L k) low = false) ∧ Below w2.heap.size w2 wr) (fun i _ => L.length - (Go.RowKit.intOf i).toNat)
  case atStart => exact ⟨0, Nat.zero_le _, rfl, I0.out, fun h => absurd rfl h, Below.refl _ _⟩
  case round =>
    obtain ⟨k, hk, rfl, hX, hp, hbr⟩ := hrel
    have HX : Hid (lfX (rcA zs) low.toList L k (pkS zs L k).toList = B) := hX
    have HPk : Hid (k ≠ 0 → tL (pkS zs L k) low = false) := hp
    have HBr : Hid (Below w2.heap.size w2 wr) := hbr
    have HRr : Hid (Rl wr v zs) := HR.out.below (bstep B2.out hbr)
    have Bw : Hid (Below w.heap.size w wr) := bstep B2.out hbr
    have RL : Hid (Rd wr (.slice a2 L.length c2) L) := R2.out.below hbr
    clear hX hp hbr
    by_cases hlt : k < L.length
    · have hltI : (k : Int) < (L.length : Int) := by omega
      obtain ⟨y, hy⟩ : ∃ y, L[k]? = some y := ⟨_, List.getElem?_eq_getElem hlt⟩
      obtain ⟨bb, off, e2, hcell⟩ := RL.out.at k hlt
      have hs2 : L[k] = y := by rw [List.getElem?_eq_getElem hlt] at hy; exact Option.some.inj hy
      rw [hs2] at hcell
      cases e2
      clear hs2
      by_cases hE : RrdE zs y = 0
      · have hB := SOME.out k y hy HX.out hE
        have k48 := K48.out y
        rw [hE] at k48
        have hpn := HP.out k y hy
        obtain ⟨x, hx⟩ : ∃ x, x = rdX zs y := ⟨_, rfl⟩
        rw [← hx] at k48 hB hpn
        clear hx hE
        obtain ⟨kd, key, val, ch⟩ := x
        dsimp only at k48 hB hpn
        have KY : Hid (∀ W, Rl W v zs → Calls Tryz.prog 48 #[v, .int .i64 y] W fun e w' => e = .returned (.tuple #[.agg #[.int .i64 kd, .string key, .string val, .int .i64 ch], .int .i64 0]) ∧ Below W.heap.size W w') := k48
        have HBk : Hid (B = (decide (kd = 1) && (if k = 0 then !Op.bytesLess key.toList low.toList else Op.bytesLess (pkS zs L k).toList key.toList) && lfX (rcA zs) low.toList L (k + 1) key.toList)) := hB
        have HPn : Hid (pkS zs L (k + 1) = key) := hpn
        clear k48 hB hpn
        by_cases hkd : kd = 1
        · subst hkd
          cases h1 : Op.bytesLess key.toList low.toList with
          | true =>
            have D : Hid (B = false) := show _ = _ by rw [HBk.out, lf_lt HPk.out (show tL key low = true from h1)]; simp
            clear hy
            go_wp2_with (first
              | (go_at_call 48; refine (KY.out _ HRr.out).mono ?_; rintro e w3 ⟨rfl, hb3⟩; have X3 : Hid (RcAt (w3.alloc (.cells #[.int .i64 1, .string key, .string val, .int .i64 ch] 40)) w3.heap.size ⟨1, key, val, ch⟩) := rc_new w3 ⟨1, key, val, ch⟩; obtain ⟨x0, x1, x2, x3⟩ := X3.out.c; have B3 : Hid (Below wr.heap.size wr (w3.alloc (.cells #[.int .i64 1, .string key, .string val, .int .i64 ch] 40))) := hb3.alloc hb3.size _; clear hb3))
            go_ret
            exact ⟨ret_bool D.out.symm, bstep Bw.out B3.out⟩
          | false =>
            by_cases hk0 : k = 0
            · subst hk0
              have XN : Hid (lfX (rcA zs) low.toList L (0 + 1) (pkS zs L (0 + 1)).toList = B) := show _ = _ by rw [HPn.out, HBk.out]; simp [h1]
              have PN : Hid (0 + 1 ≠ 0 → tL (pkS zs L (0 + 1)) low = false) := fun _ => by rw [HPn.out]; exact h1
              rw [Nat.add_zero] at hcell
              rw [show ((0 : Nat) : Int) = (0 : Int) from rfl] at hltI ⊢
              clear hy
              go_wp2_with (first
                | (go_at_call 48; refine (KY.out _ HRr.out).mono ?_; rintro e w3 ⟨rfl, hb3⟩; have X3 : Hid (RcAt (w3.alloc (.cells #[.int .i64 1, .string key, .string val, .int .i64 ch] 40)) w3.heap.size ⟨1, key, val, ch⟩) := rc_new w3 ⟨1, key, val, ch⟩; obtain ⟨x0, x1, x2, x3⟩ := X3.out.c; have B3 : Hid (Below wr.heap.size wr (w3.alloc (.cells #[.int .i64 1, .string key, .string val, .int .i64 ch] 40))) := hb3.alloc hb3.size _; clear hb3))
              go_roundw
              case rel => exact ⟨0 + 1, by omega, by go_num, XN.out, PN.out, bstep HBr.out B3.out⟩
              case measure => simp [Go.RowKit.intOf]; omega
            · obtain ⟨j, rfl⟩ : ∃ j, k = j + 1 := ⟨k - 1, by omega⟩
              obtain ⟨z, hz⟩ : ∃ z, L[j]? = some z := ⟨_, List.getElem?_eq_getElem (by omega)⟩
              obtain ⟨b2, off2, e2, hcz⟩ := RL.out.at j (by omega)
              have hs3 : L[j] = z := by rw [List.getElem?_eq_getElem (by omega)] at hz; exact Option.some.inj hz
              rw [hs3] at hcz
              cases e2
              have k48 := K48.out z
              have hpz := HP.out j z hz
              generalize rdX zs z = x2 at *
              generalize RrdE zs z = E2 at *
              obtain ⟨kd2, key2, val2, ch2⟩ := x2
              dsimp only at k48 hpz
              have KZ : Hid (∀ W, Rl W v zs → Calls Tryz.prog 48 #[v, .int .i64 z] W fun e w' => e = .returned (.tuple #[.agg #[.int .i64 kd2, .string key2, .string val2, .int .i64 ch2], .int .i64 E2]) ∧ Below W.heap.size W w') := k48
              have HBk2 : Hid (B = (decide (1 = 1) && (if j + 1 = 0 then !Op.bytesLess key.toList low.toList else Op.bytesLess key2.toList key.toList) && lfX (rcA zs) low.toList L (j + 1 + 1) key.toList)) := show _ = _ by rw [HBk.out, hpz]; rfl
              rw [show ((j + 1 : Nat) : Int) = (j : Int) + 1 by omega] at hltI ⊢
              have hj0 : (j : Int) + 1 > 0 := by omega
              clear hy hz hs3 k48 hpz hk0
              have t1 : Hid (0 = 0) := rfl
              have t2 : Hid (0 = 0) := rfl
              cases h2 : Op.bytesLess key2.toList key.toList with
              | false =>
                have D : Hid (B = false) := show _ = _ by rw [HBk2.out, if_neg (Nat.succ_ne_zero j), h2]; simp
                go_wp2_with (first
                  | (clear t1; go_at_call 48; refine (KY.out _ HRr.out).mono ?_; rintro e w3 ⟨rfl, hb3⟩; have X3 : Hid (RcAt (w3.alloc (.cells #[.int .i64 1, .string key, .string val, .int .i64 ch] 40)) w3.heap.size ⟨1, key, val, ch⟩) := rc_new w3 ⟨1, key, val, ch⟩; obtain ⟨x0, x1, x2, x3⟩ := X3.out.c; have B3 : Hid (Below wr.heap.size wr (w3.alloc (.cells #[.int .i64 1, .string key, .string val, .int .i64 ch] 40))) := hb3.alloc hb3.size _; have hcz3 := (B3.out.cell (p := ⟨bb, off + j, none⟩) (World.block_lt_of_cell? _ _ hcz)).trans hcz; clear hb3)
                  | (clear t2; go_at_call 48; refine (KZ.out _ (HRr.out.below B3.out)).mono ?_; rintro e w4 ⟨rfl, hb4⟩; clear x0 x1 x2 x3; have X4 : Hid (RcAt (w4.alloc (.cells #[.int .i64 kd2, .string key2, .string val2, .int .i64 ch2] 40)) w4.heap.size ⟨kd2, key2, val2, ch2⟩) := rc_new w4 ⟨kd2, key2, val2, ch2⟩; have Y4 : Hid (RcAt (w4.alloc (.cells #[.int .i64 kd2, .string key2, .string val2, .int .i64 ch2] 40)) w3.heap.size ⟨1, key, val, ch⟩) := (X3.out.below hb4).below (below_new _ _); obtain ⟨x0, x1, x2, x3⟩ := X4.out.c; obtain ⟨y0, y1, y2, y3⟩ := Y4.out.c; have B4 : Hid (Below wr.heap.size wr (w4.alloc (.cells #[.int .i64 kd2, .string key2, .string val2, .int .i64 ch2] 40))) := (bstep B3.out hb4).alloc (bstep B3.out hb4).size _; clear hb4))
                go_ret
                exact ⟨ret_bool D.out.symm, bstep Bw.out B4.out⟩
              | true =>
                have XN : Hid (lfX (rcA zs) low.toList L (j + 1 + 1) (pkS zs L (j + 1 + 1)).toList = B) := show _ = _ by rw [HPn.out, HBk2.out, if_neg (Nat.succ_ne_zero j), h2]; simp
                have PN : Hid (j + 1 + 1 ≠ 0 → tL (pkS zs L (j + 1 + 1)) low = false) := fun _ => by rw [HPn.out]; exact h1
                go_wp2_with (first
                  | (clear t1; go_at_call 48; refine (KY.out _ HRr.out).mono ?_; rintro e w3 ⟨rfl, hb3⟩; have X3 : Hid (RcAt (w3.alloc (.cells #[.int .i64 1, .string key, .string val, .int .i64 ch] 40)) w3.heap.size ⟨1, key, val, ch⟩) := rc_new w3 ⟨1, key, val, ch⟩; obtain ⟨x0, x1, x2, x3⟩ := X3.out.c; have B3 : Hid (Below wr.heap.size wr (w3.alloc (.cells #[.int .i64 1, .string key, .string val, .int .i64 ch] 40))) := hb3.alloc hb3.size _; have hcz3 := (B3.out.cell (p := ⟨bb, off + j, none⟩) (World.block_lt_of_cell? _ _ hcz)).trans hcz; clear hb3)
                  | (clear t2; go_at_call 48; refine (KZ.out _ (HRr.out.below B3.out)).mono ?_; rintro e w4 ⟨rfl, hb4⟩; clear x0 x1 x2 x3; have X4 : Hid (RcAt (w4.alloc (.cells #[.int .i64 kd2, .string key2, .string val2, .int .i64 ch2] 40)) w4.heap.size ⟨kd2, key2, val2, ch2⟩) := rc_new w4 ⟨kd2, key2, val2, ch2⟩; have Y4 : Hid (RcAt (w4.alloc (.cells #[.int .i64 kd2, .string key2, .string val2, .int .i64 ch2] 40)) w3.heap.size ⟨1, key, val, ch⟩) := (X3.out.below hb4).below (below_new _ _); obtain ⟨x0, x1, x2, x3⟩ := X4.out.c; obtain ⟨y0, y1, y2, y3⟩ := Y4.out.c; have B4 : Hid (Below wr.heap.size wr (w4.alloc (.cells #[.int .i64 kd2, .string key2, .string val2, .int .i64 ch2] 40))) := (bstep B3.out hb4).alloc (bstep B3.out hb4).size _; clear hb4))
                go_roundw
                case rel => exact ⟨j + 1 + 1, by omega, by go_num, XN.out, PN.out, bstep HBr.out B4.out⟩
                case measure => simp [Go.RowKit.intOf]; omega
        · have D : Hid (B = false) := show _ = _ by rw [HBk.out]; simp [hkd]
          have hE1 : (kd == 1) = false := by simp [hkd]
          have hN1 : (kd != 1) = true := by simp [hkd]
          clear hkd hy
          go_wp2_with (first
            | (go_at_call 48; refine (KY.out _ HRr.out).mono ?_; rintro e w3 ⟨rfl, hb3⟩; have X3 : Hid (RcAt (w3.alloc (.cells #[.int .i64 kd, .string key, .string val, .int .i64 ch] 40)) w3.heap.size ⟨kd, key, val, ch⟩) := rc_new w3 ⟨kd, key, val, ch⟩; obtain ⟨x0, x1, x2, x3⟩ := X3.out.c; have B3 : Hid (Below wr.heap.size wr (w3.alloc (.cells #[.int .i64 kd, .string key, .string val, .int .i64 ch] 40))) := hb3.alloc hb3.size _; clear hb3))
          go_ret
          exact ⟨ret_bool D.out.symm, bstep Bw.out B3.out⟩
      · have D : Hid (B = false) := NONE.out k y hy HX.out hE
        have k48 := K48.out y
        have hE1 : (RrdE zs y == 0) = false := by simp [hE]
        have hN1 : (RrdE zs y != 0) = true := by simp [hE]
        clear hE hy
        generalize rdX zs y = x at *
        generalize RrdE zs y = E1 at *
        have KY : Hid (∀ W, Rl W v zs → Calls Tryz.prog 48 #[v, .int .i64 y] W fun e w' => e = .returned (.tuple #[.agg #[.int .i64 x.k, .string x.key, .string x.val, .int .i64 x.ch], .int .i64 E1]) ∧ Below W.heap.size W w') := k48
        clear k48
        go_wp2_with (first
          | (go_at_call 48; refine (KY.out _ HRr.out).mono ?_; rintro e w3 ⟨rfl, hb3⟩; have B3 : Hid (Below wr.heap.size wr (w3.alloc (.cells #[.int .i64 x.k, .string x.key, .string x.val, .int .i64 x.ch] 40))) := hb3.alloc hb3.size _; clear hb3))
        go_ret
        exact ⟨ret_bool D.out.symm, bstep Bw.out B3.out⟩
    · have hge : ¬ (k : Int) < (L.length : Int) := by omega
      have D : Hid (B = true) := DONE.out k (by omega) HX.out
      go_wp2
      go_ret
      exact ⟨ret_bool D.out.symm, Bw.out⟩
end Go.Proofs.YtcgclhahonndbaaGreat
