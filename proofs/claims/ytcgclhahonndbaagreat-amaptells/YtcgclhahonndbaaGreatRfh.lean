/- The document's own, Own, Pairs. · The document's Own, Pairs. -/
import Derived.Test.YtcgclhahonndbaaGreatRfe
import Derived.Test.YtcgclhahonndbaaGreatPoh
namespace Go.Proofs.YtcgclhahonndbaaGreat
open Go.RowKit Go.Shelf Classical
set_option linter.unusedVariables false

/-- Which of a leaf's pairs the document's own keeps. -/
def kpB (nx : Int) (H : ByteArray) (p : Pa) : Bool := (nx == 0) || tL p.k H
def ownZ (zs : List Int) (b : Int) : List Pa := (kvL zs b).filter (kpB (rnN zs b).nx (loS zs (rnN zs b).nx))
theorem ownZ_eq {zs L : List Int} (hL : lvA zs = some L) (hs : sndB zs = true) {b : Int} (hb : b ∈ L) : ownZ zs b = ownL zs b := by
  obtain ⟨i, hi⟩ := List.getElem?_of_mem hb
  rw [ownL_at hL hs hi]
  have hn := leaf_next hL hi
  unfold ownZ
  cases hc : L[i + 1]? with
  | none =>
    rw [hc] at hn
    have hn : (rnN zs b).nx = 0 := hn
    have hd : L.drop (i + 1) = [] := List.drop_eq_nil_of_le (List.getElem?_eq_none_iff.1 hc)
    rw [hd, hn]
    show _ = kvL zs b
    rw [List.filter_eq_self]
    intro p _
    unfold kpB
    simp
  | some c =>
    rw [hc] at hn
    have hn : (rnN zs b).nx = c := hn
    obtain ⟨hlt, e⟩ := List.getElem?_eq_some_iff.1 hc
    rw [List.drop_eq_getElem_cons hlt, e, hn]
    have hc0 : c ≠ 0 := ((lvA_out hL).2.2.1 c (List.mem_of_getElem? hc)).1
    show _ = (kvL zs b).filter fun p => tL p.k (loS zs c)
    congr 1
    funext p
    unfold kpB
    simp [hc0]
def ozK (zs L : List Int) (nx : Int) (H : ByteArray) (k : Nat) : List Pa := ((L.take k).map (rcP zs)).filter (kpB nx H)
theorem oz_yes {zs L : List Int} {nx : Int} {H : ByteArray} {k : Nat} {y : Int} (h : L[k]? = some y) (hk : kpB nx H (rcP zs y) = true) : ozK zs L nx H (k + 1) = ozK zs L nx H k ++ [rcP zs y] := by
  unfold ozK
  rw [take_nextz h, List.map_append, List.filter_append]
  simp [hk]
theorem oz_no {zs L : List Int} {nx : Int} {H : ByteArray} {k : Nat} {y : Int} (h : L[k]? = some y) (hk : kpB nx H (rcP zs y) = false) : ozK zs L nx H (k + 1) = ozK zs L nx H k := by
  unfold ozK
  rw [take_nextz h, List.map_append, List.filter_append]
  simp [hk]
theorem oz_len (zs L : List Int) (nx : Int) (H : ByteArray) (k : Nat) : (ozK zs L nx H k).length ≤ L.length := by
  unfold ozK
  refine Nat.le_trans (List.length_filter_le _ _) ?_
  rw [List.length_map, List.length_take]
  omega
set_option maxRecDepth 100000 in
set_option maxHeartbeats 4000000 in
theorem ownR_any (v : Value) (zs : List Int) (b : Int) (w : World) (hR : Rl w v zs) (hF : Fits zs) (hl : zs.length ≤ 1000) : Calls Tryz.prog 27 #[v, .int .i64 b] w fun e w' => ∃ v', e = .returned v' ∧ OwnP w' w.heap.size v' (ownZ zs b) ∧ Below w.heap.size w w' := by
  have HR : Hid (Rl w v zs) := hR
  have K48 : Hid (∀ y W, Rl W v zs → Calls Tryz.prog 48 #[v, .int .i64 y] W fun e w' => e = .returned (.tuple #[.agg #[.int .i64 (rdX zs y).k, .string (rdX zs y).key, .string (rdX zs y).val, .int .i64 (rdX zs y).ch], .int .i64 (RrdE zs y)]) ∧ Below W.heap.size W w') := fun y W h => RreadR_any v zs y W (h.rd hl) hF hl
  have k43 := fun W (h : Rl W v zs) => readR_any v zs b W (h.rd hl)
  have k44 := fun W (h : Rl W v zs) => lowR_any v zs (rnN zs b).nx W h hF hl
  obtain ⟨hsl, _⟩ := sl_small zs b
  have hpl := plN_le (rnN zs b).sl
  have HZ : Hid (ownZ zs b = ((plN (rnN zs b).sl).map (rcP zs)).filter (kpB (rnN zs b).nx (loS zs (rnN zs b).nx))) := rfl
  clear hR hF hl
  generalize ownZ zs b = Z at *
  generalize rnE zs b = E at *
  generalize rnN zs b = n at *
  obtain ⟨lv, tu, nx, lo, sl⟩ := n
  dsimp only at k43 k44 hsl hpl HZ
  have K43 : Hid (∀ W, Rl W v zs → Calls Tryz.prog 43 #[v, .int .i64 b] W fun e w' => ∃ v', e = .returned (.tuple #[.agg #[.int .i64 lv, .int .i64 tu, .int .i64 nx, .int .i64 lo, v'], .int .i64 E]) ∧ Rd w' v' sl ∧ Below W.heap.size W w') := k43
  have K47 : Hid (∀ u W, Rd W u sl → Calls Tryz.prog 47 #[u] W fun e w' => ∃ v', e = .returned v' ∧ Rd w' v' (plN sl) ∧ Below W.heap.size W w') := fun u W h => plainR_any u sl W h
  clear k43
  generalize plN sl = L at *
  generalize loS zs nx = H at *
  generalize loE zs nx = HE at *
  have K44 : Hid (∀ W, Rl W v zs → Calls Tryz.prog 44 #[v, .int .i64 nx] W fun e w' => e = .returned (.tuple #[.string H, .int .i64 HE]) ∧ Below W.heap.size W w') := k44
  have HLN : Hid (∀ k, (ozK zs L nx H k).length ≤ 13) := fun k => by have := oz_len zs L nx H k; omega
  clear k44 hpl
  go_enter Tryz.func27, Tryz.ntmps27
  go_wp2_with (first
    | (go_at_call 43; refine (K43.out _ HR.out).mono ?_; rintro e w1 ⟨v1, rfl, r1, hb1⟩; obtain ⟨_, a1, c1, rfl⟩ := r1.form; have N1 : Hid (Nb (w1.alloc (.cells #[.int .i64 lv, .int .i64 tu, .int .i64 nx, .int .i64 lo, .slice a1 sl.length c1] 43)) w1.heap.size lv tu nx lo (.slice a1 sl.length c1)) := nb_new w1 lv tu nx lo _; obtain ⟨n0, n1, n2, n3, n4⟩ := N1.out.c; have B1 : Hid (Below w.heap.size w (w1.alloc (.cells #[.int .i64 lv, .int .i64 tu, .int .i64 nx, .int .i64 lo, .slice a1 sl.length c1] 43))) := hb1.alloc hb1.size _; have R1 : Hid (Rd (w1.alloc (.cells #[.int .i64 lv, .int .i64 tu, .int .i64 nx, .int .i64 lo, .slice a1 sl.length c1] 43)) (.slice a1 sl.length c1) sl) := r1.below (below_new _ _); clear r1 hb1)
    | (go_at_call 47; refine (K47.out _ _ R1.out).mono ?_; rintro e w2 ⟨v2, rfl, r2, hb2⟩; obtain ⟨_, a2, c2, rfl⟩ := r2.form; have R2 : Hid (Rd w2 (.slice a2 L.length c2) L) := r2; have B2 : Hid (Below w.heap.size w w2) := bstep B1.out hb2; have N2 : Hid (Nb w2 w1.heap.size lv tu nx lo (.slice a1 sl.length c1)) := N1.out.below hb2; clear r2 hb2 n0 n1 n2 n3 n4; obtain ⟨n0, n1, n2, n3, n4⟩ := N2.out.c)
    | (go_at_call 44; refine (K44.out _ (HR.out.below B2.out)).mono ?_; rintro e w3 ⟨rfl, hb3⟩; have R3 : Hid (Rd w3 (.slice a2 L.length c2) L) := R2.out.below hb3; have B3 : Hid (Below w.heap.size w w3) := bstep B2.out hb3; have N3 : Hid (Nb w3 w1.heap.size lv tu nx lo (.slice a1 sl.length c1)) := N2.out.below hb3; clear hb3 n0 n1 n2 n3 n4))
  go_loopw [10, 11] (fun u i wr => ∃ (k : Nat) (o : Value), k ≤ L.length ∧ o = u ∧ i = .int .i64 k ∧ OwnP wr w3.heap.size o (ozK zs L nx H k) ∧ Below w3.heap.size w3 wr) (fun _ i _ => L.length - (Go.RowKit.intOf i).toNat)
  case atStart => exact ⟨0, _, Nat.zero_le _, rfl, rfl, OwnP.bare _ _, Below.refl _ _⟩
  case round =>
    obtain ⟨k, o, hk, rfl, rfl, ho, hbr⟩ := hrel
    have HO : Hid (OwnP wr w3.heap.size o (ozK zs L nx H k)) := ho
    have HBr : Hid (Below w3.heap.size w3 wr) := hbr
    have hn := HLN.out k
    clear ho hbr
    by_cases hlt : k < L.length
    · have hltI : (k : Int) < (L.length : Int) := by omega
      obtain ⟨y, hy⟩ : ∃ y, L[k]? = some y := ⟨_, List.getElem?_eq_getElem hlt⟩
      obtain ⟨bb, off, e2, hcell⟩ := (R3.out.below HBr.out).at k hlt
      have hs2 : L[k] = y := by rw [List.getElem?_eq_getElem hlt] at hy; exact Option.some.inj hy
      rw [hs2] at hcell
      cases e2
      have k48 := K48.out y
      have YES : Hid (kpB nx H (rcP zs y) = true → ozK zs L nx H (k + 1) = ozK zs L nx H k ++ [rcP zs y]) := fun h => oz_yes hy h
      have NO : Hid (kpB nx H (rcP zs y) = false → ozK zs L nx H (k + 1) = ozK zs L nx H k) := fun h => oz_no hy h
      have hrc : rcP zs y = ⟨(rdX zs y).key, (rdX zs y).val⟩ := rfl
      rw [hrc] at YES NO
      clear hrc hs2 hy
      generalize RrdE zs y = E1 at *
      generalize rdX zs y = x at *
      obtain ⟨kd, key, val, ch⟩ := x
      dsimp only at k48 YES NO
      have KY : Hid (∀ W, Rl W v zs → Calls Tryz.prog 48 #[v, .int .i64 y] W fun e w' => e = .returned (.tuple #[.agg #[.int .i64 kd, .string key, .string val, .int .i64 ch], .int .i64 E1]) ∧ Below W.heap.size W w') := k48
      have HRr : Hid (Rl wr v zs) := HR.out.below (bstep B3.out HBr.out)
      have NR : Hid (Nb wr w1.heap.size lv tu nx lo (.slice a1 sl.length c1)) := N3.out.below HBr.out
      clear k48
      by_cases hx : nx = 0
      · subst hx
        have XN : Hid (ozK zs L 0 H (k + 1) = ozK zs L 0 H k ++ [⟨key, val⟩]) := YES.out (by unfold kpB; simp)
        clear YES NO
        go_wp2_with (first
          | (go_at_call 48; refine (KY.out _ HRr.out).mono ?_; rintro e w4 ⟨rfl, hb4⟩; have X4 : Hid (RcAt (w4.alloc (.cells #[.int .i64 kd, .string key, .string val, .int .i64 ch] 40)) w4.heap.size ⟨kd, key, val, ch⟩) := rc_new w4 ⟨kd, key, val, ch⟩; obtain ⟨x0, x1, x2, x3⟩ := X4.out.c; have B4 : Hid (Below wr.heap.size wr (w4.alloc (.cells #[.int .i64 kd, .string key, .string val, .int .i64 ch] 40))) := hb4.alloc hb4.size _; have N4 : Hid (Nb (w4.alloc (.cells #[.int .i64 kd, .string key, .string val, .int .i64 ch] 40)) w1.heap.size lv tu 0 lo (.slice a1 sl.length c1)) := NR.out.below B4.out; obtain ⟨n0, n1, n2, n3, n4⟩ := N4.out.c; clear hb4)
          | (at_builtin; have t0 := bstep HBr.out B4.out; have t2 := (HO.out.below B4.out).below (below_new (w4.alloc (.cells #[.int .i64 kd, .string key, .string val, .int .i64 ch] 40)) (.cells #[.string key, .string val] 45)); have t4 := t0.alloc t0.size (.cells #[.string key, .string val] 45); have t3 := t4.size; refine append_rdc rfl _ _ 23 rfl w3.heap.size 45 2 _ 32 Tryz.underlying23 Tryz.info45 rfl (by decide) (by decide) _ _ _ rfl t2 _ 1 (pc1 ⟨key, val⟩) rfl (lit_rdc _ 45 (pc1 ⟨key, val⟩) 2 _ rfl (by simp)) (pc1_one ⟨key, val⟩) (by omega) t3 ?_; intro v5 w5 o5 g5; have B5 : Hid (Below w3.heap.size w3 w5) := t4.grown g5 t3 (fun q hq => (World.ownsRow.lt t2 q hq).1); have O5 : Hid (OwnP w5 w3.heap.size v5 (ozK zs L 0 H (k + 1))) := (by rw [XN.out]; exact OwnP.snoc o5); clear o5 g5 t0 t2 t3 t4))
        go_roundw
        case rel => exact ⟨k + 1, _, by omega, rfl, by go_num, O5.out, B5.out⟩
        case measure => simp [Go.RowKit.intOf]; omega
      · have hx2 : (nx == 0) = false := by simpa using hx
        cases htl : Op.bytesLess key.toList H.toList with
        | true =>
          have XN : Hid (ozK zs L nx H (k + 1) = ozK zs L nx H k ++ [⟨key, val⟩]) := YES.out (by unfold kpB; rw [show tL key H = true from htl, Bool.or_true])
          clear YES NO hx
          go_wp2_with (first
            | (go_at_call 48; refine (KY.out _ HRr.out).mono ?_; rintro e w4 ⟨rfl, hb4⟩; have X4 : Hid (RcAt (w4.alloc (.cells #[.int .i64 kd, .string key, .string val, .int .i64 ch] 40)) w4.heap.size ⟨kd, key, val, ch⟩) := rc_new w4 ⟨kd, key, val, ch⟩; obtain ⟨x0, x1, x2, x3⟩ := X4.out.c; have B4 : Hid (Below wr.heap.size wr (w4.alloc (.cells #[.int .i64 kd, .string key, .string val, .int .i64 ch] 40))) := hb4.alloc hb4.size _; have N4 : Hid (Nb (w4.alloc (.cells #[.int .i64 kd, .string key, .string val, .int .i64 ch] 40)) w1.heap.size lv tu nx lo (.slice a1 sl.length c1)) := NR.out.below B4.out; obtain ⟨n0, n1, n2, n3, n4⟩ := N4.out.c; clear hb4)
            | (at_builtin; have t0 := bstep HBr.out B4.out; have t2 := (HO.out.below B4.out).below (below_new (w4.alloc (.cells #[.int .i64 kd, .string key, .string val, .int .i64 ch] 40)) (.cells #[.string key, .string val] 45)); have t4 := t0.alloc t0.size (.cells #[.string key, .string val] 45); have t3 := t4.size; refine append_rdc rfl _ _ 23 rfl w3.heap.size 45 2 _ 32 Tryz.underlying23 Tryz.info45 rfl (by decide) (by decide) _ _ _ rfl t2 _ 1 (pc1 ⟨key, val⟩) rfl (lit_rdc _ 45 (pc1 ⟨key, val⟩) 2 _ rfl (by simp)) (pc1_one ⟨key, val⟩) (by omega) t3 ?_; intro v5 w5 o5 g5; have B5 : Hid (Below w3.heap.size w3 w5) := t4.grown g5 t3 (fun q hq => (World.ownsRow.lt t2 q hq).1); have O5 : Hid (OwnP w5 w3.heap.size v5 (ozK zs L nx H (k + 1))) := (by rw [XN.out]; exact OwnP.snoc o5); clear o5 g5 t0 t2 t3 t4))
          go_roundw
          case rel => exact ⟨k + 1, _, by omega, rfl, by go_num, O5.out, B5.out⟩
          case measure => simp [Go.RowKit.intOf]; omega
        | false =>
          have XN : Hid (OwnP wr w3.heap.size o (ozK zs L nx H (k + 1))) := by (show OwnP _ _ _ _; rw [NO.out (by unfold kpB; rw [show tL key H = false from htl, Bool.or_false]; exact hx2)]; exact HO.out)
          clear YES NO hx
          go_wp2_with (first
            | (go_at_call 48; refine (KY.out _ HRr.out).mono ?_; rintro e w4 ⟨rfl, hb4⟩; have X4 : Hid (RcAt (w4.alloc (.cells #[.int .i64 kd, .string key, .string val, .int .i64 ch] 40)) w4.heap.size ⟨kd, key, val, ch⟩) := rc_new w4 ⟨kd, key, val, ch⟩; obtain ⟨x0, x1, x2, x3⟩ := X4.out.c; have B4 : Hid (Below wr.heap.size wr (w4.alloc (.cells #[.int .i64 kd, .string key, .string val, .int .i64 ch] 40))) := hb4.alloc hb4.size _; have N4 : Hid (Nb (w4.alloc (.cells #[.int .i64 kd, .string key, .string val, .int .i64 ch] 40)) w1.heap.size lv tu nx lo (.slice a1 sl.length c1)) := NR.out.below B4.out; obtain ⟨n0, n1, n2, n3, n4⟩ := N4.out.c; clear hb4))
          go_roundw
          case rel => exact ⟨k + 1, _, by omega, rfl, by go_num, XN.out.below B4.out, bstep HBr.out B4.out⟩
          case measure => simp [Go.RowKit.intOf]; omega
    · have hge : ¬ (k : Int) < (L.length : Int) := by omega
      have XN : Hid (OwnP wr w3.heap.size o Z) := by (show OwnP _ _ _ _; have := HO.out; unfold ozK at this; rw [List.take_of_length_le (by omega)] at this; rw [HZ.out]; exact this)
      go_wp2
      exact bodyPost_ret (results_tmp rfl _ _ _) rfl ⟨o, rfl, XN.out.mono B3.out.size, bstep B3.out HBr.out⟩
end Go.Proofs.YtcgclhahonndbaaGreat
namespace Go.Proofs.YtcgclhahonndbaaGreat
open Go.RowKit Go.Shelf Classical
set_option linter.unusedVariables false

set_option maxRecDepth 100000 in
set_option maxHeartbeats 4000000 in
theorem ownsR_any (v : Value) (zs : List Int) (b : Int) (w : World) (hR : Rl w v zs) (hF : Fits zs) (hl : zs.length ≤ 1000) : Calls Tryz.prog 7 #[v, .int .i64 b] w fun e w' => ∃ v', e = .returned (.tuple #[v', .int .i64 (owE zs b)]) ∧ RdP w' v' (owL zs b) ∧ Below w.heap.size w w' := by
  have HR : Hid (Rl w v zs) := hR
  have k24 := fun W (h : Rl W v zs) => checkR_any v zs W h hF hl
  have k25 := fun W (h : Rl W v zs) => leavesR_any v zs W h hl
  have k27 := fun W (h : Rl W v zs) => ownR_any v zs b W h hF hl
  cases hs : sndB zs with
  | false =>
    have hc : chE zs = 110 := by unfold chE; rw [hs]; rfl
    have he : owE zs b = 110 := by unfold owE; rw [hs]; rfl
    have hL : owL zs b = [] := by unfold owL; rw [hs]; rfl
    rw [hc] at k24
    rw [he, hL]
    have K24 : Hid (∀ W, Rl W v zs → Calls Tryz.prog 24 #[v] W fun e w' => e = .returned (.int .i64 110) ∧ Below W.heap.size W w') := k24
    clear k24 k25 k27 hc he hL hs hR hF hl
    go_enter Tryz.func7, Tryz.ntmps7
    go_wp2_with (first
      | (go_at_call 24; refine (K24.out _ HR.out).mono ?_; rintro e w1 ⟨rfl, hb1⟩))
    exact bodyPost_ret (results_tmp2 rfl _ _ _) rfl ⟨_, rfl, RdP.bare _, hb1⟩
  | true =>
    obtain ⟨L, hL⟩ := snd_leaves hs
    have hLv : lvL zs = L := by unfold lvL; rw [hL]; rfl
    have hLe : lvE zs = 0 := by unfold lvE; rw [hL]
    have hc : chE zs = 0 := by unfold chE; rw [hs]; rfl
    have h62 := lv_few hL hl
    rw [hc] at k24
    rw [hLv, hLe] at k25
    have K24 : Hid (∀ W, Rl W v zs → Calls Tryz.prog 24 #[v] W fun e w' => e = .returned (.int .i64 0) ∧ Below W.heap.size W w') := k24
    have K25 : Hid (∀ W, Rl W v zs → Calls Tryz.prog 25 #[v] W fun e w' => ∃ v', e = .returned (.tuple #[v', .int .i64 0]) ∧ Rd w' v' L ∧ Below W.heap.size W w') := k25
    clear k24 k25 hc hLe hR hF hl
    by_cases hb : b ∈ L
    · have he : owE zs b = 0 := by unfold owE; rw [hs, hLv, if_pos rfl, if_pos hb]
      have hO : owL zs b = ownL zs b := by unfold owL; rw [hs, hLv, if_pos ⟨rfl, hb⟩]
      have hln := ownL_len zs b
      rw [ownZ_eq hL hs hb] at k27
      rw [he, hO]
      have HI : Hid (∀ u W, Rd W u L → Calls Tryz.prog 26 #[u, .int .i64 b] W fun e w' => e = .returned (.bool true) ∧ w' = W) := fun u W h => by
        have k := in_any u L b W h
        rwa [decide_eq_true hb] at k
      clear he hO hL hLv hs hb
      generalize ownL zs b = D at *
      have K27 : Hid (∀ W, Rl W v zs → Calls Tryz.prog 27 #[v, .int .i64 b] W fun e w' => ∃ v', e = .returned v' ∧ OwnP w' W.heap.size v' D ∧ Below W.heap.size W w') := k27
      clear k27
      go_enter Tryz.func7, Tryz.ntmps7
      go_wp2_with (first
        | (go_at_call 24; refine (K24.out _ HR.out).mono ?_; rintro e w1 ⟨rfl, hb1⟩; have B1 : Hid (Below w.heap.size w w1) := hb1; clear hb1)
        | (go_at_call 25; refine (K25.out _ (HR.out.below B1.out)).mono ?_; rintro e w2 ⟨v2, rfl, r2, hb2⟩; obtain ⟨_, a2, c2, rfl⟩ := r2.form; have R2 : Hid (Rd w2 (.slice a2 L.length c2) L) := r2; have B2 : Hid (Below w.heap.size w w2) := bstep B1.out hb2; clear r2 hb2)
        | (go_at_call 26; refine (HI.out _ _ R2.out).mono ?_; rintro e w3 ⟨rfl, rfl⟩)
        | (go_at_call 27; refine (K27.out _ (HR.out.below B2.out)).mono ?_; rintro e w4 ⟨v4, rfl, o4, hb4⟩; have R4 : Hid (RdP w4 v4 D) := o4.rd (by omega); have B4 : Hid (Below w.heap.size w w4) := bstep B2.out hb4; clear o4 hb4))
      exact bodyPost_ret (results_tmp2 rfl _ _ _) rfl ⟨v4, rfl, R4.out, B4.out⟩
    · have he : owE zs b = 1 := by unfold owE; rw [hs, hLv, if_pos rfl, if_neg hb]
      have hO : owL zs b = [] := by unfold owL; rw [hs, hLv, if_neg (fun h => hb h.2)]
      rw [he, hO]
      have HI : Hid (∀ u W, Rd W u L → Calls Tryz.prog 26 #[u, .int .i64 b] W fun e w' => e = .returned (.bool false) ∧ w' = W) := fun u W h => by
        have k := in_any u L b W h
        rwa [decide_eq_false hb] at k
      clear he hO hL hLv hs hb k27
      go_enter Tryz.func7, Tryz.ntmps7
      go_wp2_with (first
        | (go_at_call 24; refine (K24.out _ HR.out).mono ?_; rintro e w1 ⟨rfl, hb1⟩; have B1 : Hid (Below w.heap.size w w1) := hb1; clear hb1)
        | (go_at_call 25; refine (K25.out _ (HR.out.below B1.out)).mono ?_; rintro e w2 ⟨v2, rfl, r2, hb2⟩; obtain ⟨_, a2, c2, rfl⟩ := r2.form; have R2 : Hid (Rd w2 (.slice a2 L.length c2) L) := r2; have B2 : Hid (Below w.heap.size w w2) := bstep B1.out hb2; clear r2 hb2)
        | (go_at_call 26; refine (HI.out _ _ R2.out).mono ?_; rintro e w3 ⟨rfl, rfl⟩))
      exact bodyPost_ret (results_tmp2 rfl _ _ _) rfl ⟨_, rfl, RdP.bare _, B2.out⟩
set_option maxRecDepth 100000 in
set_option maxHeartbeats 4000000 in
theorem pairsR_any (v : Value) (zs : List Int) (w : World) (hR : Rl w v zs) (hF : Fits zs) (hl : zs.length ≤ 1000) : Calls Tryz.prog 9 #[v] w fun e w' => ∃ v', e = .returned (.tuple #[v', .int .i64 (chE zs)]) ∧ RdP w' v' ((slL zs).flatMap (ownL zs)) ∧ Below w.heap.size w w' := by
  have HR : Hid (Rl w v zs) := hR
  have k24 := fun W (h : Rl W v zs) => checkR_any v zs W h hF hl
  have k25 := fun W (h : Rl W v zs) => leavesR_any v zs W h hl
  cases hs : sndB zs with
  | false =>
    have hc : chE zs = 110 := by unfold chE; rw [hs]; rfl
    have hL : (slL zs).flatMap (ownL zs) = [] := by unfold slL; rw [hs]; rfl
    rw [hc] at k24
    rw [hc, hL]
    have K24 : Hid (∀ W, Rl W v zs → Calls Tryz.prog 24 #[v] W fun e w' => e = .returned (.int .i64 110) ∧ Below W.heap.size W w') := k24
    clear k24 k25 hc hL hs hR hF hl
    go_enter Tryz.func9, Tryz.ntmps9
    go_wp2_with (first
      | (go_at_call 24; refine (K24.out _ HR.out).mono ?_; rintro e w1 ⟨rfl, hb1⟩))
    exact bodyPost_ret (results_tmp2 rfl _ _ _) rfl ⟨_, rfl, RdP.bare _, hb1⟩
  | true =>
    obtain ⟨L, hL⟩ := snd_leaves hs
    have hLv : lvL zs = L := by unfold lvL; rw [hL]; rfl
    have hLe : lvE zs = 0 := by unfold lvE; rw [hL]
    have hsl : slL zs = L := by unfold slL; rw [hs, hLv]; rfl
    have hc : chE zs = 0 := by unfold chE; rw [hs]; rfl
    have h62 := lv_few hL hl
    have hfl := flat_len zs L
    rw [hc] at k24
    rw [hLv, hLe] at k25
    rw [hc, hsl]
    have K24 : Hid (∀ W, Rl W v zs → Calls Tryz.prog 24 #[v] W fun e w' => e = .returned (.int .i64 0) ∧ Below W.heap.size W w') := k24
    have K25 : Hid (∀ W, Rl W v zs → Calls Tryz.prog 25 #[v] W fun e w' => ∃ v', e = .returned (.tuple #[v', .int .i64 0]) ∧ Rd w' v' L ∧ Below W.heap.size W w') := k25
    have K27 : Hid (∀ b W, b ∈ L → Rl W v zs → Calls Tryz.prog 27 #[v, .int .i64 b] W fun e w' => ∃ v', e = .returned v' ∧ OwnP w' W.heap.size v' (ownL zs b) ∧ Below W.heap.size W w') := fun b W hb h => by
      have := ownR_any v zs b W h hF hl
      rwa [ownZ_eq hL hs hb] at this
    have HLn : Hid (∀ k : Nat, ((L.take k).flatMap (ownL zs)).length ≤ 806) := fun k => by
      have := flat_len zs (L.take k)
      rw [List.length_take] at this
      omega
    clear k24 k25 hc hLe hR hF hl hL hLv hsl hs
    go_enter Tryz.func9, Tryz.ntmps9
    go_wp2_with (first
      | (go_at_call 24; refine (K24.out _ HR.out).mono ?_; rintro e w1 ⟨rfl, hb1⟩; have B1 : Hid (Below w.heap.size w w1) := hb1; clear hb1)
      | (go_at_call 25; refine (K25.out _ (HR.out.below B1.out)).mono ?_; rintro e w2 ⟨v2, rfl, r2, hb2⟩; obtain ⟨_, a2, c2, rfl⟩ := r2.form; have R2 : Hid (Rd w2 (.slice a2 L.length c2) L) := r2; have B2 : Hid (Below w.heap.size w w2) := bstep B1.out hb2; clear r2 hb2))
    go_loopw [6, 7] (fun u i wr => ∃ (k : Nat) (o : Value), k ≤ L.length ∧ o = u ∧ i = .int .i64 k ∧ OwnP wr w2.heap.size o ((L.take k).flatMap (ownL zs)) ∧ Below w2.heap.size w2 wr) (fun _ i _ => L.length - (Go.RowKit.intOf i).toNat)
    case atStart => exact ⟨0, _, Nat.zero_le _, rfl, rfl, OwnP.bare _ _, Below.refl _ _⟩
    case round =>
      obtain ⟨k, o, hk, rfl, rfl, ho, hbr⟩ := hrel
      have HO : Hid (OwnP wr w2.heap.size o ((L.take k).flatMap (ownL zs))) := ho
      have HBr : Hid (Below w2.heap.size w2 wr) := hbr
      have hn := HLn.out k
      clear ho hbr
      by_cases hlt : k < L.length
      · have hltI : (k : Int) < (L.length : Int) := by omega
        obtain ⟨b, hb⟩ : ∃ b, L[k]? = some b := ⟨_, List.getElem?_eq_getElem hlt⟩
        obtain ⟨bb, off, e2, hcell⟩ := (R2.out.below HBr.out).at k hlt
        have hs2 : L[k] = b := by rw [List.getElem?_eq_getElem hlt] at hb; exact Option.some.inj hb
        rw [hs2] at hcell
        cases e2
        have XN : Hid ((L.take (k + 1)).flatMap (ownL zs) = (L.take k).flatMap (ownL zs) ++ ownL zs b) := flat_next zs hb
        have hB9 := ownL_len zs b
        have k27 := fun W h => K27.out b W (List.mem_of_getElem? hb) h
        have HRr : Hid (Rl wr v zs) := HR.out.below (bstep B2.out HBr.out)
        clear hb hs2
        generalize hPe : (L.take k).flatMap (ownL zs) = P at *
        generalize ownL zs b = D at *
        have KD : Hid (∀ W, Rl W v zs → Calls Tryz.prog 27 #[v, .int .i64 b] W fun e w' => ∃ v', e = .returned v' ∧ OwnP w' W.heap.size v' D ∧ Below W.heap.size W w') := k27
        clear hPe k27
        go_wp2_with (first
          | (go_at_call 27; refine (KD.out _ HRr.out).mono ?_; rintro e w4 ⟨v4, rfl, o4, hb4⟩; have R4 : Hid (RdP w4 v4 D) := o4.rd (by omega); have B4 : Hid (Below w2.heap.size w2 w4) := bstep HBr.out hb4; have O4 : Hid (OwnP w4 w2.heap.size o P) := HO.out.below hb4; clear o4 hb4)
          | (at_builtin; have t3 := B4.out.size; refine append_rdc rfl _ _ 23 rfl w2.heap.size 45 2 _ 32 Tryz.underlying23 Tryz.info45 rfl (by decide) (by decide) _ _ _ rfl O4.out _ D.length (pcs D) rfl R4.out (pcs_one D) (by omega) t3 ?_; intro v5 w5 o5 g5; have B5 : Hid (Below w2.heap.size w2 w5) := B4.out.grown g5 t3 (fun q hq => (World.ownsRow.lt O4.out q hq).1); have O5 : Hid (OwnP w5 w2.heap.size v5 ((L.take (k + 1)).flatMap (ownL zs))) := (by rw [XN.out]; unfold OwnP; rw [List.length_append, pcs_append]; exact o5); clear o5 g5 t3))
        go_roundw
        case rel => exact ⟨k + 1, _, by omega, rfl, by go_num, O5.out, B5.out⟩
        case measure => simp [Go.RowKit.intOf]; omega
      · have hge : ¬ (k : Int) < (L.length : Int) := by omega
        have XN : Hid (RdP wr o (L.flatMap (ownL zs))) := by (show RdP _ _ _; have := HO.out; rw [List.take_of_length_le (by omega)] at this; exact this.rd (by omega))
        go_wp2
        exact bodyPost_ret (results_tmp2 rfl _ _ _) rfl ⟨o, rfl, XN.out, bstep B2.out HBr.out⟩
end Go.Proofs.YtcgclhahonndbaaGreat
