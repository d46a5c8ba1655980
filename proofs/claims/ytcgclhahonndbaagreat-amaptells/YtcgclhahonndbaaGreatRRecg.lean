/- Set over from a lower layer: RRecg. -/
import Derived.Test.YtcgclhahonndbaaGreatRReca
import Derived.Test.YtcgclhahonndbaaGreatRRecz
import Derived.Test.YtcgclhahonndbaaGreatBase
import Derived.Test.YtcgclhahonndbaaGreatSSumz
import Derived.Test.YtcgclhahonndbaaGreatRKeywalkc
import Derived.Test.YtcgclhahonndbaaGreatRRece
import Derived.Deep.DeepCutAuto
namespace Go.Proofs.YtcgclhahonndbaaGreat
open Go.RowKit Go.Shelf
set_option linter.unusedVariables false
def SG (b : Nat) (k sz : Int) (W : World) : Prop := W.cell? ⟨b, 0, none⟩ = some (.int .i64 k) ∧ W.cell? ⟨b, 1, none⟩ = some (.int .i64 sz)
theorem SG.of {W : World} {b : Nat} {L : List Int} {k sz : Int} (h : Im W b L) (h0 : L[0]? = some k) (h1 : L[1]? = some sz) : SG b k sz W := ⟨h.cell h0, h.cell h1⟩
theorem SG.store {W : World} {b g i : Nat} {k sz : Int} (h : SG b k sz W) (hn : b ≠ g) (u : Value) : SG b k sz (W.setCell ⟨g, i, none⟩ u) := by
  have e : (W.setCell ⟨g, i, none⟩ u).heap[b]? = W.heap[b]? := Below.heap_setCell _ _ _ b hn
  obtain ⟨h1, h2⟩ := h
  constructor
  · simpa [World.cell?, e] using h1
  · simpa [World.cell?, e] using h2
theorem SG.store4 {W : World} {b g : Nat} {k sz : Int} (h : SG b k sz W) (hn : b ≠ g) (u0 u1 u2 u3 : Value) : SG b k sz ((((W.setCell ⟨g, 0, none⟩ u0).setCell ⟨g, 1, none⟩ u1).setCell ⟨g, 2, none⟩ u2).setCell ⟨g, 3, none⟩ u3) := (((h.store hn u0).store hn u1).store hn u2).store hn u3
theorem tq32 (z : Int) (h : -9223372036854775808 ≤ z ∧ z < 9223372036854775808) : (-9223372036854775808 ≤ z.tdiv 32 ∧ z.tdiv 32 < 9223372036854775808) ∧ -32 ≤ z.tmod 32 ∧ z.tmod 32 < 32 := by
  have hm := Int.tmod_def z 32
  rcases Int.le_total 0 z with h0 | h0
  · rw [Int.tdiv_eq_ediv_of_nonneg h0] at *
    omega
  · obtain ⟨n, rfl⟩ : ∃ n, z = -n := ⟨-z, by omega⟩
    rw [Int.neg_tdiv, Int.tdiv_eq_ediv_of_nonneg (show 0 ≤ n by omega)] at *
    omega
theorem RcAt.f {W : World} {b : Nat} {x : Rc} (h : RcAt W b x) (k : Nat) : W.frozen? ⟨b, k, none⟩ = false := by simp [World.frozen?, show W.heap[b]? = _ from h]
theorem RcAt.set4 {W : World} {b : Nat} {y : Rc} (h : RcAt W b y) (x : Rc) : RcAt ((((W.setCell ⟨b, 0, none⟩ (.int .i64 x.k)).setCell ⟨b, 1, none⟩ (.string x.key)).setCell ⟨b, 2, none⟩ (.string x.val)).setCell ⟨b, 3, none⟩ (.int .i64 x.ch)) b x := by
  have h1 := heap_setCell_same W b 0 _ 40 (.int .i64 x.k) h
  have h2 := heap_setCell_same _ b 1 _ 40 (.string x.key) h1
  have h3 := heap_setCell_same _ b 2 _ 40 (.string x.val) h2
  have h4 := heap_setCell_same _ b 3 _ 40 (.int .i64 x.ch) h3
  exact h4
/-- A record's cells. -/
def rcs (x : Rc) : List Value := [.int .i64 x.k, .string x.key, .string x.val, .int .i64 x.ch]
theorem RcAt.range {W : World} {b : Nat} {x : Rc} (h : RcAt W b x) : W.rangeAt b 0 (rcs x) := by
  obtain ⟨h0, h1, h2, h3⟩ := h.c
  intro j v hv
  rw [Nat.zero_add]
  match j, hv with
  | 0, hv => cases hv; exact h0
  | 1, hv => cases hv; exact h1
  | 2, hv => cases hv; exact h2
  | 3, hv => cases hv; exact h3
  | j + 4, hv => simp [rcs] at hv
theorem RcAt.there {W : World} {b : Nat} {x : Rc} (h : RcAt W b x) : W.there b 0 4 := by
  obtain ⟨h0, h1, h2, h3⟩ := h.c
  intro j hj
  rw [Nat.zero_add]
  refine ⟨?_, h.f j⟩
  match j, hj with
  | 0, _ => rw [h0]; rfl
  | 1, _ => rw [h1]; rfl
  | 2, _ => rw [h2]; rfl
  | 3, _ => rw [h3]; rfl
theorem RcAt.laid {W : World} {b : Nat} {y : Rc} (h : RcAt W b y) (x : Rc) : (W.setCells b 0 (rcs x)).rangeAt b 0 (rcs x) := World.rangeAt_setCells_same W b 0 _ h.there
theorem RcAt.ch {W : World} {b : Nat} {x : Rc} (h : RcAt W b x) (c : Int) : RcAt (W.setCell ⟨b, 3, none⟩ (.int .i64 c)) b ⟨x.k, x.key, x.val, c⟩ := heap_setCell_same W b 3 _ 40 (.int .i64 c) h
theorem RcAt.vl {W : World} {b : Nat} {x : Rc} (h : RcAt W b x) (c : ByteArray) : RcAt (W.setCell ⟨b, 2, none⟩ (.string c)) b ⟨x.k, x.key, c, x.ch⟩ := heap_setCell_same W b 2 _ 40 (.string c) h
theorem Tryz.size40 : (Tryz.prog.info? 40).map (·.size) = some 4 := by kernel_rfl
theorem rcs_size (x : Rc) : (Tryz.prog.info? 40).map (·.size) = some (rcs x).toArray.size := Tryz.size40
theorem rcs_sizeL (x : Rc) : (Tryz.prog.info? 40).map (·.size) = some (rcs x).length := Tryz.size40
theorem rcs_one (x : Rc) : (rcs x).toArray.all (·.oneCell') = true := all_oneCell_toArray (by intro v hv; simp [rcs] at hv; rcases hv with rfl | rfl | rfl | rfl <;> rfl)
def rc0 : Rc := ⟨0, ByteArray.empty, ByteArray.empty, 0⟩
set_option maxRecDepth 100000 in
set_option maxHeartbeats 2000000 in
theorem Rguess_any (L : List Int) (w : World) (hl : L.length = 16) (hF : Fits L) : Calls Tryz.prog 116 #[.agg (L.map (Value.int .i64)).toArray] w fun e w' => e = .returned (.agg #[.int .i64 (gsR L).k, .string (gsR L).key, .string (gsR L).val, .int .i64 (gsR L).ch]) ∧ Below w.heap.size w w' := by
  obtain ⟨k, hk⟩ : ∃ k, L[0]? = some k := ⟨_, List.getElem?_eq_getElem (by omega)⟩
  obtain ⟨sz, hsz⟩ : ∃ k, L[1]? = some k := ⟨_, List.getElem?_eq_getElem (by omega)⟩
  obtain ⟨ch, hch⟩ : ∃ k, L[6]? = some k := ⟨_, List.getElem?_eq_getElem (by omega)⟩
  have bsz := hF sz (List.mem_of_getElem? hsz)
  have bq := tq32 sz bsz
  have q1 : wrap64 (sz.tdiv 32) = sz.tdiv 32 := by unfold wrap64; omega
  have q2 : IntKind.i64.wrap (sz.tdiv 32) = sz.tdiv 32 := by rw [IntKind.wrap_i64]; omega
  have q3 : wrap64 (sz.tmod 32) = sz.tmod 32 := by unfold wrap64; omega
  have q4 : IntKind.i64.wrap (sz.tmod 32) = sz.tmod 32 := by rw [IntKind.wrap_i64]; omega
  have f3 : Fits ((L.drop 3).take 3) := fun z hz => hF z (List.mem_of_mem_drop (List.mem_of_mem_take hz))
  have f6 : Fits ((L.drop 6).take 3) := fun z hz => hF z (List.mem_of_mem_drop (List.mem_of_mem_take hz))
  have HG : Hid (gsR L = { k := k, key := begS ((L.drop 3).take 3) (sz.tdiv 32), val := if k = 2 then ByteArray.empty else begS ((L.drop 6).take 3) (sz.tmod 32), ch := if k = 2 then ch else 0 }) := show _ = _ by
    unfold gsR
    rw [hk, hsz, hch]
    rfl
  have hI : Im ((w.alloc (.cells (L.map (Value.int .i64)).toArray 61)).alloc (.cells #[.int .i64 0, .string ⟨#[]⟩, .string ⟨#[]⟩, .int .i64 0] 40)) w.heap.size L := by
    unfold Im
    rw [Go.heap_alloc_old _ _ (by simp), Go.heap_alloc_new]
  have hZ : RcAt ((w.alloc (.cells (L.map (Value.int .i64)).toArray 61)).alloc (.cells #[.int .i64 0, .string ⟨#[]⟩, .string ⟨#[]⟩, .int .i64 0] 40)) (w.heap.size + 1) rc0 := by
    have := Go.heap_alloc_new (w.alloc (.cells (L.map (Value.int .i64)).toArray 61)) (.cells #[.int .i64 0, .string ⟨#[]⟩, .string ⟨#[]⟩, .int .i64 0] 40)
    have e : (w.alloc (.cells (L.map (Value.int .i64)).toArray 61)).heap.size = w.heap.size + 1 := by simp
    rw [e] at this
    exact this
  have hB : Below w.heap.size w ((w.alloc (.cells (L.map (Value.int .i64)).toArray 61)).alloc (.cells #[.int .i64 0, .string ⟨#[]⟩, .string ⟨#[]⟩, .int .i64 0] 40)) := ((Below.refl _ _).alloc (Nat.le_refl _) _).alloc (by simp) _
  go_enter Tryz.func116, Tryz.ntmps116
  go_wp2
  generalize (w.alloc (.cells (L.map (Value.int .i64)).toArray 61)).alloc (.cells #[.int .i64 0, .string ⟨#[]⟩, .string ⟨#[]⟩, .int .i64 0] 40) = W at *
  have HI : Hid (Im W.drew w.heap.size L) := hI
  have HZ : Hid (RcAt W (w.heap.size + 1) rc0) := hZ
  have HB : Hid (Below w.heap.size w W) := hB
  have HS : Hid (SG w.heap.size k sz W.drew) := SG.of (b := w.heap.size) hI hk hsz
  have HI0 : Hid (Im W w.heap.size L) := hI
  clear hI hZ hB
  go_cut [3] (fun s3 wx => ∃ bz, s3 = .pointer (some ⟨bz, 0, none⟩) ∧ w.heap.size + 1 < bz ∧ Below W.heap.size W wx ∧ RcAt wx bz ⟨k, begS ((L.drop 3).take 3) (sz.tdiv 32), ByteArray.empty, 0⟩)
  case first =>
    go_region_held3 (fun W2 => W2.cell? ⟨w.heap.size, 0, none⟩ = some (.int .i64 k) ∧ W2.cell? ⟨w.heap.size, 1, none⟩ = some (.int .i64 sz))
      (first | exact HS.out | exact HS1.out | exact SG.of (HI.out.below ((Below.refl _ _).alloc (Nat.le_refl _) _)) hk hsz | exact SG.of (HI1.out.below ((Below.refl _ _).alloc (Nat.le_refl _) _)) hk hsz | exact SG.store4 HS1.out hne1.out _ _ _ _ | exact SG.store4 (SG.of (HI1.out.below ((Below.refl _ _).alloc (Nat.le_refl _) _)) hk hsz) hne2.out _ _ _ _)
      (first
        | (go_at_call 124; refine (beg_any _ ((L.drop 3).take 3) _ _ ((HI.out.below (by first | exact Below.refl _ _ | exact (Below.refl _ _).alloc (Nat.le_refl _) _)).rd 3 3 13 (by omega) (by omega) (by omega)) f3).mono ?_; rintro e w1 ⟨rfl, hb1⟩; have H1 : Hid (Below W.drew.heap.size W.drew w1) := (by first | exact hb1 | exact bstep ((Below.refl _ _).alloc (Nat.le_refl _) _) hb1); have HI1 : Hid (Im w1 w.heap.size L) := HI.out.below H1.out; have HS1 : Hid (SG w.heap.size k sz w1) := SG.of HI1.out hk hsz; have hne1 : Hid (w.heap.size ≠ W.heap.size) := Nat.ne_of_lt HI.out.lt; have hne2 : Hid (w.heap.size ≠ w1.heap.size) := Nat.ne_of_lt HI1.out.lt; (try (have HZ1 : RcAt w1 W.heap.size rc0 := RcAt.below (b := W.drew.heap.size) (Go.heap_alloc_new _ _) hb1; obtain ⟨z0, z1, z2, z3⟩ := HZ1.c; have g0 := HZ1.f 0; have g1 := HZ1.f 1; have g2 := HZ1.f 2; have g3 := HZ1.f 3))))
    all_goals
      go_wp2_with fail
      go_meet
      first
        | exact ⟨w1.heap.size, rfl, Nat.lt_of_lt_of_le HZ.out.lt H1.out.size, (((Below.refl W.heap.size W).drew.trans H1.out).alloc H1.out.size _), Go.heap_alloc_new _ _⟩
        | exact ⟨W.heap.size, rfl, HZ.out.lt, (((((Below.refl W.heap.size W).drew.trans H1.out).setCell (Nat.le_refl _) _).setCell (Nat.le_refl _) _).setCell (Nat.le_refl _) _).setCell (Nat.le_refl _) _, HZ1.set4 ⟨k, begS ((L.drop 3).take 3) (sz.tdiv 32), ByteArray.empty, 0⟩⟩
  case rest =>
    generalize wc = wd at hcut ⊢
    obtain ⟨bz, rfl, hbz, hBx, hRx⟩ := hcut
    have I1 : Im wd w.heap.size L := HI0.out.below hBx
    have Z1 : RcAt wd (w.heap.size + 1) rc0 := HZ.out.below hBx
    have B1 : Below w.heap.size w wd := bstep HB.out hBx
    have k0 := hRx.c.1
    clear HI HZ HB HS HI0 hBx
    by_cases h2 : k = 2
    · have h2' : (k == 2) = true := by simpa using h2
      rw [if_pos h2, if_pos h2] at HG
      have c6 := I1.cell hch
      have k3 := hRx.c.2.2.2
      have g3 := hRx.f 3
      have hR := hRx.ch ch
      have hZ := Z1.other (g := bz) (k := 3) (by omega) (.int .i64 ch)
      have hB := B1.setCell (p := ⟨bz, 3, none⟩) (by simp; omega) (.int .i64 ch)
      clear h2
      dsimp only at hR
      generalize hX : (⟨k, begS ((L.drop 3).take 3) (sz.tdiv 32), ByteArray.empty, ch⟩ : Rc) = X at hR
      have HG : Hid (gsR L = X) := show _ = _ by rw [← hX]; exact HG.out
      clear hX
      have hr := hR.range
      have ht := hZ.there
      have hla := hZ.laid X
      have s1 := rcs_size X
      have s2 := rcs_sizeL X
      have o1 := rcs_one X
      go_wp2_with (first
        | refine wpList_load_mid rfl 40 _ rfl bz 0 rfl (rcs X) _ hr Tryz.underlying40 rfl s2 ?_
        | refine wpList_store_mid rfl 40 _ _ rfl (w.heap.size + 1) 0 (rcs X).toArray rfl rfl ht s1 o1 ?_)
      refine bodyPost_ret (v := .agg (rcs X).toArray) ?_ rfl ⟨by rw [HG.out]; rfl, Sm.below_setCells _ _ _ (by omega) hB⟩
      have := run_loadVar_mid (P := Tryz.prog) _ (w.heap.size + 1) 0 40 (rcs X) _ hla Tryz.underlying40 rfl s2
      simp [results, Tryz.results116, asAddr, this]
    · have h2' : (k == 2) = false := by simpa using h2
      rw [if_neg h2, if_neg h2] at HG
      clear h2
      go_wp2
      have HS : Hid (wd.drew.cell? ⟨w.heap.size, 1, none⟩ = some (.int .i64 sz)) := I1.cell hsz
      have HI : Hid (Im wd.drew w.heap.size L) := I1
      have HR : Hid (RcAt wd.drew bz ⟨k, begS ((L.drop 3).take 3) (sz.tdiv 32), ByteArray.empty, 0⟩) := hRx
      go_region_held3 (fun W2 => W2.cell? ⟨w.heap.size, 1, none⟩ = some (.int .i64 sz))
        (first | exact HS.out | exact HS1.out | exact HS2.out)
        (first
          | (go_at_call 124; refine (beg_any _ ((L.drop 6).take 3) _ _ (HI.out.rd 6 3 10 (by omega) (by omega) (by omega)) f6).mono ?_; rintro e w1 ⟨rfl, hb1⟩; have HS1 : Hid (w1.cell? ⟨w.heap.size, 1, none⟩ = some (.int .i64 sz)) := (HI.out.below hb1).cell hsz; have HS2 : Hid ((w1.setCell ⟨bz, 2, none⟩ (.string (begS ((L.drop 6).take 3) (sz.tmod 32)))).cell? ⟨w.heap.size, 1, none⟩ = some (.int .i64 sz)) := ((HI.out.below hb1).other (g := bz) (k := 2) (by omega) _).cell hsz; have k2 := (HR.out.below hb1).c.2.2.1; have g2 := (HR.out.below hb1).f 2))
      have hR := (HR.out.below hb1).vl (begS ((L.drop 6).take 3) (sz.tmod 32))
      have hZ := ((show RcAt wd.drew (w.heap.size + 1) rc0 from Z1).below hb1).other (g := bz) (k := 2) (by omega) (.string (begS ((L.drop 6).take 3) (sz.tmod 32)))
      have hB := (bstep B1.drew hb1).setCell (p := ⟨bz, 2, none⟩) (by simp; omega) (.string (begS ((L.drop 6).take 3) (sz.tmod 32)))
      dsimp only at hR
      generalize hX : (⟨k, begS ((L.drop 3).take 3) (sz.tdiv 32), begS ((L.drop 6).take 3) (sz.tmod 32), 0⟩ : Rc) = X at hR
      have HG : Hid (gsR L = X) := show _ = _ by rw [← hX]; exact HG.out
      clear hX
      have hr := hR.range
      have ht := hZ.there
      have hla := hZ.laid X
      have s1 := rcs_size X
      have s2 := rcs_sizeL X
      have o1 := rcs_one X
      go_wp2_with (first
        | refine wpList_load_mid rfl 40 _ rfl bz 0 rfl (rcs X) _ hr Tryz.underlying40 rfl s2 ?_
        | refine wpList_store_mid rfl 40 _ _ rfl (w.heap.size + 1) 0 (rcs X).toArray rfl rfl ht s1 o1 ?_)
      refine bodyPost_ret (v := .agg (rcs X).toArray) ?_ rfl ⟨by rw [HG.out]; rfl, Sm.below_setCells _ _ _ (by omega) hB⟩
      have := run_loadVar_mid (P := Tryz.prog) _ (w.heap.size + 1) 0 40 (rcs X) _ hla Tryz.underlying40 rfl s2
      simp [results, Tryz.results116, asAddr, Act.put, this]
end Go.Proofs.YtcgclhahonndbaaGreat
