/- Set over from a lower layer: Recv. -/
import Derived.Test.YtcgclhahonndbaaGreatRKeywalka
import Derived.Test.YtcgclhahonndbaaGreatRRecg
import Derived.Test.YtcgclhahonndbaaGreatRRech
import Derived.Test.YtcgclhahonndbaaGreatRReca
import Derived.Test.YtcgclhahonndbaaGreatRRecz
import Derived.Test.YtcgclhahonndbaaGreatSSumz
import Derived.Test.YtcgclhahonndbaaGreatXNNoda
import Derived.Test.YtcgclhahonndbaaGreatXRWalko
import Derived.Test.YtcgclhahonndbaaGreatXRRecr
import Derived.Test.YtcgclhahonndbaaGreatXRRect
import Derived.Test.YtcgclhahonndbaaGreatBase
import Derived.Test.YtcgclhahonndbaaGreatXRRecu
namespace Go.Proofs.YtcgclhahonndbaaGreat
open Go.RowKit Go.Shelf Classical
set_option linter.unusedVariables false
theorem rd_nums {n N cap : Nat} (hn9 : n < 70) (hn : 16 * n + 16 ≤ N) (hcap : N ≤ cap) :
    ((0 : Int) ≤ 16 * (n : Int)) ∧ (16 * (n : Int) ≤ (N : Int)) ∧ ((16 * (n : Int)).toNat = 16 * n) ∧ (16 * (n : Int) + 16 ≤ (cap : Int)) ∧ (¬ cap = 16 * n) ∧ ((16 * (n : Int) + 16).toNat = 16 * n + 16) ∧ (16 * (n : Int) ≤ 16 * (n : Int) + 16) ∧ ((0 : Int) ≤ 16 * (n : Int) + 16) :=
  ⟨by omega, by omega, by omega, by omega, by omega, by omega, by omega, by omega⟩
theorem RcAt.kk {W : World} {b : Nat} {x : Rc} (h : RcAt W b x) (c : ByteArray) : RcAt (W.setCell ⟨b, 1, none⟩ (.string c)) b ⟨x.k, c, x.val, x.ch⟩ := heap_setCell_same W b 1 _ 40 (.string c) h
theorem rd_S2 {W : World} {b off c : Nat} {M : List Int} {k ch : Int} (h : Rd W (.slice (some ⟨b, off, none⟩) 16 c) M) (h0 : M[0]? = some k) (h6 : M[6]? = some ch) : W.cell? ⟨b, off, none⟩ = some (.int .i64 k) ∧ W.cell? ⟨b, off + 6, none⟩ = some (.int .i64 ch) := ⟨h.cell h0, h.cell h6⟩
set_option maxRecDepth 100000 in
set_option maxHeartbeats 4000000 in
theorem readR_1_e (w : World) (b off cap n L : Nat) (hn9 : n < 70) (hnN : 16 * n + 16 ≤ L) (hcap : L ≤ cap) (M : List Int) (hM : Rd w (.slice (some ⟨b, off + 16 * n, none⟩) 16 (cap - 16 * n)) M) (l16 : M.length = 16) (hF : Fits M) (s kn vn nk nv : Nat) (k ch : Int) (h0 : M[0]? = some 1) (h1 : M[1]? = some (s : Int)) (h6 : M[6]? = some ch) (hs : s ≤ 693) (q1 : (s : Int) / 32 = (kn : Int)) (q2 : (s : Int) % 32 = (vn : Int)) (q3 : ((kn : Int) + 6) / 7 = (nk : Int)) (q4 : ((vn : Int) + 6) / 7 = (nv : Int)) (hk9 : kn ≤ 21) (hv9 : vn ≤ 31) (hnk : nk ≤ 3) (hnv : nv ≤ 5) (ka va : ByteArray) (eE fE : Int) (hka : Ky.txS ((M.drop 3).take nk) (kn : Int) = ka) (heE : Ky.txE ((M.drop 3).take nk) (kn : Int) = eE) (hva : Ky.txS ((M.drop 6).take nv) (vn : Int) = va) (hfE : Ky.txE ((M.drop 6).take nv) (vn : Int) = fE) (X : Rc) (hX : X = (⟨1, ka, va, 0⟩ : Rc)) (dE : (eE != 0) = true) (zs : List Int) (hZ : Rd w (.slice (some ⟨b, off, none⟩) L cap) zs) (hzl : zs.length = L) (hz3 : L ≤ 1000) : Calls Tryz.prog 48 #[.slice (some ⟨b, off, none⟩) L cap, .int .i64 (n : Int)] w fun e w' => e = .returned (.tuple #[.agg (rcs rc0).toArray, .int .i64 70]) ∧ Below w.heap.size w w' := by
  obtain ⟨e1, e2, e3, e5, e6, e7, f5, f6⟩ := rd_nums hn9 hnN hcap
  have k25 : Hid (∀ w', Below w.heap.size w w' → Calls Tryz.prog 74 #[.slice (some ⟨b, off, none⟩) L cap, .int .i64 (n : Int)] w' fun e w'' => e = .returned (.bool true) ∧ Below w'.heap.size w' w'') := fun w' hb => by
    have hi : inB zs.length (n : Int) = true := decide_eq_true (by omega)
    have := whole_any _ zs (n : Int) w' (hZ.below hb) (by omega)
    rw [hi] at this
    exact this
  have HM : Hid (Rd w (.slice (some ⟨b, off + 16 * n, none⟩) 16 (cap - 16 * n)) M) := hM
  have HMk : Hid (Rd w (.slice (some ⟨b, off + 16 * n + 3, none⟩) nk (cap - 16 * n - 3)) ((M.drop 3).take nk)) := (hM.drop 3 (by omega)).take nk (by simp; omega)
  have HFk : Hid (Fits ((M.drop 3).take nk)) := show Fits _ from fun z hz => hF z (List.mem_of_mem_drop (List.mem_of_mem_take hz))
  have HMv : Hid (Rd w (.slice (some ⟨b, off + 16 * n + 6, none⟩) nv (cap - 16 * n - 6)) ((M.drop 6).take nv)) := (hM.drop 6 (by omega)).take nv (by simp; omega)
  have HFv : Hid (Fits ((M.drop 6).take nv)) := show Fits _ from fun z hz => hF z (List.mem_of_mem_drop (List.mem_of_mem_take hz))
  have Hka : Hid (Ky.txS ((M.drop 3).take nk) (kn : Int) = ka) := hka
  have HeE : Hid (Ky.txE ((M.drop 3).take nk) (kn : Int) = eE) := heE
  have Hva : Hid (Ky.txS ((M.drop 6).take nv) (vn : Int) = va) := hva
  have HfE : Hid (Ky.txE ((M.drop 6).take nv) (vn : Int) = fE) := hfE
  clear hva hfE
  have H0 : Hid (Below w.heap.size w (w.alloc (.cells #[.int .i64 0, .string ⟨#[]⟩, .string ⟨#[]⟩, .int .i64 0] 40))) := (Below.refl _ _).alloc (Nat.le_refl _) _
  have R0 : Hid (RcAt (w.alloc (.cells #[.int .i64 0, .string ⟨#[]⟩, .string ⟨#[]⟩, .int .i64 0] 40)) w.heap.size rc0) := rc0_new w
  have Hl16 : Hid (M.length = 16) := l16
  have hs0 : ¬ (s : Int) < 0 := by omega
  have hs1 : ¬ (s : Int) > 693 := by omega
  clear hM hF hka heE l16 hZ hzl
  go_enter Tryz.func48, Tryz.ntmps48
  go_wp2_with (first
    | (go_at_call 74; refine (k25.out _ H0.out).mono ?_; rintro e w1 ⟨rfl, b1⟩; have H1 : Hid (Below w.heap.size w w1) := bstep H0.out b1; have R1 : Hid (RcAt w1 w.heap.size rc0) := R0.out.below b1; have m0 := (HM.out.below H1.out).cell h0; have m1 := (HM.out.below H1.out).cell h1; have m6 := (HM.out.below H1.out).cell h6; clear b1))
  have HM1 : Hid (Rd w1.drew (.slice (some ⟨b, off + 16 * n, none⟩) 16 (cap - 16 * n)) M) := HM.out.below H1.out.drew
  have S0 : Hid (w1.drew.cell? ⟨b, off + 16 * n, none⟩ = some (.int .i64 1) ∧ w1.drew.cell? ⟨b, off + 16 * n + 6, none⟩ = some (.int .i64 ch)) := ⟨m0, m6⟩
  go_cut [7] (fun s7 wx => s7 = .pointer (some ⟨w1.heap.size, 0, none⟩) ∧ Below w1.heap.size w1 wx ∧ RcAt wx w1.heap.size ⟨1, ⟨#[]⟩, ⟨#[]⟩, ch⟩)
  case first =>
    go_region_held3 (fun W2 => W2.cell? ⟨b, off + 16 * n, none⟩ = some (.int .i64 1) ∧ W2.cell? ⟨b, off + 16 * n + 6, none⟩ = some (.int .i64 ch))
      (first | exact S0.out | exact rd_S2 (HM1.out.below ((Below.refl _ _).alloc (Nat.le_refl _) _)) h0 h6 | exact rd_S2 (HM1.out.below ((((((Below.refl _ _).alloc (Nat.le_refl _) _).setCell (Nat.le_refl _) _).setCell (Nat.le_refl _) _).setCell (Nat.le_refl _) _).setCell (Nat.le_refl _) _)) h0 h6)
      (fail)
    all_goals
      go_wp2_with fail
      go_meet
      exact ⟨rfl, ((Below.refl _ _).alloc (Nat.le_refl _) _).drew, rc_new w1 ⟨1, ⟨#[]⟩, ⟨#[]⟩, ch⟩⟩
  case rest =>
    generalize wc = wd at hcut ⊢
    obtain ⟨rfl, hB2, hX2⟩ := hcut
    have H2 : Hid (Below w1.heap.size w1 wd) := hB2
    have X2 : Hid (RcAt wd w1.heap.size ⟨1, ⟨#[]⟩, ⟨#[]⟩, ch⟩) := hX2
    have lt1 : Hid (w.heap.size < w1.heap.size) := R1.out.lt
    have m1 := (HM.out.below (bstep H1.out hB2)).cell h1
    clear hB2 hX2 m0 m6 S0 HM1
    have t1 : Hid (0 = 0) := rfl
    subst hX
    go_wp2_with (first
      | (go_at_call 75; clear t1; refine (Ky.textR_any (.slice (some ⟨b, off + 16 * n + 3, none⟩) nk (cap - 16 * n - 3)) ((M.drop 3).take nk) (kn : Int) _ ((HMk.out.below (bstep H1.out H2.out)).ky HFk.out)).mono ?_; rintro e w3 ⟨rfl, b3⟩; rw [Hka.out, HeE.out]; have B3 := X2.out.below b3; have y1 := B3.c.2.1; have g1 := B3.f 1; have HX3 : Hid (RcAt (w3.setCell ⟨w1.heap.size, 1, none⟩ (.string ka)) w1.heap.size ⟨1, ka, ⟨#[]⟩, ch⟩) := B3.kk ka; have H3 : Hid (Below w1.heap.size w1 (w3.setCell ⟨w1.heap.size, 1, none⟩ (.string ka))) := (H2.out.trans (b3.mono H2.out.size)).setCell (p := ⟨w1.heap.size, 1, none⟩) (Nat.le_refl _) _; obtain ⟨z0, z1, z2, z3⟩ := HX3.out.c; dsimp only at z0 z1 z2 z3 y1; clear b3 B3)
      | (go_at_call 75; refine (Ky.textR_any (.slice (some ⟨b, off + 16 * n + 6, none⟩) nv (cap - 16 * n - 6)) ((M.drop 6).take nv) (vn : Int) _ ((HMv.out.below (bstep H1.out H3.out)).ky HFv.out)).mono ?_; rintro e w4 ⟨rfl, b4⟩; rw [Hva.out, HfE.out]; have B4 := HX3.out.below b4; have u3 := B4.c.2.2.2; have r3 := B4.f 3; have B5 := B4.ch 0; have u2 := B5.c.2.2.1; have r2 := B5.f 2; have HX6 : Hid (RcAt ((w4.setCell ⟨w1.heap.size, 3, none⟩ (.int .i64 0)).setCell ⟨w1.heap.size, 2, none⟩ (.string va)) w1.heap.size ⟨1, ka, va, 0⟩) := B5.vl va; have H6 : Hid (Below w1.heap.size w1 ((w4.setCell ⟨w1.heap.size, 3, none⟩ (.int .i64 0)).setCell ⟨w1.heap.size, 2, none⟩ (.string va))) := ((H3.out.trans (b4.mono H3.out.size)).setCell (p := ⟨w1.heap.size, 3, none⟩) (Nat.le_refl _) _).setCell (p := ⟨w1.heap.size, 2, none⟩) (Nat.le_refl _) _; obtain ⟨v0, v1, v2, v3⟩ := HX6.out.c; dsimp only at u3 u2 v0 v1 v2 v3; clear b4 B4 B5)
      | (go_at_call 76; refine (wordsRr_any (⟨1, ka, va, 0⟩ : Rc) _).mono ?_; rintro e w7 ⟨v7, rfl, R7, b7⟩; have H7 : Hid (Below w1.heap.size w1 w7) := H6.out.trans (b7.mono H6.out.size); have HR7 : Hid (Rd w7 v7 (wLs (⟨1, ka, va, 0⟩ : Rc))) := R7; have Z7 : Hid (RcAt w7 w.heap.size rc0) := R1.out.below H7.out; have X7 : Hid (RcAt w7 w1.heap.size (⟨1, ka, va, 0⟩ : Rc)) := HX6.out.below b7; have ht := Z7.out.there; have hla := Z7.out.laid rc0; clear b7 R7)
      | (refine wpList_store_mid rfl 40 _ _ rfl w.heap.size 0 (rcs rc0).toArray rfl rfl ht (rcs_size rc0) (rcs_one rc0) ?_))
    refine bodyPost_ret (v := .tuple #[.agg (rcs rc0).toArray, .int .i64 70]) ?_ rfl ⟨rfl, Sm.below_setCells _ _ _ (Nat.le_refl _) (bstep H1.out H7.out)⟩
    have := run_loadVar_mid (P := Tryz.prog) _ w.heap.size 0 40 (rcs rc0) _ hla Tryz.underlying40 rfl (rcs_sizeL rc0)
    simp [results, Tryz.results48, asAddr, this]
set_option maxRecDepth 100000 in
set_option maxHeartbeats 4000000 in
theorem readR_1_f (w : World) (b off cap n L : Nat) (hn9 : n < 70) (hnN : 16 * n + 16 ≤ L) (hcap : L ≤ cap) (M : List Int) (hM : Rd w (.slice (some ⟨b, off + 16 * n, none⟩) 16 (cap - 16 * n)) M) (l16 : M.length = 16) (hF : Fits M) (s kn vn nk nv : Nat) (k ch : Int) (h0 : M[0]? = some 1) (h1 : M[1]? = some (s : Int)) (h6 : M[6]? = some ch) (hs : s ≤ 693) (q1 : (s : Int) / 32 = (kn : Int)) (q2 : (s : Int) % 32 = (vn : Int)) (q3 : ((kn : Int) + 6) / 7 = (nk : Int)) (q4 : ((vn : Int) + 6) / 7 = (nv : Int)) (hk9 : kn ≤ 21) (hv9 : vn ≤ 31) (hnk : nk ≤ 3) (hnv : nv ≤ 5) (ka va : ByteArray) (eE fE : Int) (hka : Ky.txS ((M.drop 3).take nk) (kn : Int) = ka) (heE : Ky.txE ((M.drop 3).take nk) (kn : Int) = eE) (hva : Ky.txS ((M.drop 6).take nv) (vn : Int) = va) (hfE : Ky.txE ((M.drop 6).take nv) (vn : Int) = fE) (X : Rc) (hX : X = (⟨1, ka, va, 0⟩ : Rc)) (dE : (eE != 0) = false) (dF : (fE != 0) = true) (zs : List Int) (hZ : Rd w (.slice (some ⟨b, off, none⟩) L cap) zs) (hzl : zs.length = L) (hz3 : L ≤ 1000) : Calls Tryz.prog 48 #[.slice (some ⟨b, off, none⟩) L cap, .int .i64 (n : Int)] w fun e w' => e = .returned (.tuple #[.agg (rcs rc0).toArray, .int .i64 70]) ∧ Below w.heap.size w w' := by
  obtain ⟨e1, e2, e3, e5, e6, e7, f5, f6⟩ := rd_nums hn9 hnN hcap
  have k25 : Hid (∀ w', Below w.heap.size w w' → Calls Tryz.prog 74 #[.slice (some ⟨b, off, none⟩) L cap, .int .i64 (n : Int)] w' fun e w'' => e = .returned (.bool true) ∧ Below w'.heap.size w' w'') := fun w' hb => by
    have hi : inB zs.length (n : Int) = true := decide_eq_true (by omega)
    have := whole_any _ zs (n : Int) w' (hZ.below hb) (by omega)
    rw [hi] at this
    exact this
  have HM : Hid (Rd w (.slice (some ⟨b, off + 16 * n, none⟩) 16 (cap - 16 * n)) M) := hM
  have HMk : Hid (Rd w (.slice (some ⟨b, off + 16 * n + 3, none⟩) nk (cap - 16 * n - 3)) ((M.drop 3).take nk)) := (hM.drop 3 (by omega)).take nk (by simp; omega)
  have HFk : Hid (Fits ((M.drop 3).take nk)) := show Fits _ from fun z hz => hF z (List.mem_of_mem_drop (List.mem_of_mem_take hz))
  have HMv : Hid (Rd w (.slice (some ⟨b, off + 16 * n + 6, none⟩) nv (cap - 16 * n - 6)) ((M.drop 6).take nv)) := (hM.drop 6 (by omega)).take nv (by simp; omega)
  have HFv : Hid (Fits ((M.drop 6).take nv)) := show Fits _ from fun z hz => hF z (List.mem_of_mem_drop (List.mem_of_mem_take hz))
  have Hka : Hid (Ky.txS ((M.drop 3).take nk) (kn : Int) = ka) := hka
  have HeE : Hid (Ky.txE ((M.drop 3).take nk) (kn : Int) = eE) := heE
  have Hva : Hid (Ky.txS ((M.drop 6).take nv) (vn : Int) = va) := hva
  have HfE : Hid (Ky.txE ((M.drop 6).take nv) (vn : Int) = fE) := hfE
  clear hva hfE
  have H0 : Hid (Below w.heap.size w (w.alloc (.cells #[.int .i64 0, .string ⟨#[]⟩, .string ⟨#[]⟩, .int .i64 0] 40))) := (Below.refl _ _).alloc (Nat.le_refl _) _
  have R0 : Hid (RcAt (w.alloc (.cells #[.int .i64 0, .string ⟨#[]⟩, .string ⟨#[]⟩, .int .i64 0] 40)) w.heap.size rc0) := rc0_new w
  have Hl16 : Hid (M.length = 16) := l16
  have hs0 : ¬ (s : Int) < 0 := by omega
  have hs1 : ¬ (s : Int) > 693 := by omega
  clear hM hF hka heE l16 hZ hzl
  go_enter Tryz.func48, Tryz.ntmps48
  go_wp2_with (first
    | (go_at_call 74; refine (k25.out _ H0.out).mono ?_; rintro e w1 ⟨rfl, b1⟩; have H1 : Hid (Below w.heap.size w w1) := bstep H0.out b1; have R1 : Hid (RcAt w1 w.heap.size rc0) := R0.out.below b1; have m0 := (HM.out.below H1.out).cell h0; have m1 := (HM.out.below H1.out).cell h1; have m6 := (HM.out.below H1.out).cell h6; clear b1))
  have HM1 : Hid (Rd w1.drew (.slice (some ⟨b, off + 16 * n, none⟩) 16 (cap - 16 * n)) M) := HM.out.below H1.out.drew
  have S0 : Hid (w1.drew.cell? ⟨b, off + 16 * n, none⟩ = some (.int .i64 1) ∧ w1.drew.cell? ⟨b, off + 16 * n + 6, none⟩ = some (.int .i64 ch)) := ⟨m0, m6⟩
  go_cut [7] (fun s7 wx => s7 = .pointer (some ⟨w1.heap.size, 0, none⟩) ∧ Below w1.heap.size w1 wx ∧ RcAt wx w1.heap.size ⟨1, ⟨#[]⟩, ⟨#[]⟩, ch⟩)
  case first =>
    go_region_held3 (fun W2 => W2.cell? ⟨b, off + 16 * n, none⟩ = some (.int .i64 1) ∧ W2.cell? ⟨b, off + 16 * n + 6, none⟩ = some (.int .i64 ch))
      (first | exact S0.out | exact rd_S2 (HM1.out.below ((Below.refl _ _).alloc (Nat.le_refl _) _)) h0 h6 | exact rd_S2 (HM1.out.below ((((((Below.refl _ _).alloc (Nat.le_refl _) _).setCell (Nat.le_refl _) _).setCell (Nat.le_refl _) _).setCell (Nat.le_refl _) _).setCell (Nat.le_refl _) _)) h0 h6)
      (fail)
    all_goals
      go_wp2_with fail
      go_meet
      exact ⟨rfl, ((Below.refl _ _).alloc (Nat.le_refl _) _).drew, rc_new w1 ⟨1, ⟨#[]⟩, ⟨#[]⟩, ch⟩⟩
  case rest =>
    generalize wc = wd at hcut ⊢
    obtain ⟨rfl, hB2, hX2⟩ := hcut
    have H2 : Hid (Below w1.heap.size w1 wd) := hB2
    have X2 : Hid (RcAt wd w1.heap.size ⟨1, ⟨#[]⟩, ⟨#[]⟩, ch⟩) := hX2
    have lt1 : Hid (w.heap.size < w1.heap.size) := R1.out.lt
    have m1 := (HM.out.below (bstep H1.out hB2)).cell h1
    clear hB2 hX2 m0 m6 S0 HM1
    have t1 : Hid (0 = 0) := rfl
    subst hX
    go_wp2_with (first
      | (go_at_call 75; clear t1; refine (Ky.textR_any (.slice (some ⟨b, off + 16 * n + 3, none⟩) nk (cap - 16 * n - 3)) ((M.drop 3).take nk) (kn : Int) _ ((HMk.out.below (bstep H1.out H2.out)).ky HFk.out)).mono ?_; rintro e w3 ⟨rfl, b3⟩; rw [Hka.out, HeE.out]; have B3 := X2.out.below b3; have y1 := B3.c.2.1; have g1 := B3.f 1; have HX3 : Hid (RcAt (w3.setCell ⟨w1.heap.size, 1, none⟩ (.string ka)) w1.heap.size ⟨1, ka, ⟨#[]⟩, ch⟩) := B3.kk ka; have H3 : Hid (Below w1.heap.size w1 (w3.setCell ⟨w1.heap.size, 1, none⟩ (.string ka))) := (H2.out.trans (b3.mono H2.out.size)).setCell (p := ⟨w1.heap.size, 1, none⟩) (Nat.le_refl _) _; obtain ⟨z0, z1, z2, z3⟩ := HX3.out.c; dsimp only at z0 z1 z2 z3 y1; clear b3 B3)
      | (go_at_call 75; refine (Ky.textR_any (.slice (some ⟨b, off + 16 * n + 6, none⟩) nv (cap - 16 * n - 6)) ((M.drop 6).take nv) (vn : Int) _ ((HMv.out.below (bstep H1.out H3.out)).ky HFv.out)).mono ?_; rintro e w4 ⟨rfl, b4⟩; rw [Hva.out, HfE.out]; have B4 := HX3.out.below b4; have u3 := B4.c.2.2.2; have r3 := B4.f 3; have B5 := B4.ch 0; have u2 := B5.c.2.2.1; have r2 := B5.f 2; have HX6 : Hid (RcAt ((w4.setCell ⟨w1.heap.size, 3, none⟩ (.int .i64 0)).setCell ⟨w1.heap.size, 2, none⟩ (.string va)) w1.heap.size ⟨1, ka, va, 0⟩) := B5.vl va; have H6 : Hid (Below w1.heap.size w1 ((w4.setCell ⟨w1.heap.size, 3, none⟩ (.int .i64 0)).setCell ⟨w1.heap.size, 2, none⟩ (.string va))) := ((H3.out.trans (b4.mono H3.out.size)).setCell (p := ⟨w1.heap.size, 3, none⟩) (Nat.le_refl _) _).setCell (p := ⟨w1.heap.size, 2, none⟩) (Nat.le_refl _) _; obtain ⟨v0, v1, v2, v3⟩ := HX6.out.c; dsimp only at u3 u2 v0 v1 v2 v3; clear b4 B4 B5)
      | (go_at_call 76; refine (wordsRr_any (⟨1, ka, va, 0⟩ : Rc) _).mono ?_; rintro e w7 ⟨v7, rfl, R7, b7⟩; have H7 : Hid (Below w1.heap.size w1 w7) := H6.out.trans (b7.mono H6.out.size); have HR7 : Hid (Rd w7 v7 (wLs (⟨1, ka, va, 0⟩ : Rc))) := R7; have Z7 : Hid (RcAt w7 w.heap.size rc0) := R1.out.below H7.out; have X7 : Hid (RcAt w7 w1.heap.size (⟨1, ka, va, 0⟩ : Rc)) := HX6.out.below b7; have ht := Z7.out.there; have hla := Z7.out.laid rc0; clear b7 R7)
      | (refine wpList_store_mid rfl 40 _ _ rfl w.heap.size 0 (rcs rc0).toArray rfl rfl ht (rcs_size rc0) (rcs_one rc0) ?_))
    refine bodyPost_ret (v := .tuple #[.agg (rcs rc0).toArray, .int .i64 70]) ?_ rfl ⟨rfl, Sm.below_setCells _ _ _ (Nat.le_refl _) (bstep H1.out H7.out)⟩
    have := run_loadVar_mid (P := Tryz.prog) _ w.heap.size 0 40 (rcs rc0) _ hla Tryz.underlying40 rfl (rcs_sizeL rc0)
    simp [results, Tryz.results48, asAddr, this]
set_option maxRecDepth 100000 in
set_option maxHeartbeats 4000000 in
theorem readR_1_g (w : World) (b off cap n L : Nat) (hn9 : n < 70) (hnN : 16 * n + 16 ≤ L) (hcap : L ≤ cap) (M : List Int) (hM : Rd w (.slice (some ⟨b, off + 16 * n, none⟩) 16 (cap - 16 * n)) M) (l16 : M.length = 16) (hF : Fits M) (s kn vn nk nv : Nat) (k ch : Int) (h0 : M[0]? = some 1) (h1 : M[1]? = some (s : Int)) (h6 : M[6]? = some ch) (hs : s ≤ 693) (q1 : (s : Int) / 32 = (kn : Int)) (q2 : (s : Int) % 32 = (vn : Int)) (q3 : ((kn : Int) + 6) / 7 = (nk : Int)) (q4 : ((vn : Int) + 6) / 7 = (nv : Int)) (hk9 : kn ≤ 21) (hv9 : vn ≤ 31) (hnk : nk ≤ 3) (hnv : nv ≤ 5) (ka va : ByteArray) (eE fE : Int) (hka : Ky.txS ((M.drop 3).take nk) (kn : Int) = ka) (heE : Ky.txE ((M.drop 3).take nk) (kn : Int) = eE) (hva : Ky.txS ((M.drop 6).take nv) (vn : Int) = va) (hfE : Ky.txE ((M.drop 6).take nv) (vn : Int) = fE) (X : Rc) (hX : X = (⟨1, ka, va, 0⟩ : Rc)) (dE : (eE != 0) = false) (dF : (fE != 0) = false) (dG : (wEs X != 0) = true) (zs : List Int) (hZ : Rd w (.slice (some ⟨b, off, none⟩) L cap) zs) (hzl : zs.length = L) (hz3 : L ≤ 1000) : Calls Tryz.prog 48 #[.slice (some ⟨b, off, none⟩) L cap, .int .i64 (n : Int)] w fun e w' => e = .returned (.tuple #[.agg (rcs rc0).toArray, .int .i64 70]) ∧ Below w.heap.size w w' := by
  obtain ⟨e1, e2, e3, e5, e6, e7, f5, f6⟩ := rd_nums hn9 hnN hcap
  have k25 : Hid (∀ w', Below w.heap.size w w' → Calls Tryz.prog 74 #[.slice (some ⟨b, off, none⟩) L cap, .int .i64 (n : Int)] w' fun e w'' => e = .returned (.bool true) ∧ Below w'.heap.size w' w'') := fun w' hb => by
    have hi : inB zs.length (n : Int) = true := decide_eq_true (by omega)
    have := whole_any _ zs (n : Int) w' (hZ.below hb) (by omega)
    rw [hi] at this
    exact this
  have HM : Hid (Rd w (.slice (some ⟨b, off + 16 * n, none⟩) 16 (cap - 16 * n)) M) := hM
  have HMk : Hid (Rd w (.slice (some ⟨b, off + 16 * n + 3, none⟩) nk (cap - 16 * n - 3)) ((M.drop 3).take nk)) := (hM.drop 3 (by omega)).take nk (by simp; omega)
  have HFk : Hid (Fits ((M.drop 3).take nk)) := show Fits _ from fun z hz => hF z (List.mem_of_mem_drop (List.mem_of_mem_take hz))
  have HMv : Hid (Rd w (.slice (some ⟨b, off + 16 * n + 6, none⟩) nv (cap - 16 * n - 6)) ((M.drop 6).take nv)) := (hM.drop 6 (by omega)).take nv (by simp; omega)
  have HFv : Hid (Fits ((M.drop 6).take nv)) := show Fits _ from fun z hz => hF z (List.mem_of_mem_drop (List.mem_of_mem_take hz))
  have Hka : Hid (Ky.txS ((M.drop 3).take nk) (kn : Int) = ka) := hka
  have HeE : Hid (Ky.txE ((M.drop 3).take nk) (kn : Int) = eE) := heE
  have Hva : Hid (Ky.txS ((M.drop 6).take nv) (vn : Int) = va) := hva
  have HfE : Hid (Ky.txE ((M.drop 6).take nv) (vn : Int) = fE) := hfE
  clear hva hfE
  have H0 : Hid (Below w.heap.size w (w.alloc (.cells #[.int .i64 0, .string ⟨#[]⟩, .string ⟨#[]⟩, .int .i64 0] 40))) := (Below.refl _ _).alloc (Nat.le_refl _) _
  have R0 : Hid (RcAt (w.alloc (.cells #[.int .i64 0, .string ⟨#[]⟩, .string ⟨#[]⟩, .int .i64 0] 40)) w.heap.size rc0) := rc0_new w
  have Hl16 : Hid (M.length = 16) := l16
  have hs0 : ¬ (s : Int) < 0 := by omega
  have hs1 : ¬ (s : Int) > 693 := by omega
  clear hM hF hka heE l16 hZ hzl
  go_enter Tryz.func48, Tryz.ntmps48
  go_wp2_with (first
    | (go_at_call 74; refine (k25.out _ H0.out).mono ?_; rintro e w1 ⟨rfl, b1⟩; have H1 : Hid (Below w.heap.size w w1) := bstep H0.out b1; have R1 : Hid (RcAt w1 w.heap.size rc0) := R0.out.below b1; have m0 := (HM.out.below H1.out).cell h0; have m1 := (HM.out.below H1.out).cell h1; have m6 := (HM.out.below H1.out).cell h6; clear b1))
  have HM1 : Hid (Rd w1.drew (.slice (some ⟨b, off + 16 * n, none⟩) 16 (cap - 16 * n)) M) := HM.out.below H1.out.drew
  have S0 : Hid (w1.drew.cell? ⟨b, off + 16 * n, none⟩ = some (.int .i64 1) ∧ w1.drew.cell? ⟨b, off + 16 * n + 6, none⟩ = some (.int .i64 ch)) := ⟨m0, m6⟩
  go_cut [7] (fun s7 wx => s7 = .pointer (some ⟨w1.heap.size, 0, none⟩) ∧ Below w1.heap.size w1 wx ∧ RcAt wx w1.heap.size ⟨1, ⟨#[]⟩, ⟨#[]⟩, ch⟩)
  case first =>
    go_region_held3 (fun W2 => W2.cell? ⟨b, off + 16 * n, none⟩ = some (.int .i64 1) ∧ W2.cell? ⟨b, off + 16 * n + 6, none⟩ = some (.int .i64 ch))
      (first | exact S0.out | exact rd_S2 (HM1.out.below ((Below.refl _ _).alloc (Nat.le_refl _) _)) h0 h6 | exact rd_S2 (HM1.out.below ((((((Below.refl _ _).alloc (Nat.le_refl _) _).setCell (Nat.le_refl _) _).setCell (Nat.le_refl _) _).setCell (Nat.le_refl _) _).setCell (Nat.le_refl _) _)) h0 h6)
      (fail)
    all_goals
      go_wp2_with fail
      go_meet
      exact ⟨rfl, ((Below.refl _ _).alloc (Nat.le_refl _) _).drew, rc_new w1 ⟨1, ⟨#[]⟩, ⟨#[]⟩, ch⟩⟩
  case rest =>
    generalize wc = wd at hcut ⊢
    obtain ⟨rfl, hB2, hX2⟩ := hcut
    have H2 : Hid (Below w1.heap.size w1 wd) := hB2
    have X2 : Hid (RcAt wd w1.heap.size ⟨1, ⟨#[]⟩, ⟨#[]⟩, ch⟩) := hX2
    have lt1 : Hid (w.heap.size < w1.heap.size) := R1.out.lt
    have m1 := (HM.out.below (bstep H1.out hB2)).cell h1
    clear hB2 hX2 m0 m6 S0 HM1
    have t1 : Hid (0 = 0) := rfl
    subst hX
    go_wp2_with (first
      | (go_at_call 75; clear t1; refine (Ky.textR_any (.slice (some ⟨b, off + 16 * n + 3, none⟩) nk (cap - 16 * n - 3)) ((M.drop 3).take nk) (kn : Int) _ ((HMk.out.below (bstep H1.out H2.out)).ky HFk.out)).mono ?_; rintro e w3 ⟨rfl, b3⟩; rw [Hka.out, HeE.out]; have B3 := X2.out.below b3; have y1 := B3.c.2.1; have g1 := B3.f 1; have HX3 : Hid (RcAt (w3.setCell ⟨w1.heap.size, 1, none⟩ (.string ka)) w1.heap.size ⟨1, ka, ⟨#[]⟩, ch⟩) := B3.kk ka; have H3 : Hid (Below w1.heap.size w1 (w3.setCell ⟨w1.heap.size, 1, none⟩ (.string ka))) := (H2.out.trans (b3.mono H2.out.size)).setCell (p := ⟨w1.heap.size, 1, none⟩) (Nat.le_refl _) _; obtain ⟨z0, z1, z2, z3⟩ := HX3.out.c; dsimp only at z0 z1 z2 z3 y1; clear b3 B3)
      | (go_at_call 75; refine (Ky.textR_any (.slice (some ⟨b, off + 16 * n + 6, none⟩) nv (cap - 16 * n - 6)) ((M.drop 6).take nv) (vn : Int) _ ((HMv.out.below (bstep H1.out H3.out)).ky HFv.out)).mono ?_; rintro e w4 ⟨rfl, b4⟩; rw [Hva.out, HfE.out]; have B4 := HX3.out.below b4; have u3 := B4.c.2.2.2; have r3 := B4.f 3; have B5 := B4.ch 0; have u2 := B5.c.2.2.1; have r2 := B5.f 2; have HX6 : Hid (RcAt ((w4.setCell ⟨w1.heap.size, 3, none⟩ (.int .i64 0)).setCell ⟨w1.heap.size, 2, none⟩ (.string va)) w1.heap.size ⟨1, ka, va, 0⟩) := B5.vl va; have H6 : Hid (Below w1.heap.size w1 ((w4.setCell ⟨w1.heap.size, 3, none⟩ (.int .i64 0)).setCell ⟨w1.heap.size, 2, none⟩ (.string va))) := ((H3.out.trans (b4.mono H3.out.size)).setCell (p := ⟨w1.heap.size, 3, none⟩) (Nat.le_refl _) _).setCell (p := ⟨w1.heap.size, 2, none⟩) (Nat.le_refl _) _; obtain ⟨v0, v1, v2, v3⟩ := HX6.out.c; dsimp only at u3 u2 v0 v1 v2 v3; clear b4 B4 B5)
      | (go_at_call 76; refine (wordsRr_any (⟨1, ka, va, 0⟩ : Rc) _).mono ?_; rintro e w7 ⟨v7, rfl, R7, b7⟩; have H7 : Hid (Below w1.heap.size w1 w7) := H6.out.trans (b7.mono H6.out.size); have HR7 : Hid (Rd w7 v7 (wLs (⟨1, ka, va, 0⟩ : Rc))) := R7; have Z7 : Hid (RcAt w7 w.heap.size rc0) := R1.out.below H7.out; have X7 : Hid (RcAt w7 w1.heap.size (⟨1, ka, va, 0⟩ : Rc)) := HX6.out.below b7; have ht := Z7.out.there; have hla := Z7.out.laid rc0; clear b7 R7)
      | (refine wpList_store_mid rfl 40 _ _ rfl w.heap.size 0 (rcs rc0).toArray rfl rfl ht (rcs_size rc0) (rcs_one rc0) ?_))
    refine bodyPost_ret (v := .tuple #[.agg (rcs rc0).toArray, .int .i64 70]) ?_ rfl ⟨rfl, Sm.below_setCells _ _ _ (Nat.le_refl _) (bstep H1.out H7.out)⟩
    have := run_loadVar_mid (P := Tryz.prog) _ w.heap.size 0 40 (rcs rc0) _ hla Tryz.underlying40 rfl (rcs_sizeL rc0)
    simp [results, Tryz.results48, asAddr, this]
set_option maxRecDepth 100000 in
set_option maxHeartbeats 4000000 in
theorem readR_1_n (w : World) (b off cap n L : Nat) (hn9 : n < 70) (hnN : 16 * n + 16 ≤ L) (hcap : L ≤ cap) (M : List Int) (hM : Rd w (.slice (some ⟨b, off + 16 * n, none⟩) 16 (cap - 16 * n)) M) (l16 : M.length = 16) (hF : Fits M) (s kn vn nk nv : Nat) (k ch : Int) (h0 : M[0]? = some 1) (h1 : M[1]? = some (s : Int)) (h6 : M[6]? = some ch) (hs : s ≤ 693) (q1 : (s : Int) / 32 = (kn : Int)) (q2 : (s : Int) % 32 = (vn : Int)) (q3 : ((kn : Int) + 6) / 7 = (nk : Int)) (q4 : ((vn : Int) + 6) / 7 = (nv : Int)) (hk9 : kn ≤ 21) (hv9 : vn ≤ 31) (hnk : nk ≤ 3) (hnv : nv ≤ 5) (ka va : ByteArray) (eE fE : Int) (hka : Ky.txS ((M.drop 3).take nk) (kn : Int) = ka) (heE : Ky.txE ((M.drop 3).take nk) (kn : Int) = eE) (hva : Ky.txS ((M.drop 6).take nv) (vn : Int) = va) (hfE : Ky.txE ((M.drop 6).take nv) (vn : Int) = fE) (X : Rc) (hX : X = (⟨1, ka, va, 0⟩ : Rc)) (dE : (eE != 0) = false) (dF : (fE != 0) = false) (dG : (wEs X != 0) = false) (dN : decide (wLs X = M) = false) (zs : List Int) (hZ : Rd w (.slice (some ⟨b, off, none⟩) L cap) zs) (hzl : zs.length = L) (hz3 : L ≤ 1000) : Calls Tryz.prog 48 #[.slice (some ⟨b, off, none⟩) L cap, .int .i64 (n : Int)] w fun e w' => e = .returned (.tuple #[.agg (rcs rc0).toArray, .int .i64 70]) ∧ Below w.heap.size w w' := by
  obtain ⟨e1, e2, e3, e5, e6, e7, f5, f6⟩ := rd_nums hn9 hnN hcap
  have k25 : Hid (∀ w', Below w.heap.size w w' → Calls Tryz.prog 74 #[.slice (some ⟨b, off, none⟩) L cap, .int .i64 (n : Int)] w' fun e w'' => e = .returned (.bool true) ∧ Below w'.heap.size w' w'') := fun w' hb => by
    have hi : inB zs.length (n : Int) = true := decide_eq_true (by omega)
    have := whole_any _ zs (n : Int) w' (hZ.below hb) (by omega)
    rw [hi] at this
    exact this
  have HM : Hid (Rd w (.slice (some ⟨b, off + 16 * n, none⟩) 16 (cap - 16 * n)) M) := hM
  have HMk : Hid (Rd w (.slice (some ⟨b, off + 16 * n + 3, none⟩) nk (cap - 16 * n - 3)) ((M.drop 3).take nk)) := (hM.drop 3 (by omega)).take nk (by simp; omega)
  have HFk : Hid (Fits ((M.drop 3).take nk)) := show Fits _ from fun z hz => hF z (List.mem_of_mem_drop (List.mem_of_mem_take hz))
  have HMv : Hid (Rd w (.slice (some ⟨b, off + 16 * n + 6, none⟩) nv (cap - 16 * n - 6)) ((M.drop 6).take nv)) := (hM.drop 6 (by omega)).take nv (by simp; omega)
  have HFv : Hid (Fits ((M.drop 6).take nv)) := show Fits _ from fun z hz => hF z (List.mem_of_mem_drop (List.mem_of_mem_take hz))
  have Hka : Hid (Ky.txS ((M.drop 3).take nk) (kn : Int) = ka) := hka
  have HeE : Hid (Ky.txE ((M.drop 3).take nk) (kn : Int) = eE) := heE
  have Hva : Hid (Ky.txS ((M.drop 6).take nv) (vn : Int) = va) := hva
  have HfE : Hid (Ky.txE ((M.drop 6).take nv) (vn : Int) = fE) := hfE
  clear hva hfE
  have H0 : Hid (Below w.heap.size w (w.alloc (.cells #[.int .i64 0, .string ⟨#[]⟩, .string ⟨#[]⟩, .int .i64 0] 40))) := (Below.refl _ _).alloc (Nat.le_refl _) _
  have R0 : Hid (RcAt (w.alloc (.cells #[.int .i64 0, .string ⟨#[]⟩, .string ⟨#[]⟩, .int .i64 0] 40)) w.heap.size rc0) := rc0_new w
  have Hl16 : Hid (M.length = 16) := l16
  have hs0 : ¬ (s : Int) < 0 := by omega
  have hs1 : ¬ (s : Int) > 693 := by omega
  clear hM hF hka heE l16 hZ hzl
  go_enter Tryz.func48, Tryz.ntmps48
  go_wp2_with (first
    | (go_at_call 74; refine (k25.out _ H0.out).mono ?_; rintro e w1 ⟨rfl, b1⟩; have H1 : Hid (Below w.heap.size w w1) := bstep H0.out b1; have R1 : Hid (RcAt w1 w.heap.size rc0) := R0.out.below b1; have m0 := (HM.out.below H1.out).cell h0; have m1 := (HM.out.below H1.out).cell h1; have m6 := (HM.out.below H1.out).cell h6; clear b1))
  have HM1 : Hid (Rd w1.drew (.slice (some ⟨b, off + 16 * n, none⟩) 16 (cap - 16 * n)) M) := HM.out.below H1.out.drew
  have S0 : Hid (w1.drew.cell? ⟨b, off + 16 * n, none⟩ = some (.int .i64 1) ∧ w1.drew.cell? ⟨b, off + 16 * n + 6, none⟩ = some (.int .i64 ch)) := ⟨m0, m6⟩
  go_cut [7] (fun s7 wx => s7 = .pointer (some ⟨w1.heap.size, 0, none⟩) ∧ Below w1.heap.size w1 wx ∧ RcAt wx w1.heap.size ⟨1, ⟨#[]⟩, ⟨#[]⟩, ch⟩)
  case first =>
    go_region_held3 (fun W2 => W2.cell? ⟨b, off + 16 * n, none⟩ = some (.int .i64 1) ∧ W2.cell? ⟨b, off + 16 * n + 6, none⟩ = some (.int .i64 ch))
      (first | exact S0.out | exact rd_S2 (HM1.out.below ((Below.refl _ _).alloc (Nat.le_refl _) _)) h0 h6 | exact rd_S2 (HM1.out.below ((((((Below.refl _ _).alloc (Nat.le_refl _) _).setCell (Nat.le_refl _) _).setCell (Nat.le_refl _) _).setCell (Nat.le_refl _) _).setCell (Nat.le_refl _) _)) h0 h6)
      (fail)
    all_goals
      go_wp2_with fail
      go_meet
      exact ⟨rfl, ((Below.refl _ _).alloc (Nat.le_refl _) _).drew, rc_new w1 ⟨1, ⟨#[]⟩, ⟨#[]⟩, ch⟩⟩
  case rest =>
    generalize wc = wd at hcut ⊢
    obtain ⟨rfl, hB2, hX2⟩ := hcut
    have H2 : Hid (Below w1.heap.size w1 wd) := hB2
    have X2 : Hid (RcAt wd w1.heap.size ⟨1, ⟨#[]⟩, ⟨#[]⟩, ch⟩) := hX2
    have lt1 : Hid (w.heap.size < w1.heap.size) := R1.out.lt
    have m1 := (HM.out.below (bstep H1.out hB2)).cell h1
    clear hB2 hX2 m0 m6 S0 HM1
    have t1 : Hid (0 = 0) := rfl
    subst hX
    go_wp2_with (first
      | (go_at_call 75; clear t1; refine (Ky.textR_any (.slice (some ⟨b, off + 16 * n + 3, none⟩) nk (cap - 16 * n - 3)) ((M.drop 3).take nk) (kn : Int) _ ((HMk.out.below (bstep H1.out H2.out)).ky HFk.out)).mono ?_; rintro e w3 ⟨rfl, b3⟩; rw [Hka.out, HeE.out]; have B3 := X2.out.below b3; have y1 := B3.c.2.1; have g1 := B3.f 1; have HX3 : Hid (RcAt (w3.setCell ⟨w1.heap.size, 1, none⟩ (.string ka)) w1.heap.size ⟨1, ka, ⟨#[]⟩, ch⟩) := B3.kk ka; have H3 : Hid (Below w1.heap.size w1 (w3.setCell ⟨w1.heap.size, 1, none⟩ (.string ka))) := (H2.out.trans (b3.mono H2.out.size)).setCell (p := ⟨w1.heap.size, 1, none⟩) (Nat.le_refl _) _; obtain ⟨z0, z1, z2, z3⟩ := HX3.out.c; dsimp only at z0 z1 z2 z3 y1; clear b3 B3)
      | (go_at_call 75; refine (Ky.textR_any (.slice (some ⟨b, off + 16 * n + 6, none⟩) nv (cap - 16 * n - 6)) ((M.drop 6).take nv) (vn : Int) _ ((HMv.out.below (bstep H1.out H3.out)).ky HFv.out)).mono ?_; rintro e w4 ⟨rfl, b4⟩; rw [Hva.out, HfE.out]; have B4 := HX3.out.below b4; have u3 := B4.c.2.2.2; have r3 := B4.f 3; have B5 := B4.ch 0; have u2 := B5.c.2.2.1; have r2 := B5.f 2; have HX6 : Hid (RcAt ((w4.setCell ⟨w1.heap.size, 3, none⟩ (.int .i64 0)).setCell ⟨w1.heap.size, 2, none⟩ (.string va)) w1.heap.size ⟨1, ka, va, 0⟩) := B5.vl va; have H6 : Hid (Below w1.heap.size w1 ((w4.setCell ⟨w1.heap.size, 3, none⟩ (.int .i64 0)).setCell ⟨w1.heap.size, 2, none⟩ (.string va))) := ((H3.out.trans (b4.mono H3.out.size)).setCell (p := ⟨w1.heap.size, 3, none⟩) (Nat.le_refl _) _).setCell (p := ⟨w1.heap.size, 2, none⟩) (Nat.le_refl _) _; obtain ⟨v0, v1, v2, v3⟩ := HX6.out.c; dsimp only at u3 u2 v0 v1 v2 v3; clear b4 B4 B5)
      | (go_at_call 76; refine (wordsRr_any (⟨1, ka, va, 0⟩ : Rc) _).mono ?_; rintro e w7 ⟨v7, rfl, R7, b7⟩; have H7 : Hid (Below w1.heap.size w1 w7) := H6.out.trans (b7.mono H6.out.size); have HR7 : Hid (Rd w7 v7 (wLs (⟨1, ka, va, 0⟩ : Rc))) := R7; have Z7 : Hid (RcAt w7 w.heap.size rc0) := R1.out.below H7.out; have X7 : Hid (RcAt w7 w1.heap.size (⟨1, ka, va, 0⟩ : Rc)) := HX6.out.below b7; clear b7 R7)
      | (go_at_call 72; refine (numbers_any _ _ (wLs (⟨1, ka, va, 0⟩ : Rc)) M _ HR7.out (HM.out.below (bstep H1.out H7.out))).mono ?_; rintro e w8 ⟨rfl, b8⟩; rw [dN]; have H8 : Hid (Below w1.heap.size w1 w8) := H7.out.trans (b8.mono H7.out.size); have Z8 : Hid (RcAt w8 w.heap.size rc0) := Z7.out.below b8; have ht := Z8.out.there; have hla := Z8.out.laid rc0; have hr8 := (X7.out.below b8).range; clear b8)
      | (refine wpList_store_mid rfl 40 _ _ rfl w.heap.size 0 (rcs rc0).toArray rfl rfl ht (rcs_size rc0) (rcs_one rc0) ?_))
    refine bodyPost_ret (v := .tuple #[.agg (rcs rc0).toArray, .int .i64 70]) ?_ rfl ⟨rfl, Sm.below_setCells _ _ _ (Nat.le_refl _) (bstep H1.out H8.out)⟩
    have := run_loadVar_mid (P := Tryz.prog) _ w.heap.size 0 40 (rcs rc0) _ hla Tryz.underlying40 rfl (rcs_sizeL rc0)
    simp [results, Tryz.results48, asAddr, this]
set_option maxRecDepth 100000 in
set_option maxHeartbeats 4000000 in
theorem readR_1_ok (w : World) (b off cap n L : Nat) (hn9 : n < 70) (hnN : 16 * n + 16 ≤ L) (hcap : L ≤ cap) (M : List Int) (hM : Rd w (.slice (some ⟨b, off + 16 * n, none⟩) 16 (cap - 16 * n)) M) (l16 : M.length = 16) (hF : Fits M) (s kn vn nk nv : Nat) (k ch : Int) (h0 : M[0]? = some 1) (h1 : M[1]? = some (s : Int)) (h6 : M[6]? = some ch) (hs : s ≤ 693) (q1 : (s : Int) / 32 = (kn : Int)) (q2 : (s : Int) % 32 = (vn : Int)) (q3 : ((kn : Int) + 6) / 7 = (nk : Int)) (q4 : ((vn : Int) + 6) / 7 = (nv : Int)) (hk9 : kn ≤ 21) (hv9 : vn ≤ 31) (hnk : nk ≤ 3) (hnv : nv ≤ 5) (ka va : ByteArray) (eE fE : Int) (hka : Ky.txS ((M.drop 3).take nk) (kn : Int) = ka) (heE : Ky.txE ((M.drop 3).take nk) (kn : Int) = eE) (hva : Ky.txS ((M.drop 6).take nv) (vn : Int) = va) (hfE : Ky.txE ((M.drop 6).take nv) (vn : Int) = fE) (X : Rc) (hX : X = (⟨1, ka, va, 0⟩ : Rc)) (dE : (eE != 0) = false) (dF : (fE != 0) = false) (dG : (wEs X != 0) = false) (dN : decide (wLs X = M) = true) (zs : List Int) (hZ : Rd w (.slice (some ⟨b, off, none⟩) L cap) zs) (hzl : zs.length = L) (hz3 : L ≤ 1000) : Calls Tryz.prog 48 #[.slice (some ⟨b, off, none⟩) L cap, .int .i64 (n : Int)] w fun e w' => e = .returned (.tuple #[.agg (rcs X).toArray, .int .i64 0]) ∧ Below w.heap.size w w' := by
  obtain ⟨e1, e2, e3, e5, e6, e7, f5, f6⟩ := rd_nums hn9 hnN hcap
  have k25 : Hid (∀ w', Below w.heap.size w w' → Calls Tryz.prog 74 #[.slice (some ⟨b, off, none⟩) L cap, .int .i64 (n : Int)] w' fun e w'' => e = .returned (.bool true) ∧ Below w'.heap.size w' w'') := fun w' hb => by
    have hi : inB zs.length (n : Int) = true := decide_eq_true (by omega)
    have := whole_any _ zs (n : Int) w' (hZ.below hb) (by omega)
    rw [hi] at this
    exact this
  have HM : Hid (Rd w (.slice (some ⟨b, off + 16 * n, none⟩) 16 (cap - 16 * n)) M) := hM
  have HMk : Hid (Rd w (.slice (some ⟨b, off + 16 * n + 3, none⟩) nk (cap - 16 * n - 3)) ((M.drop 3).take nk)) := (hM.drop 3 (by omega)).take nk (by simp; omega)
  have HFk : Hid (Fits ((M.drop 3).take nk)) := show Fits _ from fun z hz => hF z (List.mem_of_mem_drop (List.mem_of_mem_take hz))
  have HMv : Hid (Rd w (.slice (some ⟨b, off + 16 * n + 6, none⟩) nv (cap - 16 * n - 6)) ((M.drop 6).take nv)) := (hM.drop 6 (by omega)).take nv (by simp; omega)
  have HFv : Hid (Fits ((M.drop 6).take nv)) := show Fits _ from fun z hz => hF z (List.mem_of_mem_drop (List.mem_of_mem_take hz))
  have Hka : Hid (Ky.txS ((M.drop 3).take nk) (kn : Int) = ka) := hka
  have HeE : Hid (Ky.txE ((M.drop 3).take nk) (kn : Int) = eE) := heE
  have Hva : Hid (Ky.txS ((M.drop 6).take nv) (vn : Int) = va) := hva
  have HfE : Hid (Ky.txE ((M.drop 6).take nv) (vn : Int) = fE) := hfE
  clear hva hfE
  have H0 : Hid (Below w.heap.size w (w.alloc (.cells #[.int .i64 0, .string ⟨#[]⟩, .string ⟨#[]⟩, .int .i64 0] 40))) := (Below.refl _ _).alloc (Nat.le_refl _) _
  have R0 : Hid (RcAt (w.alloc (.cells #[.int .i64 0, .string ⟨#[]⟩, .string ⟨#[]⟩, .int .i64 0] 40)) w.heap.size rc0) := rc0_new w
  have Hl16 : Hid (M.length = 16) := l16
  have hs0 : ¬ (s : Int) < 0 := by omega
  have hs1 : ¬ (s : Int) > 693 := by omega
  clear hM hF hka heE l16 hZ hzl
  go_enter Tryz.func48, Tryz.ntmps48
  go_wp2_with (first
    | (go_at_call 74; refine (k25.out _ H0.out).mono ?_; rintro e w1 ⟨rfl, b1⟩; have H1 : Hid (Below w.heap.size w w1) := bstep H0.out b1; have R1 : Hid (RcAt w1 w.heap.size rc0) := R0.out.below b1; have m0 := (HM.out.below H1.out).cell h0; have m1 := (HM.out.below H1.out).cell h1; have m6 := (HM.out.below H1.out).cell h6; clear b1))
  have HM1 : Hid (Rd w1.drew (.slice (some ⟨b, off + 16 * n, none⟩) 16 (cap - 16 * n)) M) := HM.out.below H1.out.drew
  have S0 : Hid (w1.drew.cell? ⟨b, off + 16 * n, none⟩ = some (.int .i64 1) ∧ w1.drew.cell? ⟨b, off + 16 * n + 6, none⟩ = some (.int .i64 ch)) := ⟨m0, m6⟩
  go_cut [7] (fun s7 wx => s7 = .pointer (some ⟨w1.heap.size, 0, none⟩) ∧ Below w1.heap.size w1 wx ∧ RcAt wx w1.heap.size ⟨1, ⟨#[]⟩, ⟨#[]⟩, ch⟩)
  case first =>
    go_region_held3 (fun W2 => W2.cell? ⟨b, off + 16 * n, none⟩ = some (.int .i64 1) ∧ W2.cell? ⟨b, off + 16 * n + 6, none⟩ = some (.int .i64 ch))
      (first | exact S0.out | exact rd_S2 (HM1.out.below ((Below.refl _ _).alloc (Nat.le_refl _) _)) h0 h6 | exact rd_S2 (HM1.out.below ((((((Below.refl _ _).alloc (Nat.le_refl _) _).setCell (Nat.le_refl _) _).setCell (Nat.le_refl _) _).setCell (Nat.le_refl _) _).setCell (Nat.le_refl _) _)) h0 h6)
      (fail)
    all_goals
      go_wp2_with fail
      go_meet
      exact ⟨rfl, ((Below.refl _ _).alloc (Nat.le_refl _) _).drew, rc_new w1 ⟨1, ⟨#[]⟩, ⟨#[]⟩, ch⟩⟩
  case rest =>
    generalize wc = wd at hcut ⊢
    obtain ⟨rfl, hB2, hX2⟩ := hcut
    have H2 : Hid (Below w1.heap.size w1 wd) := hB2
    have X2 : Hid (RcAt wd w1.heap.size ⟨1, ⟨#[]⟩, ⟨#[]⟩, ch⟩) := hX2
    have lt1 : Hid (w.heap.size < w1.heap.size) := R1.out.lt
    have m1 := (HM.out.below (bstep H1.out hB2)).cell h1
    clear hB2 hX2 m0 m6 S0 HM1
    have t1 : Hid (0 = 0) := rfl
    subst hX
    go_wp2_with (first
      | (go_at_call 75; clear t1; refine (Ky.textR_any (.slice (some ⟨b, off + 16 * n + 3, none⟩) nk (cap - 16 * n - 3)) ((M.drop 3).take nk) (kn : Int) _ ((HMk.out.below (bstep H1.out H2.out)).ky HFk.out)).mono ?_; rintro e w3 ⟨rfl, b3⟩; rw [Hka.out, HeE.out]; have B3 := X2.out.below b3; have y1 := B3.c.2.1; have g1 := B3.f 1; have HX3 : Hid (RcAt (w3.setCell ⟨w1.heap.size, 1, none⟩ (.string ka)) w1.heap.size ⟨1, ka, ⟨#[]⟩, ch⟩) := B3.kk ka; have H3 : Hid (Below w1.heap.size w1 (w3.setCell ⟨w1.heap.size, 1, none⟩ (.string ka))) := (H2.out.trans (b3.mono H2.out.size)).setCell (p := ⟨w1.heap.size, 1, none⟩) (Nat.le_refl _) _; obtain ⟨z0, z1, z2, z3⟩ := HX3.out.c; dsimp only at z0 z1 z2 z3 y1; clear b3 B3)
      | (go_at_call 75; refine (Ky.textR_any (.slice (some ⟨b, off + 16 * n + 6, none⟩) nv (cap - 16 * n - 6)) ((M.drop 6).take nv) (vn : Int) _ ((HMv.out.below (bstep H1.out H3.out)).ky HFv.out)).mono ?_; rintro e w4 ⟨rfl, b4⟩; rw [Hva.out, HfE.out]; have B4 := HX3.out.below b4; have u3 := B4.c.2.2.2; have r3 := B4.f 3; have B5 := B4.ch 0; have u2 := B5.c.2.2.1; have r2 := B5.f 2; have HX6 : Hid (RcAt ((w4.setCell ⟨w1.heap.size, 3, none⟩ (.int .i64 0)).setCell ⟨w1.heap.size, 2, none⟩ (.string va)) w1.heap.size ⟨1, ka, va, 0⟩) := B5.vl va; have H6 : Hid (Below w1.heap.size w1 ((w4.setCell ⟨w1.heap.size, 3, none⟩ (.int .i64 0)).setCell ⟨w1.heap.size, 2, none⟩ (.string va))) := ((H3.out.trans (b4.mono H3.out.size)).setCell (p := ⟨w1.heap.size, 3, none⟩) (Nat.le_refl _) _).setCell (p := ⟨w1.heap.size, 2, none⟩) (Nat.le_refl _) _; obtain ⟨v0, v1, v2, v3⟩ := HX6.out.c; dsimp only at u3 u2 v0 v1 v2 v3; clear b4 B4 B5)
      | (go_at_call 76; refine (wordsRr_any (⟨1, ka, va, 0⟩ : Rc) _).mono ?_; rintro e w7 ⟨v7, rfl, R7, b7⟩; have H7 : Hid (Below w1.heap.size w1 w7) := H6.out.trans (b7.mono H6.out.size); have HR7 : Hid (Rd w7 v7 (wLs (⟨1, ka, va, 0⟩ : Rc))) := R7; have Z7 : Hid (RcAt w7 w.heap.size rc0) := R1.out.below H7.out; have X7 : Hid (RcAt w7 w1.heap.size (⟨1, ka, va, 0⟩ : Rc)) := HX6.out.below b7; clear b7 R7)
      | (go_at_call 72; refine (numbers_any _ _ (wLs (⟨1, ka, va, 0⟩ : Rc)) M _ HR7.out (HM.out.below (bstep H1.out H7.out))).mono ?_; rintro e w8 ⟨rfl, b8⟩; rw [dN]; have H8 : Hid (Below w1.heap.size w1 w8) := H7.out.trans (b8.mono H7.out.size); have Z8 : Hid (RcAt w8 w.heap.size rc0) := Z7.out.below b8; have ht := Z8.out.there; have hla := Z8.out.laid (⟨1, ka, va, 0⟩ : Rc); have hr8 := (X7.out.below b8).range; clear b8)
      | (refine wpList_load_mid rfl 40 _ rfl w1.heap.size 0 rfl (rcs (⟨1, ka, va, 0⟩ : Rc)) _ hr8 Tryz.underlying40 rfl (rcs_sizeL (⟨1, ka, va, 0⟩ : Rc)) ?_)
      | (refine wpList_store_mid rfl 40 _ _ rfl w.heap.size 0 (rcs (⟨1, ka, va, 0⟩ : Rc)).toArray rfl rfl ht (rcs_size (⟨1, ka, va, 0⟩ : Rc)) (rcs_one (⟨1, ka, va, 0⟩ : Rc)) ?_))
    refine bodyPost_ret (v := .tuple #[.agg (rcs (⟨1, ka, va, 0⟩ : Rc)).toArray, .int .i64 0]) ?_ rfl ⟨rfl, Sm.below_setCells _ _ _ (Nat.le_refl _) (bstep H1.out H8.out)⟩
    have := run_loadVar_mid (P := Tryz.prog) _ w.heap.size 0 40 (rcs (⟨1, ka, va, 0⟩ : Rc)) _ hla Tryz.underlying40 rfl (rcs_sizeL (⟨1, ka, va, 0⟩ : Rc))
    simp [results, Tryz.results48, asAddr, this]
set_option maxRecDepth 100000 in
set_option maxHeartbeats 4000000 in
theorem readR_2_e (w : World) (b off cap n L : Nat) (hn9 : n < 70) (hnN : 16 * n + 16 ≤ L) (hcap : L ≤ cap) (M : List Int) (hM : Rd w (.slice (some ⟨b, off + 16 * n, none⟩) 16 (cap - 16 * n)) M) (l16 : M.length = 16) (hF : Fits M) (s kn vn nk nv : Nat) (k ch : Int) (h0 : M[0]? = some k) (h1 : M[1]? = some (s : Int)) (h6 : M[6]? = some ch) (hs : s ≤ 693) (q1 : (s : Int) / 32 = (kn : Int)) (q2 : (s : Int) % 32 = (vn : Int)) (q3 : ((kn : Int) + 6) / 7 = (nk : Int)) (q4 : ((vn : Int) + 6) / 7 = (nv : Int)) (hk9 : kn ≤ 21) (hv9 : vn ≤ 31) (hnk : nk ≤ 3) (hnv : nv ≤ 5) (hk1 : (k == 1) = false) (ka va : ByteArray) (eE fE : Int) (hka : Ky.txS ((M.drop 3).take nk) (kn : Int) = ka) (heE : Ky.txE ((M.drop 3).take nk) (kn : Int) = eE) (X : Rc) (hX : X = (⟨k, ka, ⟨#[]⟩, ch⟩ : Rc)) (dE : (eE != 0) = true) (zs : List Int) (hZ : Rd w (.slice (some ⟨b, off, none⟩) L cap) zs) (hzl : zs.length = L) (hz3 : L ≤ 1000) : Calls Tryz.prog 48 #[.slice (some ⟨b, off, none⟩) L cap, .int .i64 (n : Int)] w fun e w' => e = .returned (.tuple #[.agg (rcs rc0).toArray, .int .i64 70]) ∧ Below w.heap.size w w' := by
  obtain ⟨e1, e2, e3, e5, e6, e7, f5, f6⟩ := rd_nums hn9 hnN hcap
  have k25 : Hid (∀ w', Below w.heap.size w w' → Calls Tryz.prog 74 #[.slice (some ⟨b, off, none⟩) L cap, .int .i64 (n : Int)] w' fun e w'' => e = .returned (.bool true) ∧ Below w'.heap.size w' w'') := fun w' hb => by
    have hi : inB zs.length (n : Int) = true := decide_eq_true (by omega)
    have := whole_any _ zs (n : Int) w' (hZ.below hb) (by omega)
    rw [hi] at this
    exact this
  have HM : Hid (Rd w (.slice (some ⟨b, off + 16 * n, none⟩) 16 (cap - 16 * n)) M) := hM
  have HMk : Hid (Rd w (.slice (some ⟨b, off + 16 * n + 3, none⟩) nk (cap - 16 * n - 3)) ((M.drop 3).take nk)) := (hM.drop 3 (by omega)).take nk (by simp; omega)
  have HFk : Hid (Fits ((M.drop 3).take nk)) := show Fits _ from fun z hz => hF z (List.mem_of_mem_drop (List.mem_of_mem_take hz))
  have HMv : Hid (Rd w (.slice (some ⟨b, off + 16 * n + 6, none⟩) nv (cap - 16 * n - 6)) ((M.drop 6).take nv)) := (hM.drop 6 (by omega)).take nv (by simp; omega)
  have HFv : Hid (Fits ((M.drop 6).take nv)) := show Fits _ from fun z hz => hF z (List.mem_of_mem_drop (List.mem_of_mem_take hz))
  have Hka : Hid (Ky.txS ((M.drop 3).take nk) (kn : Int) = ka) := hka
  have HeE : Hid (Ky.txE ((M.drop 3).take nk) (kn : Int) = eE) := heE
  have H0 : Hid (Below w.heap.size w (w.alloc (.cells #[.int .i64 0, .string ⟨#[]⟩, .string ⟨#[]⟩, .int .i64 0] 40))) := (Below.refl _ _).alloc (Nat.le_refl _) _
  have R0 : Hid (RcAt (w.alloc (.cells #[.int .i64 0, .string ⟨#[]⟩, .string ⟨#[]⟩, .int .i64 0] 40)) w.heap.size rc0) := rc0_new w
  have Hl16 : Hid (M.length = 16) := l16
  have hs0 : ¬ (s : Int) < 0 := by omega
  have hs1 : ¬ (s : Int) > 693 := by omega
  clear hM hF hka heE l16 hZ hzl
  go_enter Tryz.func48, Tryz.ntmps48
  go_wp2_with (first
    | (go_at_call 74; refine (k25.out _ H0.out).mono ?_; rintro e w1 ⟨rfl, b1⟩; have H1 : Hid (Below w.heap.size w w1) := bstep H0.out b1; have R1 : Hid (RcAt w1 w.heap.size rc0) := R0.out.below b1; have m0 := (HM.out.below H1.out).cell h0; have m1 := (HM.out.below H1.out).cell h1; have m6 := (HM.out.below H1.out).cell h6; clear b1))
  have HM1 : Hid (Rd w1.drew (.slice (some ⟨b, off + 16 * n, none⟩) 16 (cap - 16 * n)) M) := HM.out.below H1.out.drew
  have S0 : Hid (w1.drew.cell? ⟨b, off + 16 * n, none⟩ = some (.int .i64 k) ∧ w1.drew.cell? ⟨b, off + 16 * n + 6, none⟩ = some (.int .i64 ch)) := ⟨m0, m6⟩
  go_cut [7] (fun s7 wx => s7 = .pointer (some ⟨w1.heap.size, 0, none⟩) ∧ Below w1.heap.size w1 wx ∧ RcAt wx w1.heap.size ⟨k, ⟨#[]⟩, ⟨#[]⟩, ch⟩)
  case first =>
    go_region_held3 (fun W2 => W2.cell? ⟨b, off + 16 * n, none⟩ = some (.int .i64 k) ∧ W2.cell? ⟨b, off + 16 * n + 6, none⟩ = some (.int .i64 ch))
      (first | exact S0.out | exact rd_S2 (HM1.out.below ((Below.refl _ _).alloc (Nat.le_refl _) _)) h0 h6 | exact rd_S2 (HM1.out.below ((((((Below.refl _ _).alloc (Nat.le_refl _) _).setCell (Nat.le_refl _) _).setCell (Nat.le_refl _) _).setCell (Nat.le_refl _) _).setCell (Nat.le_refl _) _)) h0 h6)
      (fail)
    all_goals
      go_wp2_with fail
      go_meet
      exact ⟨rfl, ((Below.refl _ _).alloc (Nat.le_refl _) _).drew, rc_new w1 ⟨k, ⟨#[]⟩, ⟨#[]⟩, ch⟩⟩
  case rest =>
    generalize wc = wd at hcut ⊢
    obtain ⟨rfl, hB2, hX2⟩ := hcut
    have H2 : Hid (Below w1.heap.size w1 wd) := hB2
    have X2 : Hid (RcAt wd w1.heap.size ⟨k, ⟨#[]⟩, ⟨#[]⟩, ch⟩) := hX2
    have lt1 : Hid (w.heap.size < w1.heap.size) := R1.out.lt
    have m1 := (HM.out.below (bstep H1.out hB2)).cell h1
    clear hB2 hX2 m0 m6 S0 HM1
    have t1 : Hid (0 = 0) := rfl
    subst hX
    go_wp2_with (first
      | (go_at_call 75; clear t1; refine (Ky.textR_any (.slice (some ⟨b, off + 16 * n + 3, none⟩) nk (cap - 16 * n - 3)) ((M.drop 3).take nk) (kn : Int) _ ((HMk.out.below (bstep H1.out H2.out)).ky HFk.out)).mono ?_; rintro e w3 ⟨rfl, b3⟩; rw [Hka.out, HeE.out]; have B3 := X2.out.below b3; have y1 := B3.c.2.1; have g1 := B3.f 1; have HX3 : Hid (RcAt (w3.setCell ⟨w1.heap.size, 1, none⟩ (.string ka)) w1.heap.size ⟨k, ka, ⟨#[]⟩, ch⟩) := B3.kk ka; have H3 : Hid (Below w1.heap.size w1 (w3.setCell ⟨w1.heap.size, 1, none⟩ (.string ka))) := (H2.out.trans (b3.mono H2.out.size)).setCell (p := ⟨w1.heap.size, 1, none⟩) (Nat.le_refl _) _; obtain ⟨z0, z1, z2, z3⟩ := HX3.out.c; dsimp only at z0 z1 z2 z3 y1; clear b3 B3)
      | (go_at_call 76; refine (wordsRr_any (⟨k, ka, ⟨#[]⟩, ch⟩ : Rc) _).mono ?_; rintro e w7 ⟨v7, rfl, R7, b7⟩; have H7 : Hid (Below w1.heap.size w1 w7) := H3.out.trans (b7.mono H3.out.size); have HR7 : Hid (Rd w7 v7 (wLs (⟨k, ka, ⟨#[]⟩, ch⟩ : Rc))) := R7; have Z7 : Hid (RcAt w7 w.heap.size rc0) := R1.out.below H7.out; have X7 : Hid (RcAt w7 w1.heap.size (⟨k, ka, ⟨#[]⟩, ch⟩ : Rc)) := HX3.out.below b7; have ht := Z7.out.there; have hla := Z7.out.laid rc0; clear b7 R7)
      | (refine wpList_store_mid rfl 40 _ _ rfl w.heap.size 0 (rcs rc0).toArray rfl rfl ht (rcs_size rc0) (rcs_one rc0) ?_))
    refine bodyPost_ret (v := .tuple #[.agg (rcs rc0).toArray, .int .i64 70]) ?_ rfl ⟨rfl, Sm.below_setCells _ _ _ (Nat.le_refl _) (bstep H1.out H7.out)⟩
    have := run_loadVar_mid (P := Tryz.prog) _ w.heap.size 0 40 (rcs rc0) _ hla Tryz.underlying40 rfl (rcs_sizeL rc0)
    simp [results, Tryz.results48, asAddr, this]
set_option maxRecDepth 100000 in
set_option maxHeartbeats 4000000 in
theorem readR_2_g (w : World) (b off cap n L : Nat) (hn9 : n < 70) (hnN : 16 * n + 16 ≤ L) (hcap : L ≤ cap) (M : List Int) (hM : Rd w (.slice (some ⟨b, off + 16 * n, none⟩) 16 (cap - 16 * n)) M) (l16 : M.length = 16) (hF : Fits M) (s kn vn nk nv : Nat) (k ch : Int) (h0 : M[0]? = some k) (h1 : M[1]? = some (s : Int)) (h6 : M[6]? = some ch) (hs : s ≤ 693) (q1 : (s : Int) / 32 = (kn : Int)) (q2 : (s : Int) % 32 = (vn : Int)) (q3 : ((kn : Int) + 6) / 7 = (nk : Int)) (q4 : ((vn : Int) + 6) / 7 = (nv : Int)) (hk9 : kn ≤ 21) (hv9 : vn ≤ 31) (hnk : nk ≤ 3) (hnv : nv ≤ 5) (hk1 : (k == 1) = false) (ka va : ByteArray) (eE fE : Int) (hka : Ky.txS ((M.drop 3).take nk) (kn : Int) = ka) (heE : Ky.txE ((M.drop 3).take nk) (kn : Int) = eE) (X : Rc) (hX : X = (⟨k, ka, ⟨#[]⟩, ch⟩ : Rc)) (dE : (eE != 0) = false) (dG : (wEs X != 0) = true) (zs : List Int) (hZ : Rd w (.slice (some ⟨b, off, none⟩) L cap) zs) (hzl : zs.length = L) (hz3 : L ≤ 1000) : Calls Tryz.prog 48 #[.slice (some ⟨b, off, none⟩) L cap, .int .i64 (n : Int)] w fun e w' => e = .returned (.tuple #[.agg (rcs rc0).toArray, .int .i64 70]) ∧ Below w.heap.size w w' := by
  obtain ⟨e1, e2, e3, e5, e6, e7, f5, f6⟩ := rd_nums hn9 hnN hcap
  have k25 : Hid (∀ w', Below w.heap.size w w' → Calls Tryz.prog 74 #[.slice (some ⟨b, off, none⟩) L cap, .int .i64 (n : Int)] w' fun e w'' => e = .returned (.bool true) ∧ Below w'.heap.size w' w'') := fun w' hb => by
    have hi : inB zs.length (n : Int) = true := decide_eq_true (by omega)
    have := whole_any _ zs (n : Int) w' (hZ.below hb) (by omega)
    rw [hi] at this
    exact this
  have HM : Hid (Rd w (.slice (some ⟨b, off + 16 * n, none⟩) 16 (cap - 16 * n)) M) := hM
  have HMk : Hid (Rd w (.slice (some ⟨b, off + 16 * n + 3, none⟩) nk (cap - 16 * n - 3)) ((M.drop 3).take nk)) := (hM.drop 3 (by omega)).take nk (by simp; omega)
  have HFk : Hid (Fits ((M.drop 3).take nk)) := show Fits _ from fun z hz => hF z (List.mem_of_mem_drop (List.mem_of_mem_take hz))
  have HMv : Hid (Rd w (.slice (some ⟨b, off + 16 * n + 6, none⟩) nv (cap - 16 * n - 6)) ((M.drop 6).take nv)) := (hM.drop 6 (by omega)).take nv (by simp; omega)
  have HFv : Hid (Fits ((M.drop 6).take nv)) := show Fits _ from fun z hz => hF z (List.mem_of_mem_drop (List.mem_of_mem_take hz))
  have Hka : Hid (Ky.txS ((M.drop 3).take nk) (kn : Int) = ka) := hka
  have HeE : Hid (Ky.txE ((M.drop 3).take nk) (kn : Int) = eE) := heE
  have H0 : Hid (Below w.heap.size w (w.alloc (.cells #[.int .i64 0, .string ⟨#[]⟩, .string ⟨#[]⟩, .int .i64 0] 40))) := (Below.refl _ _).alloc (Nat.le_refl _) _
  have R0 : Hid (RcAt (w.alloc (.cells #[.int .i64 0, .string ⟨#[]⟩, .string ⟨#[]⟩, .int .i64 0] 40)) w.heap.size rc0) := rc0_new w
  have Hl16 : Hid (M.length = 16) := l16
  have hs0 : ¬ (s : Int) < 0 := by omega
  have hs1 : ¬ (s : Int) > 693 := by omega
  clear hM hF hka heE l16 hZ hzl
  go_enter Tryz.func48, Tryz.ntmps48
  go_wp2_with (first
    | (go_at_call 74; refine (k25.out _ H0.out).mono ?_; rintro e w1 ⟨rfl, b1⟩; have H1 : Hid (Below w.heap.size w w1) := bstep H0.out b1; have R1 : Hid (RcAt w1 w.heap.size rc0) := R0.out.below b1; have m0 := (HM.out.below H1.out).cell h0; have m1 := (HM.out.below H1.out).cell h1; have m6 := (HM.out.below H1.out).cell h6; clear b1))
  have HM1 : Hid (Rd w1.drew (.slice (some ⟨b, off + 16 * n, none⟩) 16 (cap - 16 * n)) M) := HM.out.below H1.out.drew
  have S0 : Hid (w1.drew.cell? ⟨b, off + 16 * n, none⟩ = some (.int .i64 k) ∧ w1.drew.cell? ⟨b, off + 16 * n + 6, none⟩ = some (.int .i64 ch)) := ⟨m0, m6⟩
  go_cut [7] (fun s7 wx => s7 = .pointer (some ⟨w1.heap.size, 0, none⟩) ∧ Below w1.heap.size w1 wx ∧ RcAt wx w1.heap.size ⟨k, ⟨#[]⟩, ⟨#[]⟩, ch⟩)
  case first =>
    go_region_held3 (fun W2 => W2.cell? ⟨b, off + 16 * n, none⟩ = some (.int .i64 k) ∧ W2.cell? ⟨b, off + 16 * n + 6, none⟩ = some (.int .i64 ch))
      (first | exact S0.out | exact rd_S2 (HM1.out.below ((Below.refl _ _).alloc (Nat.le_refl _) _)) h0 h6 | exact rd_S2 (HM1.out.below ((((((Below.refl _ _).alloc (Nat.le_refl _) _).setCell (Nat.le_refl _) _).setCell (Nat.le_refl _) _).setCell (Nat.le_refl _) _).setCell (Nat.le_refl _) _)) h0 h6)
      (fail)
    all_goals
      go_wp2_with fail
      go_meet
      exact ⟨rfl, ((Below.refl _ _).alloc (Nat.le_refl _) _).drew, rc_new w1 ⟨k, ⟨#[]⟩, ⟨#[]⟩, ch⟩⟩
  case rest =>
    generalize wc = wd at hcut ⊢
    obtain ⟨rfl, hB2, hX2⟩ := hcut
    have H2 : Hid (Below w1.heap.size w1 wd) := hB2
    have X2 : Hid (RcAt wd w1.heap.size ⟨k, ⟨#[]⟩, ⟨#[]⟩, ch⟩) := hX2
    have lt1 : Hid (w.heap.size < w1.heap.size) := R1.out.lt
    have m1 := (HM.out.below (bstep H1.out hB2)).cell h1
    clear hB2 hX2 m0 m6 S0 HM1
    have t1 : Hid (0 = 0) := rfl
    subst hX
    go_wp2_with (first
      | (go_at_call 75; clear t1; refine (Ky.textR_any (.slice (some ⟨b, off + 16 * n + 3, none⟩) nk (cap - 16 * n - 3)) ((M.drop 3).take nk) (kn : Int) _ ((HMk.out.below (bstep H1.out H2.out)).ky HFk.out)).mono ?_; rintro e w3 ⟨rfl, b3⟩; rw [Hka.out, HeE.out]; have B3 := X2.out.below b3; have y1 := B3.c.2.1; have g1 := B3.f 1; have HX3 : Hid (RcAt (w3.setCell ⟨w1.heap.size, 1, none⟩ (.string ka)) w1.heap.size ⟨k, ka, ⟨#[]⟩, ch⟩) := B3.kk ka; have H3 : Hid (Below w1.heap.size w1 (w3.setCell ⟨w1.heap.size, 1, none⟩ (.string ka))) := (H2.out.trans (b3.mono H2.out.size)).setCell (p := ⟨w1.heap.size, 1, none⟩) (Nat.le_refl _) _; obtain ⟨z0, z1, z2, z3⟩ := HX3.out.c; dsimp only at z0 z1 z2 z3 y1; clear b3 B3)
      | (go_at_call 76; refine (wordsRr_any (⟨k, ka, ⟨#[]⟩, ch⟩ : Rc) _).mono ?_; rintro e w7 ⟨v7, rfl, R7, b7⟩; have H7 : Hid (Below w1.heap.size w1 w7) := H3.out.trans (b7.mono H3.out.size); have HR7 : Hid (Rd w7 v7 (wLs (⟨k, ka, ⟨#[]⟩, ch⟩ : Rc))) := R7; have Z7 : Hid (RcAt w7 w.heap.size rc0) := R1.out.below H7.out; have X7 : Hid (RcAt w7 w1.heap.size (⟨k, ka, ⟨#[]⟩, ch⟩ : Rc)) := HX3.out.below b7; have ht := Z7.out.there; have hla := Z7.out.laid rc0; clear b7 R7)
      | (refine wpList_store_mid rfl 40 _ _ rfl w.heap.size 0 (rcs rc0).toArray rfl rfl ht (rcs_size rc0) (rcs_one rc0) ?_))
    refine bodyPost_ret (v := .tuple #[.agg (rcs rc0).toArray, .int .i64 70]) ?_ rfl ⟨rfl, Sm.below_setCells _ _ _ (Nat.le_refl _) (bstep H1.out H7.out)⟩
    have := run_loadVar_mid (P := Tryz.prog) _ w.heap.size 0 40 (rcs rc0) _ hla Tryz.underlying40 rfl (rcs_sizeL rc0)
    simp [results, Tryz.results48, asAddr, this]
set_option maxRecDepth 100000 in
set_option maxHeartbeats 4000000 in
theorem readR_2_n (w : World) (b off cap n L : Nat) (hn9 : n < 70) (hnN : 16 * n + 16 ≤ L) (hcap : L ≤ cap) (M : List Int) (hM : Rd w (.slice (some ⟨b, off + 16 * n, none⟩) 16 (cap - 16 * n)) M) (l16 : M.length = 16) (hF : Fits M) (s kn vn nk nv : Nat) (k ch : Int) (h0 : M[0]? = some k) (h1 : M[1]? = some (s : Int)) (h6 : M[6]? = some ch) (hs : s ≤ 693) (q1 : (s : Int) / 32 = (kn : Int)) (q2 : (s : Int) % 32 = (vn : Int)) (q3 : ((kn : Int) + 6) / 7 = (nk : Int)) (q4 : ((vn : Int) + 6) / 7 = (nv : Int)) (hk9 : kn ≤ 21) (hv9 : vn ≤ 31) (hnk : nk ≤ 3) (hnv : nv ≤ 5) (hk1 : (k == 1) = false) (ka va : ByteArray) (eE fE : Int) (hka : Ky.txS ((M.drop 3).take nk) (kn : Int) = ka) (heE : Ky.txE ((M.drop 3).take nk) (kn : Int) = eE) (X : Rc) (hX : X = (⟨k, ka, ⟨#[]⟩, ch⟩ : Rc)) (dE : (eE != 0) = false) (dG : (wEs X != 0) = false) (dN : decide (wLs X = M) = false) (zs : List Int) (hZ : Rd w (.slice (some ⟨b, off, none⟩) L cap) zs) (hzl : zs.length = L) (hz3 : L ≤ 1000) : Calls Tryz.prog 48 #[.slice (some ⟨b, off, none⟩) L cap, .int .i64 (n : Int)] w fun e w' => e = .returned (.tuple #[.agg (rcs rc0).toArray, .int .i64 70]) ∧ Below w.heap.size w w' := by
  obtain ⟨e1, e2, e3, e5, e6, e7, f5, f6⟩ := rd_nums hn9 hnN hcap
  have k25 : Hid (∀ w', Below w.heap.size w w' → Calls Tryz.prog 74 #[.slice (some ⟨b, off, none⟩) L cap, .int .i64 (n : Int)] w' fun e w'' => e = .returned (.bool true) ∧ Below w'.heap.size w' w'') := fun w' hb => by
    have hi : inB zs.length (n : Int) = true := decide_eq_true (by omega)
    have := whole_any _ zs (n : Int) w' (hZ.below hb) (by omega)
    rw [hi] at this
    exact this
  have HM : Hid (Rd w (.slice (some ⟨b, off + 16 * n, none⟩) 16 (cap - 16 * n)) M) := hM
  have HMk : Hid (Rd w (.slice (some ⟨b, off + 16 * n + 3, none⟩) nk (cap - 16 * n - 3)) ((M.drop 3).take nk)) := (hM.drop 3 (by omega)).take nk (by simp; omega)
  have HFk : Hid (Fits ((M.drop 3).take nk)) := show Fits _ from fun z hz => hF z (List.mem_of_mem_drop (List.mem_of_mem_take hz))
  have HMv : Hid (Rd w (.slice (some ⟨b, off + 16 * n + 6, none⟩) nv (cap - 16 * n - 6)) ((M.drop 6).take nv)) := (hM.drop 6 (by omega)).take nv (by simp; omega)
  have HFv : Hid (Fits ((M.drop 6).take nv)) := show Fits _ from fun z hz => hF z (List.mem_of_mem_drop (List.mem_of_mem_take hz))
  have Hka : Hid (Ky.txS ((M.drop 3).take nk) (kn : Int) = ka) := hka
  have HeE : Hid (Ky.txE ((M.drop 3).take nk) (kn : Int) = eE) := heE
  have H0 : Hid (Below w.heap.size w (w.alloc (.cells #[.int .i64 0, .string ⟨#[]⟩, .string ⟨#[]⟩, .int .i64 0] 40))) := (Below.refl _ _).alloc (Nat.le_refl _) _
  have R0 : Hid (RcAt (w.alloc (.cells #[.int .i64 0, .string ⟨#[]⟩, .string ⟨#[]⟩, .int .i64 0] 40)) w.heap.size rc0) := rc0_new w
  have Hl16 : Hid (M.length = 16) := l16
  have hs0 : ¬ (s : Int) < 0 := by omega
  have hs1 : ¬ (s : Int) > 693 := by omega
  clear hM hF hka heE l16 hZ hzl
  go_enter Tryz.func48, Tryz.ntmps48
  go_wp2_with (first
    | (go_at_call 74; refine (k25.out _ H0.out).mono ?_; rintro e w1 ⟨rfl, b1⟩; have H1 : Hid (Below w.heap.size w w1) := bstep H0.out b1; have R1 : Hid (RcAt w1 w.heap.size rc0) := R0.out.below b1; have m0 := (HM.out.below H1.out).cell h0; have m1 := (HM.out.below H1.out).cell h1; have m6 := (HM.out.below H1.out).cell h6; clear b1))
  have HM1 : Hid (Rd w1.drew (.slice (some ⟨b, off + 16 * n, none⟩) 16 (cap - 16 * n)) M) := HM.out.below H1.out.drew
  have S0 : Hid (w1.drew.cell? ⟨b, off + 16 * n, none⟩ = some (.int .i64 k) ∧ w1.drew.cell? ⟨b, off + 16 * n + 6, none⟩ = some (.int .i64 ch)) := ⟨m0, m6⟩
  go_cut [7] (fun s7 wx => s7 = .pointer (some ⟨w1.heap.size, 0, none⟩) ∧ Below w1.heap.size w1 wx ∧ RcAt wx w1.heap.size ⟨k, ⟨#[]⟩, ⟨#[]⟩, ch⟩)
  case first =>
    go_region_held3 (fun W2 => W2.cell? ⟨b, off + 16 * n, none⟩ = some (.int .i64 k) ∧ W2.cell? ⟨b, off + 16 * n + 6, none⟩ = some (.int .i64 ch))
      (first | exact S0.out | exact rd_S2 (HM1.out.below ((Below.refl _ _).alloc (Nat.le_refl _) _)) h0 h6 | exact rd_S2 (HM1.out.below ((((((Below.refl _ _).alloc (Nat.le_refl _) _).setCell (Nat.le_refl _) _).setCell (Nat.le_refl _) _).setCell (Nat.le_refl _) _).setCell (Nat.le_refl _) _)) h0 h6)
      (fail)
    all_goals
      go_wp2_with fail
      go_meet
      exact ⟨rfl, ((Below.refl _ _).alloc (Nat.le_refl _) _).drew, rc_new w1 ⟨k, ⟨#[]⟩, ⟨#[]⟩, ch⟩⟩
  case rest =>
    generalize wc = wd at hcut ⊢
    obtain ⟨rfl, hB2, hX2⟩ := hcut
    have H2 : Hid (Below w1.heap.size w1 wd) := hB2
    have X2 : Hid (RcAt wd w1.heap.size ⟨k, ⟨#[]⟩, ⟨#[]⟩, ch⟩) := hX2
    have lt1 : Hid (w.heap.size < w1.heap.size) := R1.out.lt
    have m1 := (HM.out.below (bstep H1.out hB2)).cell h1
    clear hB2 hX2 m0 m6 S0 HM1
    have t1 : Hid (0 = 0) := rfl
    subst hX
    go_wp2_with (first
      | (go_at_call 75; clear t1; refine (Ky.textR_any (.slice (some ⟨b, off + 16 * n + 3, none⟩) nk (cap - 16 * n - 3)) ((M.drop 3).take nk) (kn : Int) _ ((HMk.out.below (bstep H1.out H2.out)).ky HFk.out)).mono ?_; rintro e w3 ⟨rfl, b3⟩; rw [Hka.out, HeE.out]; have B3 := X2.out.below b3; have y1 := B3.c.2.1; have g1 := B3.f 1; have HX3 : Hid (RcAt (w3.setCell ⟨w1.heap.size, 1, none⟩ (.string ka)) w1.heap.size ⟨k, ka, ⟨#[]⟩, ch⟩) := B3.kk ka; have H3 : Hid (Below w1.heap.size w1 (w3.setCell ⟨w1.heap.size, 1, none⟩ (.string ka))) := (H2.out.trans (b3.mono H2.out.size)).setCell (p := ⟨w1.heap.size, 1, none⟩) (Nat.le_refl _) _; obtain ⟨z0, z1, z2, z3⟩ := HX3.out.c; dsimp only at z0 z1 z2 z3 y1; clear b3 B3)
      | (go_at_call 76; refine (wordsRr_any (⟨k, ka, ⟨#[]⟩, ch⟩ : Rc) _).mono ?_; rintro e w7 ⟨v7, rfl, R7, b7⟩; have H7 : Hid (Below w1.heap.size w1 w7) := H3.out.trans (b7.mono H3.out.size); have HR7 : Hid (Rd w7 v7 (wLs (⟨k, ka, ⟨#[]⟩, ch⟩ : Rc))) := R7; have Z7 : Hid (RcAt w7 w.heap.size rc0) := R1.out.below H7.out; have X7 : Hid (RcAt w7 w1.heap.size (⟨k, ka, ⟨#[]⟩, ch⟩ : Rc)) := HX3.out.below b7; clear b7 R7)
      | (go_at_call 72; refine (numbers_any _ _ (wLs (⟨k, ka, ⟨#[]⟩, ch⟩ : Rc)) M _ HR7.out (HM.out.below (bstep H1.out H7.out))).mono ?_; rintro e w8 ⟨rfl, b8⟩; rw [dN]; have H8 : Hid (Below w1.heap.size w1 w8) := H7.out.trans (b8.mono H7.out.size); have Z8 : Hid (RcAt w8 w.heap.size rc0) := Z7.out.below b8; have ht := Z8.out.there; have hla := Z8.out.laid rc0; have hr8 := (X7.out.below b8).range; clear b8)
      | (refine wpList_store_mid rfl 40 _ _ rfl w.heap.size 0 (rcs rc0).toArray rfl rfl ht (rcs_size rc0) (rcs_one rc0) ?_))
    refine bodyPost_ret (v := .tuple #[.agg (rcs rc0).toArray, .int .i64 70]) ?_ rfl ⟨rfl, Sm.below_setCells _ _ _ (Nat.le_refl _) (bstep H1.out H8.out)⟩
    have := run_loadVar_mid (P := Tryz.prog) _ w.heap.size 0 40 (rcs rc0) _ hla Tryz.underlying40 rfl (rcs_sizeL rc0)
    simp [results, Tryz.results48, asAddr, this]
set_option maxRecDepth 100000 in
set_option maxHeartbeats 4000000 in
theorem readR_2_ok (w : World) (b off cap n L : Nat) (hn9 : n < 70) (hnN : 16 * n + 16 ≤ L) (hcap : L ≤ cap) (M : List Int) (hM : Rd w (.slice (some ⟨b, off + 16 * n, none⟩) 16 (cap - 16 * n)) M) (l16 : M.length = 16) (hF : Fits M) (s kn vn nk nv : Nat) (k ch : Int) (h0 : M[0]? = some k) (h1 : M[1]? = some (s : Int)) (h6 : M[6]? = some ch) (hs : s ≤ 693) (q1 : (s : Int) / 32 = (kn : Int)) (q2 : (s : Int) % 32 = (vn : Int)) (q3 : ((kn : Int) + 6) / 7 = (nk : Int)) (q4 : ((vn : Int) + 6) / 7 = (nv : Int)) (hk9 : kn ≤ 21) (hv9 : vn ≤ 31) (hnk : nk ≤ 3) (hnv : nv ≤ 5) (hk1 : (k == 1) = false) (ka va : ByteArray) (eE fE : Int) (hka : Ky.txS ((M.drop 3).take nk) (kn : Int) = ka) (heE : Ky.txE ((M.drop 3).take nk) (kn : Int) = eE) (X : Rc) (hX : X = (⟨k, ka, ⟨#[]⟩, ch⟩ : Rc)) (dE : (eE != 0) = false) (dG : (wEs X != 0) = false) (dN : decide (wLs X = M) = true) (zs : List Int) (hZ : Rd w (.slice (some ⟨b, off, none⟩) L cap) zs) (hzl : zs.length = L) (hz3 : L ≤ 1000) : Calls Tryz.prog 48 #[.slice (some ⟨b, off, none⟩) L cap, .int .i64 (n : Int)] w fun e w' => e = .returned (.tuple #[.agg (rcs X).toArray, .int .i64 0]) ∧ Below w.heap.size w w' := by
  obtain ⟨e1, e2, e3, e5, e6, e7, f5, f6⟩ := rd_nums hn9 hnN hcap
  have k25 : Hid (∀ w', Below w.heap.size w w' → Calls Tryz.prog 74 #[.slice (some ⟨b, off, none⟩) L cap, .int .i64 (n : Int)] w' fun e w'' => e = .returned (.bool true) ∧ Below w'.heap.size w' w'') := fun w' hb => by
    have hi : inB zs.length (n : Int) = true := decide_eq_true (by omega)
    have := whole_any _ zs (n : Int) w' (hZ.below hb) (by omega)
    rw [hi] at this
    exact this
  have HM : Hid (Rd w (.slice (some ⟨b, off + 16 * n, none⟩) 16 (cap - 16 * n)) M) := hM
  have HMk : Hid (Rd w (.slice (some ⟨b, off + 16 * n + 3, none⟩) nk (cap - 16 * n - 3)) ((M.drop 3).take nk)) := (hM.drop 3 (by omega)).take nk (by simp; omega)
  have HFk : Hid (Fits ((M.drop 3).take nk)) := show Fits _ from fun z hz => hF z (List.mem_of_mem_drop (List.mem_of_mem_take hz))
  have HMv : Hid (Rd w (.slice (some ⟨b, off + 16 * n + 6, none⟩) nv (cap - 16 * n - 6)) ((M.drop 6).take nv)) := (hM.drop 6 (by omega)).take nv (by simp; omega)
  have HFv : Hid (Fits ((M.drop 6).take nv)) := show Fits _ from fun z hz => hF z (List.mem_of_mem_drop (List.mem_of_mem_take hz))
  have Hka : Hid (Ky.txS ((M.drop 3).take nk) (kn : Int) = ka) := hka
  have HeE : Hid (Ky.txE ((M.drop 3).take nk) (kn : Int) = eE) := heE
  have H0 : Hid (Below w.heap.size w (w.alloc (.cells #[.int .i64 0, .string ⟨#[]⟩, .string ⟨#[]⟩, .int .i64 0] 40))) := (Below.refl _ _).alloc (Nat.le_refl _) _
  have R0 : Hid (RcAt (w.alloc (.cells #[.int .i64 0, .string ⟨#[]⟩, .string ⟨#[]⟩, .int .i64 0] 40)) w.heap.size rc0) := rc0_new w
  have Hl16 : Hid (M.length = 16) := l16
  have hs0 : ¬ (s : Int) < 0 := by omega
  have hs1 : ¬ (s : Int) > 693 := by omega
  clear hM hF hka heE l16 hZ hzl
  go_enter Tryz.func48, Tryz.ntmps48
  go_wp2_with (first
    | (go_at_call 74; refine (k25.out _ H0.out).mono ?_; rintro e w1 ⟨rfl, b1⟩; have H1 : Hid (Below w.heap.size w w1) := bstep H0.out b1; have R1 : Hid (RcAt w1 w.heap.size rc0) := R0.out.below b1; have m0 := (HM.out.below H1.out).cell h0; have m1 := (HM.out.below H1.out).cell h1; have m6 := (HM.out.below H1.out).cell h6; clear b1))
  have HM1 : Hid (Rd w1.drew (.slice (some ⟨b, off + 16 * n, none⟩) 16 (cap - 16 * n)) M) := HM.out.below H1.out.drew
  have S0 : Hid (w1.drew.cell? ⟨b, off + 16 * n, none⟩ = some (.int .i64 k) ∧ w1.drew.cell? ⟨b, off + 16 * n + 6, none⟩ = some (.int .i64 ch)) := ⟨m0, m6⟩
  go_cut [7] (fun s7 wx => s7 = .pointer (some ⟨w1.heap.size, 0, none⟩) ∧ Below w1.heap.size w1 wx ∧ RcAt wx w1.heap.size ⟨k, ⟨#[]⟩, ⟨#[]⟩, ch⟩)
  case first =>
    go_region_held3 (fun W2 => W2.cell? ⟨b, off + 16 * n, none⟩ = some (.int .i64 k) ∧ W2.cell? ⟨b, off + 16 * n + 6, none⟩ = some (.int .i64 ch))
      (first | exact S0.out | exact rd_S2 (HM1.out.below ((Below.refl _ _).alloc (Nat.le_refl _) _)) h0 h6 | exact rd_S2 (HM1.out.below ((((((Below.refl _ _).alloc (Nat.le_refl _) _).setCell (Nat.le_refl _) _).setCell (Nat.le_refl _) _).setCell (Nat.le_refl _) _).setCell (Nat.le_refl _) _)) h0 h6)
      (fail)
    all_goals
      go_wp2_with fail
      go_meet
      exact ⟨rfl, ((Below.refl _ _).alloc (Nat.le_refl _) _).drew, rc_new w1 ⟨k, ⟨#[]⟩, ⟨#[]⟩, ch⟩⟩
  case rest =>
    generalize wc = wd at hcut ⊢
    obtain ⟨rfl, hB2, hX2⟩ := hcut
    have H2 : Hid (Below w1.heap.size w1 wd) := hB2
    have X2 : Hid (RcAt wd w1.heap.size ⟨k, ⟨#[]⟩, ⟨#[]⟩, ch⟩) := hX2
    have lt1 : Hid (w.heap.size < w1.heap.size) := R1.out.lt
    have m1 := (HM.out.below (bstep H1.out hB2)).cell h1
    clear hB2 hX2 m0 m6 S0 HM1
    have t1 : Hid (0 = 0) := rfl
    subst hX
    go_wp2_with (first
      | (go_at_call 75; clear t1; refine (Ky.textR_any (.slice (some ⟨b, off + 16 * n + 3, none⟩) nk (cap - 16 * n - 3)) ((M.drop 3).take nk) (kn : Int) _ ((HMk.out.below (bstep H1.out H2.out)).ky HFk.out)).mono ?_; rintro e w3 ⟨rfl, b3⟩; rw [Hka.out, HeE.out]; have B3 := X2.out.below b3; have y1 := B3.c.2.1; have g1 := B3.f 1; have HX3 : Hid (RcAt (w3.setCell ⟨w1.heap.size, 1, none⟩ (.string ka)) w1.heap.size ⟨k, ka, ⟨#[]⟩, ch⟩) := B3.kk ka; have H3 : Hid (Below w1.heap.size w1 (w3.setCell ⟨w1.heap.size, 1, none⟩ (.string ka))) := (H2.out.trans (b3.mono H2.out.size)).setCell (p := ⟨w1.heap.size, 1, none⟩) (Nat.le_refl _) _; obtain ⟨z0, z1, z2, z3⟩ := HX3.out.c; dsimp only at z0 z1 z2 z3 y1; clear b3 B3)
      | (go_at_call 76; refine (wordsRr_any (⟨k, ka, ⟨#[]⟩, ch⟩ : Rc) _).mono ?_; rintro e w7 ⟨v7, rfl, R7, b7⟩; have H7 : Hid (Below w1.heap.size w1 w7) := H3.out.trans (b7.mono H3.out.size); have HR7 : Hid (Rd w7 v7 (wLs (⟨k, ka, ⟨#[]⟩, ch⟩ : Rc))) := R7; have Z7 : Hid (RcAt w7 w.heap.size rc0) := R1.out.below H7.out; have X7 : Hid (RcAt w7 w1.heap.size (⟨k, ka, ⟨#[]⟩, ch⟩ : Rc)) := HX3.out.below b7; clear b7 R7)
      | (go_at_call 72; refine (numbers_any _ _ (wLs (⟨k, ka, ⟨#[]⟩, ch⟩ : Rc)) M _ HR7.out (HM.out.below (bstep H1.out H7.out))).mono ?_; rintro e w8 ⟨rfl, b8⟩; rw [dN]; have H8 : Hid (Below w1.heap.size w1 w8) := H7.out.trans (b8.mono H7.out.size); have Z8 : Hid (RcAt w8 w.heap.size rc0) := Z7.out.below b8; have ht := Z8.out.there; have hla := Z8.out.laid (⟨k, ka, ⟨#[]⟩, ch⟩ : Rc); have hr8 := (X7.out.below b8).range; clear b8)
      | (refine wpList_load_mid rfl 40 _ rfl w1.heap.size 0 rfl (rcs (⟨k, ka, ⟨#[]⟩, ch⟩ : Rc)) _ hr8 Tryz.underlying40 rfl (rcs_sizeL (⟨k, ka, ⟨#[]⟩, ch⟩ : Rc)) ?_)
      | (refine wpList_store_mid rfl 40 _ _ rfl w.heap.size 0 (rcs (⟨k, ka, ⟨#[]⟩, ch⟩ : Rc)).toArray rfl rfl ht (rcs_size (⟨k, ka, ⟨#[]⟩, ch⟩ : Rc)) (rcs_one (⟨k, ka, ⟨#[]⟩, ch⟩ : Rc)) ?_))
    refine bodyPost_ret (v := .tuple #[.agg (rcs (⟨k, ka, ⟨#[]⟩, ch⟩ : Rc)).toArray, .int .i64 0]) ?_ rfl ⟨rfl, Sm.below_setCells _ _ _ (Nat.le_refl _) (bstep H1.out H8.out)⟩
    have := run_loadVar_mid (P := Tryz.prog) _ w.heap.size 0 40 (rcs (⟨k, ka, ⟨#[]⟩, ch⟩ : Rc)) _ hla Tryz.underlying40 rfl (rcs_sizeL (⟨k, ka, ⟨#[]⟩, ch⟩ : Rc))
    simp [results, Tryz.results48, asAddr, this]
end Go.Proofs.YtcgclhahonndbaaGreat
