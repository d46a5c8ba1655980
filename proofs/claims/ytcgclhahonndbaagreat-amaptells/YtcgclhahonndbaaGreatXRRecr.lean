/- Set over from a lower layer: Recf. · Set over from a lower layer: Recl. · Set over from a lower layer: Recq. · Set over from a lower layer: Recr. -/
import Derived.Test.YtcgclhahonndbaaGreatNNodz
import Derived.Test.YtcgclhahonndbaaGreatRReca
import Derived.Test.YtcgclhahonndbaaGreatRRece
import Derived.Test.YtcgclhahonndbaaGreatRRecz
import Derived.Test.YtcgclhahonndbaaGreatSSumz
import Derived.Test.YtcgclhahonndbaaGreatBase
import Derived.Test.YtcgclhahonndbaaGreatXRWalko
import Derived.Deep.DeepCutAuto
import Derived.Lib.AppendZeros
import Derived.Deep.RegionLaw
import Derived.Deep.RegionHeld3
import Derived.Laws.CopyOwn
import Derived.Test.YtcgclhahonndbaaGreatRRecg
import Derived.Test.YtcgclhahonndbaaGreatRRech
import Derived.WalkKit
import Derived.WalkSpells
import Derived.WalkLawsBesides
import Derived.LoopN
import Derived.Laws.BytesArg
import Derived.Laws.AppendOwnNone
import Derived.Deep.QuietTactic
import Derived.BigQuiet
import Derived.WalkSmall
import Derived.Deep.MidRow
import Derived.Deep.OwnRows
import Derived.Maps.OwnOps
import Derived.Laws.StructEq
import Derived.Deep.Strs
import Derived.Deep.Slices
import Derived.Deep.RegionWith
import Derived.Test.YtcgclhahonndbaaGreatRKeywalka
import Derived.Test.YtcgclhahonndbaaGreatXRKeywalka
namespace Go.Proofs.YtcgclhahonndbaaGreat
open Go.RowKit Go.Shelf
set_option linter.unusedVariables false
def wLs (x : Rc) : List Int := if rcB x then imL x else []
def wEs (x : Rc) : Int := if rcB x then 0 else 70
theorem Im.made (W : World) (M : List Int) (hM : M.length = 16) : (W.alloc (.cells #[.int .i64 0, .int .i64 0, .int .i64 0, .int .i64 0, .int .i64 0, .int .i64 0, .int .i64 0, .int .i64 0, .int .i64 0, .int .i64 0, .int .i64 0, .int .i64 0, .int .i64 0, .int .i64 0, .int .i64 0, .int .i64 0] 61)).there W.heap.size 0 (M.map (Value.int .i64)).toArray.size := by
  have : Im (W.alloc (.cells #[.int .i64 0, .int .i64 0, .int .i64 0, .int .i64 0, .int .i64 0, .int .i64 0, .int .i64 0, .int .i64 0, .int .i64 0, .int .i64 0, .int .i64 0, .int .i64 0, .int .i64 0, .int .i64 0, .int .i64 0, .int .i64 0] 61)) W.heap.size zeros16 := Go.heap_alloc_new _ _
  have := this.there
  simpa [zeros16, hM] using this
theorem rd_laid {W : World} {g : Nat} (M : List Int) (hM : M.length = 16) (ht : W.there g 0 (M.map (Value.int .i64)).toArray.size) (hg : g < W.heap.size) : Rd (W.setCells g 0 (M.map (Value.int .i64))) (.slice (some ⟨g, 0, none⟩) 16 16) M := by
  have hr := World.rangeAt_setCells_same W g 0 (M.map (Value.int .i64)) (by simpa using ht)
  unfold Rd
  rw [hM]
  refine ⟨by rw [List.length_map, hM], by omega, some ⟨g, 0, none⟩, 16, rfl, by omega, .inr ⟨g, 0, rfl, ?_, fun j u hu => hr j u hu⟩⟩
  have e : ∀ (vs : List Value) (o : Nat) (W : World), W.heap.size ≤ (W.setCells g o vs).heap.size := by
    intro vs
    induction vs with
    | nil => intro o W; exact Nat.le_refl _
    | cons v vs ih =>
      intro o W
      exact Nat.le_trans (by simp [World.setCell]) (ih _ _)
  exact Nat.lt_of_lt_of_le hg (e _ _ _)
set_option maxRecDepth 100000 in
set_option maxHeartbeats 1000000 in
theorem wordsr_any (x : Rc) (w : World) : Calls Tryz.prog 18 #[.agg #[.int .i64 x.k, .string x.key, .string x.val, .int .i64 x.ch]] w fun e w' => ∃ v, e = .returned (.tuple #[v, .int .i64 (wEs x)]) ∧ Rd w' v (wLs x) ∧ Below w.heap.size w w' := by
  cases hc : rcB x with
  | false =>
    have H1 : Hid (wLs x = []) := show _ = _ by simp [wLs, hc]
    have H2 : Hid (wEs x = 70) := show _ = _ by simp [wEs, hc]
    have B0 := (Below.refl w.heap.size w).alloc (Nat.le_refl _) (.cells #[.int .i64 x.k, .string x.key, .string x.val, .int .i64 x.ch] 40)
    go_enter Tryz.func18, Tryz.ntmps18
    go_wp2_with (go_at_call 36; refine (rcheck_any x _).mono ?_; rintro e w1 ⟨rfl, hb1⟩; rw [hc])
    refine bodyPost_ret (results_tmp2 Tryz.results18 _ _ _) rfl ?_
    exact ⟨_, by rw [H2.out]; rfl, by rw [H1.out]; exact ⟨rfl, by decide, none, 0, rfl, Nat.le_refl _, .inl ⟨rfl, fun _ => rfl⟩⟩, bstep B0 hb1⟩
  | true =>
    have hx := rcB_iff.1 hc
    have H1 : Hid (wLs x = imL x) := show _ = _ by simp [wLs, hc]
    have H2 : Hid (wEs x = 0) := show _ = _ by simp [wEs, hc]
    have B0 := (Below.refl w.heap.size w).alloc (Nat.le_refl _) (.cells #[.int .i64 x.k, .string x.key, .string x.val, .int .i64 x.ch] 40)
    have R0 : RcAt (w.alloc (.cells #[.int .i64 x.k, .string x.key, .string x.val, .int .i64 x.ch] 40)) w.heap.size x := Go.heap_alloc_new _ _
    have l16 := imL_length hx
    obtain ⟨M, hM⟩ : ∃ M, M = imL x := ⟨_, rfl⟩
    have HM : Hid (M = imL x) := hM
    rw [← hM] at l16
    clear hM
    have hs1 := im_size l16
    have ho := im_one M
    go_enter Tryz.func18, Tryz.ntmps18
    go_wp2_with (first
      | (go_at_call 36; refine (rcheck_any x _).mono ?_; rintro e w1 ⟨rfl, hb1⟩; rw [hc]; obtain ⟨x0, x1, x2, x3⟩ := (R0.below hb1).c)
      | (go_at_call 37; refine (image_any x _ hx).mono ?_; rintro e w2 ⟨rfl, hb2⟩; rw [← HM.out]; have ht := Im.made w2 M l16)
      | (refine wpList_store_mid rfl 61 _ _ rfl w2.heap.size 0 (M.map (Value.int .i64)).toArray rfl rfl ht hs1 ho ?_; have hr := rd_laid M l16 ht (by simp)))
    refine bodyPost_ret (results_tmp2 Tryz.results18 _ _ _) rfl ?_
    exact ⟨_, by rw [H2.out]; rfl, by rw [H1.out, ← HM.out]; exact hr, Sm.below_setCells _ _ _ (Nat.le_trans B0.size (Nat.le_trans hb1.size hb2.size)) ((bstep (bstep B0 hb1) hb2).alloc (Nat.le_trans B0.size (Nat.le_trans hb1.size hb2.size)) _)⟩
end Go.Proofs.YtcgclhahonndbaaGreat
namespace Go.Proofs.YtcgclhahonndbaaGreat
open Go.RowKit Go.Shelf Classical
set_option linter.unusedVariables false
theorem wLs_ok' {x : Rc} (h : OkR x) : wLs x = imL x := by unfold wLs; rw [rcB_iff.2 h]; rfl
theorem own_none {base : Nat} (w : World) (h : base ≤ w.heap.size) : (w.alloc (.cells #[] 3)).ownsRow base 3 1 (.slice (some ⟨w.heap.size, 0, none⟩) 0 0) 0 [] := World.ownsRow_made (base := base) (e := 3) (size := 1) w #[] 0 h (by unfold maxLen; omega) rfl
theorem rd_case {zs : List Int} {n : Nat} (hn : 16 * n + 16 ≤ zs.length) : (isR (blk zs n) = true ∧ rdX zs (n : Int) = gsR (blk zs n) ∧ RrdE zs (n : Int) = 0) ∨ (isR (blk zs n) = false ∧ rdX zs (n : Int) = rc0 ∧ RrdE zs (n : Int) = 70) := by
  have hi : inB zs.length (n : Int) = true := decide_eq_true (by omega)
  unfold rdX RrdE
  rw [hi]
  show (isR (blk zs n) = true ∧ (if isR (blk zs n) = true then _ else _) = _ ∧ (if isR (blk zs n) = true then _ else _) = _) ∨ _
  cases h : isR (blk zs n)
  · exact .inr ⟨rfl, by simp [h], by simp [h]⟩
  · exact .inl ⟨rfl, by simp, by simp⟩
theorem Rd.blk {W : World} {b off n c : Nat} {zs : List Int} (h : Rd W (.slice (some ⟨b, off, none⟩) n c) zs) (k : Nat) (hk : 16 * k + 16 ≤ zs.length) : Rd W (.slice (some ⟨b, off + 16 * k, none⟩) 16 (c - 16 * k)) (blk zs k) := by
  have := (h.drop (16 * k) (by omega)).take 16 (by simp; omega)
  exact this
end Go.Proofs.YtcgclhahonndbaaGreat
namespace Go.Proofs.YtcgclhahonndbaaGreat
open Go.RowKit Go.Shelf Classical
set_option linter.unusedVariables false
set_option maxRecDepth 100000 in
set_option maxHeartbeats 2000000 in
/-- The document's Check. -/
theorem rcheckR_any (x : Rc) (w : World) : Calls Tryz.prog 105 #[.agg #[.int .i64 x.k, .string x.key, .string x.val, .int .i64 x.ch]] w fun e w' => e = .returned (.bool (rcB x)) ∧ Below w.heap.size w w' := by
  have B0 := (Below.refl w.heap.size w).alloc (Nat.le_refl _) (.cells #[.int .i64 x.k, .string x.key, .string x.val, .int .i64 x.ch] 40)
  by_cases h1 : x.k = 1
  · have H := rcB_1 h1
    have h1' : (x.k == 1) = true := by simpa using h1
    rw [h1] at h1' B0 ⊢
    generalize rcB x = r at H ⊢
    replace H : Hid (r = (Ky.chk x.key && Ky.chkV x.val && decide (x.ch = 0))) := H
    cases c1 : Ky.chk x.key <;> cases c2 : Ky.chkV x.val <;> rw [c1, c2] at H <;>
    · go_enter Tryz.func105, Tryz.ntmps105
      go_wp2_with (first
        | (go_at_call 121; refine (Ky.checkR_any _ _).mono ?_; rintro e w' ⟨rfl, hw⟩; rw [hw, c1]; clear hw w')
        | (go_at_call 122; refine (Ky.checkVR_any _ _).mono ?_; rintro e w' ⟨rfl, hw⟩; rw [hw, c2]; clear hw w'))
      go_ret
      exact ⟨ret_bool (by rw [H.out]; first | rfl | simp), B0⟩
  · have h1' : (x.k == 1) = false := by simpa using h1
    by_cases h2 : x.k = 2
    · have H := rcB_2 h2
      have h2' : (x.k == 2) = true := by simpa using h2
      clear h1
      rw [h2] at h1' h2' B0 ⊢
      generalize rcB x = r at H ⊢
      replace H : Hid (r = ((decide (x.key.size = 0) || Ky.chk x.key) && decide (x.val.size = 0) && decide (1 ≤ x.ch) && decide (x.ch < 256))) := H
      have hch : Hid (decide (x.ch < 256) = decide (x.ch ≤ 255)) := show _ = _ by rw [decide_eq_decide]; omega
      cases c2 : Ky.chkV x.val <;> cases c1 : Ky.chk x.key <;>
      · by_cases k0 : x.key.size = 0
        · obtain ⟨ke1, ke2⟩ := eq_toList k0
          rw [decide_eq_true k0] at H
          by_cases v0 : x.val.size = 0
          · obtain ⟨ve1, ve2⟩ := eq_toList v0
            rw [decide_eq_true v0, hch.out] at H
            clear k0 v0
            go_enter Tryz.func105, Tryz.ntmps105
            go_wp2_with (first
              | (go_at_call 121; refine (Ky.checkR_any _ _).mono ?_; rintro e w' ⟨rfl, hw⟩; rw [hw, c1]; clear hw w')
              | (go_at_call 122; refine (Ky.checkVR_any _ _).mono ?_; rintro e w' ⟨rfl, hw⟩; rw [hw, c2]; clear hw w'))
            all_goals (go_ret; exact ⟨ret_bool (by rw [H.out]; first | rfl | (simp; done) | (simp; omega) | simp_all), B0⟩)
          · obtain ⟨ve1, ve2⟩ := ne_toList v0
            rw [decide_eq_false v0] at H
            have HV0 : Hid (¬ x.val.size = 0) := v0
            clear k0 v0
            go_enter Tryz.func105, Tryz.ntmps105
            go_wp2_with (first
              | (go_at_call 121; refine (Ky.checkR_any _ _).mono ?_; rintro e w' ⟨rfl, hw⟩; rw [hw, c1]; clear hw w')
              | (go_at_call 122; refine (Ky.checkVR_any _ _).mono ?_; rintro e w' ⟨rfl, hw⟩; rw [hw, c2]; clear hw w'))
            all_goals (go_ret; exact ⟨ret_bool (by rw [H.out]; first | rfl | (simp; done) | (simp; omega) | simp_all), B0⟩)
        · obtain ⟨ke1, ke2⟩ := ne_toList k0
          rw [decide_eq_false k0, c1] at H
          by_cases v0 : x.val.size = 0
          · obtain ⟨ve1, ve2⟩ := eq_toList v0
            rw [decide_eq_true v0, hch.out] at H
            clear k0 v0
            go_enter Tryz.func105, Tryz.ntmps105
            go_wp2_with (first
              | (go_at_call 121; refine (Ky.checkR_any _ _).mono ?_; rintro e w' ⟨rfl, hw⟩; rw [hw, c1]; clear hw w')
              | (go_at_call 122; refine (Ky.checkVR_any _ _).mono ?_; rintro e w' ⟨rfl, hw⟩; rw [hw, c2]; clear hw w'))
            all_goals (go_ret; exact ⟨ret_bool (by rw [H.out]; first | rfl | (simp; done) | (simp; omega) | simp_all), B0⟩)
          · obtain ⟨ve1, ve2⟩ := ne_toList v0
            rw [decide_eq_false v0] at H
            have HV0 : Hid (¬ x.val.size = 0) := v0
            clear k0 v0
            go_enter Tryz.func105, Tryz.ntmps105
            go_wp2_with (first
              | (go_at_call 121; refine (Ky.checkR_any _ _).mono ?_; rintro e w' ⟨rfl, hw⟩; rw [hw, c1]; clear hw w')
              | (go_at_call 122; refine (Ky.checkVR_any _ _).mono ?_; rintro e w' ⟨rfl, hw⟩; rw [hw, c2]; clear hw w'))
            all_goals (go_ret; exact ⟨ret_bool (by rw [H.out]; first | rfl | (simp; done) | (simp; omega) | simp_all), B0⟩)
    · have h2' : (x.k == 2) = false := by simpa using h2
      have H : Hid (rcB x = false) := rcB_3 h1 h2
      clear h1 h2
      go_enter Tryz.func105, Tryz.ntmps105
      go_wp2_with (first
        | (go_at_call 121; refine (Ky.checkR_any _ _).mono ?_; rintro e w' ⟨rfl, hw⟩; rw [hw]; clear hw w')
        | (go_at_call 122; refine (Ky.checkVR_any _ _).mono ?_; rintro e w' ⟨rfl, hw⟩; rw [hw]; clear hw w'))
      go_ret
      exact ⟨ret_bool H.out.symm, B0⟩
set_option maxRecDepth 100000 in
/-- The document's whole blocks. -/
theorem whole_any (v : Value) (zs : List Int) (z : Int) (w : World) (hR : Rd w v zs) (hl : zs.length ≤ 1000) : Calls Tryz.prog 74 #[v, .int .i64 z] w fun e w' => e = .returned (.bool (inB zs.length z)) ∧ Below w.heap.size w w' := by
  obtain ⟨_, a, cap, rfl⟩ := hR.form
  by_cases h0 : z ≥ 0
  · by_cases h1 : z < 4096
    · have H : Hid (inB zs.length z = decide (16 * z + 16 ≤ (zs.length : Int))) := show _ = _ by
        unfold inB
        rw [decide_eq_decide]
        omega
      go_enter Tryz.func74, Tryz.ntmps74
      go_wp2
      go_ret
      exact ⟨ret_bool H.out.symm, Below.refl _ _⟩
    · have H : Hid (inB zs.length z = false) := show _ = _ from decide_eq_false (by omega)
      go_enter Tryz.func74, Tryz.ntmps74
      go_wp2
      go_ret
      exact ⟨ret_bool H.out.symm, Below.refl _ _⟩
  · have H : Hid (inB zs.length z = false) := show _ = _ from decide_eq_false (by omega)
    go_enter Tryz.func74, Tryz.ntmps74
    go_wp2
    go_ret
    exact ⟨ret_bool H.out.symm, Below.refl _ _⟩
end Go.Proofs.YtcgclhahonndbaaGreat
namespace Go.Proofs.YtcgclhahonndbaaGreat
open Go.RowKit Go.Shelf Classical
set_option linter.unusedVariables false
def slLen : Value → Nat
  | .slice _ n _ => n
  | _ => 0
set_option maxRecDepth 100000 in
set_option maxHeartbeats 2000000 in
theorem three_any (s : ByteArray) (w : World) (hs : s.size ≤ 21) : Calls Tryz.prog 106 #[.string s] w fun e w' => ∃ a c, e = .returned (.slice a 3 c) ∧ OwnI w' w.heap.size (.slice a 3 c) (p3 (Ky.wsl s.data.toList)) ∧ Below w.heap.size w w' := by
  have hL := wsl_small s hs
  have HP : Hid (p3 (Ky.wsl s.data.toList) = Ky.wsl s.data.toList ++ List.replicate (3 - (Ky.wsl s.data.toList).length) 0) := rfl
  have k39 : Hid (∀ w, Calls Tryz.prog 104 #[.string s] w fun e w' => ∃ v, e = .returned v ∧ w'.ownsRow w.heap.size 3 1 v (Ky.nW s.size) ((Ky.wsl s.data.toList).map (Value.int .i64)) ∧ Below w.heap.size w w') := fun w => Ky.wordsR_own s w (by omega)
  have hl3 : (p3 (Ky.wsl s.data.toList)).length = 3 := p3_length hL
  generalize hT : p3 (Ky.wsl s.data.toList) = T at *
  generalize Ky.wsl s.data.toList = L at *
  have H0 : Hid (Below w.heap.size w (w.alloc (.cells #[] 3))) := (Below.refl _ _).alloc (Nat.le_refl _) _
  have O0 : Hid (OwnI (w.alloc (.cells #[] 3)) w.heap.size (.slice (some ⟨w.heap.size, 0, none⟩) 0 0) []) := own_none w (Nat.le_refl _)
  clear hT
  go_enter Tryz.func106, Tryz.ntmps106
  go_wp2_with (first
    | (go_at_call 104; refine (k39.out _).mono ?_; rintro e w1 ⟨v1, rfl, o1, b1⟩; have R1 : Hid (Rd w1 v1 L) := Rd.own o1 (by omega); have H1 : Hid (Below w.heap.size w w1) := bstep H0.out b1; have O1 : Hid (OwnI w1 w.heap.size (.slice (some ⟨w.heap.size, 0, none⟩) 0 0) []) := ownI_below O0.out b1; have s1 : w.heap.size ≤ w1.heap.size := H1.out.size; clear o1 b1)
    | (at_builtin; refine append_own_rd rfl (.tmp 4) (.tmp 6) rfl w.heap.size (.slice (some ⟨w.heap.size, 0, none⟩) 0 0) [] rfl O1.out v1 L rfl R1.out (by simp) s1 L rfl ?_; intro a2 c2 w2 o2 b2; have O2 : Hid (OwnI w2 w.heap.size (.slice a2 L.length c2) L) := o2; have H2 : Hid (Below w.heap.size w w2) := H1.out.trans b2; clear o2 b2))
  go_loopw [3] (fun o w1 => ∃ (j : Nat) (a : Option Addr) (c : Nat), L.length + j ≤ 3 ∧ o = .slice a (L.length + j) c ∧ OwnI w1 w.heap.size o (L ++ List.replicate j 0) ∧ Below w.heap.size w w1) (fun o _ => 3 - slLen o)
  case atStart => exact ⟨0, a2, c2, hL, rfl, by simpa using O2.out, H2.out⟩
  case round =>
    obtain ⟨j, a3, c3, hj, rfl, hO, hB⟩ := hrel
    have HO : Hid (OwnI wr w.heap.size (.slice a3 (L.length + j) c3) (L ++ List.replicate j 0)) := hO
    have HB : Hid (Below w.heap.size w wr) := hB
    have hsz : w.heap.size ≤ wr.heap.size := hB.size
    clear hO hB
    by_cases hlt : L.length + j < 3
    · have hI : (L.length : Int) + (j : Int) < 3 := by omega
      have HN : Hid (L ++ List.replicate j 0 ++ [0] = L ++ List.replicate (j + 1) 0) := show _ = _ by rw [List.append_assoc, List.replicate_succ']
      have HLn : Hid ((L ++ List.replicate (j + 1) (0 : Int)).length = L.length + (j + 1)) := show _ = _ by simp
      have O4 : Hid (OwnI (wr.alloc (.cells #[.int .i64 0] 3)) w.heap.size (.slice a3 (L.length + j) c3) (L ++ List.replicate j 0)) := ownI_below HO.out ((Below.refl _ _).alloc (Nat.le_refl _) _)
      have H4 : Hid (Below w.heap.size w (wr.alloc (.cells #[.int .i64 0] 3))) := HB.out.alloc hsz _
      go_wp2_with (first
        | (at_builtin; refine append_own_rd rfl (.tmp 11) (.tmp 12) rfl w.heap.size (.slice a3 (L.length + j) c3) (L ++ List.replicate j 0) rfl O4.out (.slice (some ⟨wr.heap.size, 0, none⟩) 1 1) [0] rfl (rd_one _ 0 rfl) (by simp; omega) H4.out.size (L ++ List.replicate (j + 1) 0) HN.out ?_; intro a5 c5 w5 o5 b5; rw [HLn.out] at o5 ⊢; have O5 : Hid (OwnI w5 w.heap.size (.slice a5 (L.length + (j + 1)) c5) (L ++ List.replicate (j + 1) 0)) := o5; have H5 : Hid (Below w.heap.size w w5) := H4.out.trans b5; clear o5 b5))
      go_roundw
      case rel => exact ⟨j + 1, a5, c5, by omega, rfl, O5.out, H5.out⟩
      case measure => simp [slLen]; omega
    · have hj3 : j = 3 - L.length := by omega
      have e3 : L.length + j = 3 := by omega
      rw [e3] at HO
      have HO' : Hid (OwnI wr w.heap.size (.slice a3 3 c3) T) := show OwnI _ _ _ _ by rw [HP.out, ← hj3]; exact HO.out
      rw [e3]
      go_wp2
      go_ret
      exact ⟨a3, c3, rfl, HO'.out, HB.out⟩
end Go.Proofs.YtcgclhahonndbaaGreat
