/- Set over from a lower layer: Recf. · Set over from a lower layer: Recj. -/
import Derived.Test.YtcgclhahonndbaaNNodz
import Derived.Test.YtcgclhahonndbaaRReca
import Derived.Test.YtcgclhahonndbaaRRece
import Derived.Test.YtcgclhahonndbaaRRecz
import Derived.Test.YtcgclhahonndbaaSSumz
import Derived.Test.YtcgclhahonndbaaBase
import Derived.Deep.DeepCutAuto
import Derived.WalkKit
import Derived.Laws.BytesArg
import Derived.WalkSpells
import Derived.WalkLawsBesides
import Derived.LoopN
import Derived.Laws.AppendOwnNone
import Derived.Deep.QuietTactic
import Derived.BigQuiet
import Derived.WalkSmall
import Derived.Laws.BitsAllLaws
import Derived.RangeFuncBox
import Derived.RangeFuncNested
import Derived.RangeFuncBound
import Derived.RangeFuncCalls
import Derived.RangeFuncLeaves
import Derived.Shelf.Abstract
import Derived.Shelf.RegionOpen
import Derived.OwnWalkIn
import Derived.TacticsInMore
import Derived.LoopNIn
import Derived.LoopIn
import Derived.Maps.AppendAt
import Derived.Deep.MidRow
import Derived.Deep.OwnRows
import Derived.Lib.SliceRun
import Derived.Deep.RegionHeld3
import Derived.Laws.ResultCell
import Derived.Deep.AppendLies
import Derived.Deep.RegionWith
import Derived.Laws.CopyOwn
import Derived.Shelf.SlSortCmp.QuietGrown
import Derived.Lib.AppendZeros
import Derived.Deep.RegionLaw
import Derived.Maps.OwnOps
import Derived.Laws.StructEq
import Derived.Deep.Strs
import Derived.Deep.Slices
namespace Go.Proofs.Ytcgclhahonndbaa
open Go.RowKit Go.Shelf
set_option linter.unusedVariables false
def wLs (x : Rc) : List Int := if rcB x then imL x else []
def wEs (x : Rc) : Int := if rcB x then 0 else 70
theorem Im.made (W : World) (M : List Int) (hM : M.length = 16) : (W.alloc (.cells #[.int .i64 0, .int .i64 0, .int .i64 0, .int .i64 0, .int .i64 0, .int .i64 0, .int .i64 0, .int .i64 0, .int .i64 0, .int .i64 0, .int .i64 0, .int .i64 0, .int .i64 0, .int .i64 0, .int .i64 0, .int .i64 0] 76)).there W.heap.size 0 (M.map (Value.int .i64)).toArray.size := by
  have : Im (W.alloc (.cells #[.int .i64 0, .int .i64 0, .int .i64 0, .int .i64 0, .int .i64 0, .int .i64 0, .int .i64 0, .int .i64 0, .int .i64 0, .int .i64 0, .int .i64 0, .int .i64 0, .int .i64 0, .int .i64 0, .int .i64 0, .int .i64 0] 76)) W.heap.size zeros16 := Go.heap_alloc_new _ _
  have := this.there
  simpa [zeros16, hM] using this
theorem rd_laid {W : World} {g : Nat} (M : List Int) (hM : M.length = 16) (ht : W.there g 0 (M.map (Value.int .i64)).toArray.size) (hg : g < W.heap.size) : Rd (W.setCells g 0 (M.map (Value.int .i64))) (.slice (some ⟨g, 0, none⟩) 16 16) M := by
  have hr := World.rangeAt_setCells_same W g 0 (M.map (Value.int .i64)) (by simpa using ht)
  unfold Rd
  rw [hM]
  refine ⟨by rw [List.length_map, hM], by omega, some ⟨g, 0, none⟩, 16, rfl, by omega, .inr ⟨g, 0, rfl, ?_, fun j u hu => hr j u hu⟩⟩
  have e : ∀ (vs : List Value) (o : Nat) (W : World), W.heap.size ≤ (W.setCells g o vs).heap.size := by
    intro vs
    induction vs with
    | nil => intro o W; exact Nat.le_refl _
    | cons v vs ih =>
      intro o W
      exact Nat.le_trans (by simp [World.setCell]) (ih _ _)
  exact Nat.lt_of_lt_of_le hg (e _ _ _)
set_option maxRecDepth 100000 in
set_option maxHeartbeats 1000000 in
theorem wordsr_any (x : Rc) (w : World) : Calls Try.prog 19 #[.agg #[.int .i64 x.k, .string x.key, .string x.val, .int .i64 x.ch]] w fun e w' => ∃ v, e = .returned (.tuple #[v, .int .i64 (wEs x)]) ∧ Rd w' v (wLs x) ∧ Below w.heap.size w w' := by
  cases hc : rcB x with
  | false =>
    have H1 : Hid (wLs x = []) := show _ = _ by simp [wLs, hc]
    have H2 : Hid (wEs x = 70) := show _ = _ by simp [wEs, hc]
    have B0 := (Below.refl w.heap.size w).alloc (Nat.le_refl _) (.cells #[.int .i64 x.k, .string x.key, .string x.val, .int .i64 x.ch] 48)
    go_enter Try.func19, Try.ntmps19
    go_wp2_with (go_at_call 43; refine (rcheck_any x _).mono ?_; rintro e w1 ⟨rfl, hb1⟩; rw [hc])
    refine bodyPost_ret (results_tmp2 Try.results19 _ _ _) rfl ?_
    exact ⟨_, by rw [H2.out]; rfl, by rw [H1.out]; exact ⟨rfl, by decide, none, 0, rfl, Nat.le_refl _, .inl ⟨rfl, fun _ => rfl⟩⟩, bstep B0 hb1⟩
  | true =>
    have hx := rcB_iff.1 hc
    have H1 : Hid (wLs x = imL x) := show _ = _ by simp [wLs, hc]
    have H2 : Hid (wEs x = 0) := show _ = _ by simp [wEs, hc]
    have B0 := (Below.refl w.heap.size w).alloc (Nat.le_refl _) (.cells #[.int .i64 x.k, .string x.key, .string x.val, .int .i64 x.ch] 48)
    have R0 : RcAt (w.alloc (.cells #[.int .i64 x.k, .string x.key, .string x.val, .int .i64 x.ch] 48)) w.heap.size x := Go.heap_alloc_new _ _
    have l16 := imL_length hx
    obtain ⟨M, hM⟩ : ∃ M, M = imL x := ⟨_, rfl⟩
    have HM : Hid (M = imL x) := hM
    rw [← hM] at l16
    clear hM
    have hs1 := im_size l16
    have ho := im_one M
    go_enter Try.func19, Try.ntmps19
    go_wp2_with (first
      | (go_at_call 43; refine (rcheck_any x _).mono ?_; rintro e w1 ⟨rfl, hb1⟩; rw [hc]; obtain ⟨x0, x1, x2, x3⟩ := (R0.below hb1).c)
      | (go_at_call 44; refine (image_any x _ hx).mono ?_; rintro e w2 ⟨rfl, hb2⟩; rw [← HM.out]; have ht := Im.made w2 M l16)
      | (refine wpList_store_mid rfl 76 _ _ rfl w2.heap.size 0 (M.map (Value.int .i64)).toArray rfl rfl ht hs1 ho ?_; have hr := rd_laid M l16 ht (by simp)))
    refine bodyPost_ret (results_tmp2 Try.results19 _ _ _) rfl ?_
    exact ⟨_, by rw [H2.out]; rfl, by rw [H1.out, ← HM.out]; exact hr, Sm.below_setCells _ _ _ (Nat.le_trans B0.size (Nat.le_trans hb1.size hb2.size)) ((bstep (bstep B0 hb1) hb2).alloc (Nat.le_trans B0.size (Nat.le_trans hb1.size hb2.size)) _)⟩
end Go.Proofs.Ytcgclhahonndbaa
namespace Go.Proofs.Ytcgclhahonndbaa
open Go.RowKit Go.Shelf Classical
set_option linter.unusedVariables false
def aX : Rc := ⟨1, ⟨#[97]⟩, ⟨#[98]⟩, 0⟩
theorem aX_ok : OkR aX := .inl ⟨rfl, by decide, by decide, by decide, rfl⟩
def aL : List Int := imL aX
/-- The calls of awake. -/
theorem aw_words (w : World) : Calls Try.prog 19 #[.agg #[.int .i64 1, .string ⟨#[97]⟩, .string ⟨#[98]⟩, .int .i64 0]] w fun e w' => ∃ v, e = .returned (.tuple #[v, .int .i64 0]) ∧ Rd w' v aL ∧ Below w.heap.size w w' := by
  have h : rcB aX = true := rcB_iff.2 aX_ok
  have h1 : wLs aX = aL := by unfold wLs; rw [h]; rfl
  have h2 : wEs aX = 0 := by unfold wEs; rw [h]; rfl
  have := wordsr_any aX w
  rw [h1, h2] at this
  exact this
end Go.Proofs.Ytcgclhahonndbaa
