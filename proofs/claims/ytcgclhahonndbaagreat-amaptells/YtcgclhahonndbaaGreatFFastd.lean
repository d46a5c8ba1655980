/- Set over from a lower layer: FFastd. -/
import Derived.Test.YtcgclhahonndbaaGreatBase
import Derived.Test.YtcgclhahonndbaaGreatNNodp
import Derived.Test.YtcgclhahonndbaaGreatNNumz
import Derived.Test.YtcgclhahonndbaaGreatRKeywalkc
import Derived.Laws.IdiomCopy
import Derived.Lib.SliceRun
import Derived.RangeFuncBox
import Derived.RangeFuncNested
import Derived.RangeFuncBound
import Derived.RangeFuncCalls
import Derived.RangeFuncLeaves
import Derived.Shelf.Abstract
import Derived.Shelf.RegionOpen
import Derived.OwnWalkIn
import Derived.TacticsInMore
import Derived.LoopNIn
import Derived.LoopIn
import Derived.Maps.AppendAt
import Derived.WalkKit
import Derived.WalkSpells
import Derived.WalkLawsBesides
import Derived.LoopN
import Derived.Laws.BytesArg
import Derived.Laws.AppendOwnNone
import Derived.Deep.QuietTactic
import Derived.BigQuiet
import Derived.WalkSmall
import Derived.Deep.MidRow
import Derived.Deep.OwnRows
import Derived.Deep.RegionHeld3
import Derived.Laws.ResultCell
import Derived.Deep.AppendLies
import Derived.Deep.RegionWith
import Derived.Laws.CopyOwn
import Derived.Shelf.SlSortCmp.QuietGrown
import Derived.Maps.OwnOps
import Derived.Laws.StructEq
namespace Go.Proofs.YtcgclhahonndbaaGreat
open Go.RowKit Go.Shelf
set_option linter.unusedVariables false
theorem plN_take1 (zs : List Int) : plN (zs.take 1) = zs.take 1 := by
  cases zs with
  | nil => rfl
  | cons x r => rfl
theorem plN_take {zs : List Int} {m : Nat} {x y : Int} (hx : zs[m + 1]? = some x) (hy : zs[m]? = some y) : plN (zs.take (m + 1 + 1)) = if x = y then plN (zs.take (m + 1)) else plN (zs.take (m + 1)) ++ [x] := by
  rw [take_next hx, take_next hy, List.append_assoc, List.singleton_append]
  by_cases h : x = y
  · rw [if_pos h, h]
    have := plN_twice (zs.take m) y []
    exact this
  · rw [if_neg h, plN_next _ _ _ (fun e => h e.symm)]
theorem ys_next {ys zs : List Int} {K : Nat} {x : Int} (h1 : ys.drop K = zs.drop K) (hK : K < ys.length) : (ys.set K x).take (K + 1) = ys.take K ++ [x] ∧ (ys.set K x).drop (K + 1) = zs.drop (K + 1) := by
  constructor
  · rw [take_next (p := x) (by rw [List.getElem?_set_self hK]), List.take_set_of_le (Nat.le_refl _)]
  · rw [List.drop_set_of_lt (by omega)]
    have := congrArg (List.drop 1) h1
    rwa [List.drop_drop, List.drop_drop] at this
theorem ys_at {ys zs : List Int} {K p : Nat} (h1 : ys.drop K = zs.drop K) (hp : K ≤ p) : ys[p]? = zs[p]? := by
  have := congrArg (fun l => l[p - K]?) h1
  simp only [List.getElem?_drop] at this
  rwa [show K + (p - K) = p from by omega] at this
set_option maxRecDepth 100000 in
set_option maxHeartbeats 4000000 in
theorem compact_any (v : Value) (zs : List Int) (base : Nat) (w : World) (hO : OwnI w base v zs) (hl : zs.length ≤ 1000) (hb : base ≤ w.heap.size) : Calls Tryz.prog 114 #[v] w fun e w' => ∃ v', e = .returned v' ∧ Rd w' v' (plN zs) ∧ Below base w w' := by
  have HO : Hid (OwnI w base v zs) := hO
  by_cases h2 : zs.length < 2
  · have Hn : Hid (plN zs = zs) := by
      show _ = _
      match zs, h2 with
      | [], _ => rfl
      | [x], _ => rfl
    obtain ⟨a, cap, rfl⟩ := hO.form
    have h2I : (zs.length : Int) < 2 := by omega
    clear hO
    go_enter Tryz.func114, Tryz.ntmps114
    go_wp2
    go_ret
    exact ⟨_, rfl, by rw [Hn.out]; exact HO.out.rd hl, Below.refl _ _⟩
  rcases hO.2 with ⟨_, e0⟩ | ⟨g, cap, cur, rfl, hg, hgg, rest⟩
  · omega
  have hcap : zs.length ≤ cap := by have := rest; omega
  have hcapI : (zs.length : Int) ≤ (cap : Int) := by omega
  clear rest hO hgg
  have h22 : ¬ (zs.length : Int) < 2 := by omega
  go_enter Tryz.func114, Tryz.ntmps114
  go_wp2
  go_loopw [3] (fun s3 w1 => ∃ m : Nat, m + 1 ≤ zs.length ∧ s3 = .int .i64 ((m : Int) + 1) ∧ plN (zs.take (m + 1)) = zs.take (m + 1) ∧ OwnI w1 base (.slice (some ⟨g, 0, none⟩) zs.length cap) zs ∧ Below base w w1) (fun s3 _ => zs.length - (intOf s3).toNat)
  case atStart => exact ⟨0, by omega, rfl, plN_take1 zs, HO.out, Below.refl _ _⟩
  case round =>
    obtain ⟨m, hm, rfl, hpl, hO, hB⟩ := hrel
    have Hpl : Hid (plN (zs.take (m + 1)) = zs.take (m + 1)) := hpl
    have HOr : Hid (OwnI wr base (.slice (some ⟨g, 0, none⟩) zs.length cap) zs) := hO
    have HBr : Hid (Below base w wr) := hB
    clear hpl hO hB
    by_cases hlt : m + 1 < zs.length
    · have hltI : (m : Int) + 1 < (zs.length : Int) := by omega
      obtain ⟨x, hx⟩ : ∃ x, zs[m + 1]? = some x := ⟨_, List.getElem?_eq_getElem hlt⟩
      obtain ⟨y, hy⟩ : ∃ y, zs[m]? = some y := ⟨_, List.getElem?_eq_getElem (by omega)⟩
      have Hpt : Hid (plN (zs.take (m + 1 + 1)) = if x = y then plN (zs.take (m + 1)) else plN (zs.take (m + 1)) ++ [x]) := plN_take hx hy
      have Htk : Hid (zs.take (m + 1 + 1) = zs.take (m + 1) ++ [x]) := take_next hx
      have c1 := (HOr.out.at hx).1
      have c0 := (HOr.out.at hy).1
      clear hx hy
      by_cases hdup : x = y
      · subst hdup
        obtain ⟨n2, hn2⟩ : ∃ n2, zs.length - (m + 1) = n2 := ⟨_, rfl⟩
        obtain ⟨c2, hc2⟩ : ∃ c2, cap - (m + 1) = c2 := ⟨_, rfl⟩
        have Hn2 : Hid (zs.length = m + 1 + n2) := by (show _ = _; omega)
        have hmc : m + 1 ≤ cap := by omega
        have hmcI : (m : Int) + 1 ≤ (cap : Int) := by omega
        have hmn : (m : Int) + 1 ≤ (zs.length : Int) := by omega
        have Hst : Hid (plN (zs.take (m + 1 + 1)) = zs.take (m + 1)) := by (show _ = _; rw [Hpt.out, if_pos rfl, Hpl.out])
        clear Hpt
        go_wp2
        go_quiet (fail)
        go_wp2
        go_loopw [3, 5] (fun s3 s5 w1 => ∃ (K t : Nat) (ys : List Int), m + 1 ≤ K ∧ K ≤ m + 1 + t ∧ t + 1 ≤ n2 ∧ s3 = .int .i64 (K : Int) ∧ s5 = .int .i64 ((t : Int) + 1) ∧ ys.length = zs.length ∧ OwnI w1 base (.slice (some ⟨g, 0, none⟩) zs.length cap) ys ∧ ys.take K = plN (zs.take (m + 1 + t + 1)) ∧ ys.drop K = zs.drop K ∧ Below base w w1) (fun _ s5 _ => n2 - (intOf s5).toNat)
        case atStart => exact ⟨m + 1, 0, zs, Nat.le_refl _, Nat.le_refl _, by omega, by go_num, rfl, rfl, HOr.out.below (below_drewN (Below.refl _ _) _), Hst.out.symm, rfl, below_drewN HBr.out _⟩
        case round =>
          clear c0 c1 HOr HBr
          obtain ⟨K, t, ys, k1, k2, k3, rfl, rfl, hyl, hO, ht, hd, hB⟩ := hrel
          have Hyl : Hid (ys.length = zs.length) := hyl
          have HOr : Hid (OwnI wr base (.slice (some ⟨g, 0, none⟩) zs.length cap) ys) := hO
          have HBr : Hid (Below base w wr) := hB
          have Ht : Hid (ys.take K = plN (zs.take (m + 1 + t + 1))) := ht
          have Hd : Hid (ys.drop K = zs.drop K) := hd
          have hKn : K < zs.length := by have := Hn2.out; omega
          clear hyl hO hB ht hd
          by_cases hlt2 : t + 1 < n2
          · have hlt2I : (t : Int) + 1 < (n2 : Int) := by omega
            have hKI : (K : Int) < (zs.length : Int) := by omega
            obtain ⟨x', hx⟩ : ∃ x, zs[m + 1 + t + 1]? = some x := ⟨_, List.getElem?_eq_getElem (by have := Hn2.out; omega)⟩
            obtain ⟨y', hy⟩ : ∃ y, zs[m + 1 + t]? = some y := ⟨_, List.getElem?_eq_getElem (by have := Hn2.out; omega)⟩
            obtain ⟨z', hz⟩ : ∃ z, ys[K]? = some z := ⟨_, List.getElem?_eq_getElem (by have := Hyl.out; omega)⟩
            have Hpt : Hid (plN (zs.take (m + 1 + (t + 1) + 1)) = if x' = y' then plN (zs.take (m + 1 + t + 1)) else plN (zs.take (m + 1 + t + 1)) ++ [x']) := plN_take hx hy
            have c1 : wr.cell? ⟨g, m + 1 + (t + 1), none⟩ = some (.int .i64 x') := (HOr.out.at (by rw [ys_at Hd.out (by omega)]; exact hx)).1
            have c0 : wr.cell? ⟨g, m + 1 + t, none⟩ = some (.int .i64 y') := (HOr.out.at (by rw [ys_at Hd.out (by omega)]; exact hy)).1
            obtain ⟨cK, fK, _⟩ := HOr.out.at hz
            have HzK : Hid (ys[K]? = some z') := hz
            clear hx hy hz
            by_cases hne : x' = y'
            · have hdn : (x' != y') = false := by simpa using hne
              have Hn : Hid (ys.take K = plN (zs.take (m + 1 + (t + 1) + 1))) := by (show _ = _; rw [Hpt.out, if_pos hne, Ht.out])
              clear hne
              go_wp2
              go_quiet (fail)
              go_wp2
              go_roundw
              case rel => exact ⟨K, t + 1, ys, k1, by omega, by omega, rfl, by go_num, Hyl.out, HOr.out.below (below_drewN (Below.refl _ _) _), Hn.out, Hd.out, below_drewN HBr.out _⟩
              case measure => simp [intOf]; omega
            · have hdn : (x' != y') = true := by simpa using hne
              have Hys : Hid ((ys.set K x').take (K + 1) = ys.take K ++ [x'] ∧ (ys.set K x').drop (K + 1) = zs.drop (K + 1)) := ys_next Hd.out (by have := Hyl.out; omega)
              have Hn : Hid ((ys.set K x').take (K + 1) = plN (zs.take (m + 1 + (t + 1) + 1))) := by (show _ = _; rw [Hpt.out, if_neg hne, ← Ht.out]; exact Hys.out.1)
              clear hne
              go_wp2
              go_quiet (fail)
              go_wp2
              go_roundw
              case rel => exact ⟨K + 1, t + 1, ys.set K x', by omega, by omega, by omega, by go_num, by go_num, by rw [List.length_set]; exact Hyl.out, ((HOr.out.below (below_drewN (Below.refl _ _) _)).at HzK.out).2.2 x', Hn.out, Hys.out.2, (below_drewN HBr.out _).setCell (p := ⟨g, K, none⟩) hg _⟩
              case measure => simp [intOf]; omega
          · obtain ⟨n3, hn3⟩ : ∃ n3, zs.length - K = n3 := ⟨_, rfl⟩
            obtain ⟨c3, hc3⟩ : ∃ c3, cap - K = c3 := ⟨_, rfl⟩
            have hge2 : ¬ (t : Int) + 1 < (n2 : Int) := by omega
            have hKI : (K : Int) ≤ (zs.length : Int) := by omega
            have hKc : (K : Int) ≤ (cap : Int) := by omega
            have hKcn : K ≤ cap := by omega
            have hcl : ∀ ty, (Builtin.clear_ #[22] ty #[.slice (some ⟨g, K, none⟩) n3 c3]).run Tryz.prog wr = .ok (.tuple #[]) (wr.setCells g K (List.replicate n3 (.int .i64 0))) := by
              intro ty
              have hat : ∀ j, j < n3 → ∃ z, ys[K + j]? = some z := fun j hj => ⟨_, List.getElem?_eq_getElem (by have := Hyl.out; omega)⟩
              exact Lib.run_clear_slice wr 22 3 ty (.int .i64 0) Tryz.underlying22 (fun w => rfl) rfl rfl g K n3 c3 (by omega) (fun j hj => by obtain ⟨z, hz⟩ := hat j hj; rw [(HOr.out.at hz).1]; rfl) (fun j hj => by obtain ⟨z, hz⟩ := hat j hj; exact (HOr.out.at hz).2.1)
            have Hend : Hid (ys.take K = plN zs) := by (show _ = _; rw [Ht.out, List.take_of_length_le (by have := Hn2.out; omega)])
            go_wp2
            go_ret
            refine ⟨_, rfl, ?_, below_cells hg _ _ HBr.out⟩
            rw [← Hend.out]
            have hlK : (ys.take K).length = K := by have := Hyl.out; rw [List.length_take]; omega
            refine ⟨by simp, by omega, some ⟨g, 0, none⟩, cap, by rw [hlK]; rfl, by omega, .inr ⟨g, 0, rfl, ?_, fun j u hj => ?_⟩⟩
            · have e1 := (World.ownsRow.lt HOr.out g rfl).2
              have e2 := (below_cells (B := 0) (Nat.zero_le g) (List.replicate n3 (Value.int .i64 0)) K (Below.refl 0 wr)).size
              omega
            · rw [List.getElem?_map] at hj
              obtain ⟨z, hz, rfl⟩ := Option.map_eq_some_iff.1 hj
              rw [List.getElem?_take] at hz
              split at hz
              · rw [World.cell?_setCells_out g _ _ _ _ (fun _ _ => .inl (by show 0 + j < K; omega)), Nat.zero_add]
                exact (HOr.out.at hz).1
              · cases hz
      · have hd : (x == y) = false := by simpa using hdup
        have Hn : Hid (plN (zs.take (m + 1 + 1)) = zs.take (m + 1 + 1)) := by (show _ = _; rw [Hpt.out, if_neg hdup, Hpl.out, Htk.out])
        clear hdup
        go_wp2
        go_quiet (fail)
        go_wp2
        go_roundw
        case rel => exact ⟨m + 1, by omega, by go_num, Hn.out, HOr.out.below (below_drewN (Below.refl _ _) _), below_drewN HBr.out _⟩
        case measure => simp [intOf]; omega
    · have Hn : Hid (plN zs = zs) := by (show _ = _; have := Hpl.out; rwa [List.take_of_length_le (by omega)] at this)
      go_wp2
      go_ret
      exact ⟨_, rfl, by rw [Hn.out]; exact HOr.out.rd hl, HBr.out⟩
set_option maxRecDepth 100000 in
theorem plain_any (v : Value) (zs : List Int) (w : World) (hR : Rd w v zs) : Calls Tryz.prog 95 #[v] w fun e w' => ∃ v', e = .returned v' ∧ Rd w' v' (plN zs) ∧ Below w.heap.size w w' := by
  have HR : Hid (Rd w v zs) := hR
  obtain ⟨hl, a, cap, rfl⟩ := hR.form
  clear hR
  go_enter Tryz.func95, Tryz.ntmps95
  go_wp2_with (first
    | (go_at_call 115; refine (cloneI_any _ zs _ HR.out).mono ?_; rintro e w1 ⟨v1, rfl, O1, b1⟩; have HO1 : Hid (OwnI w1 w.heap.size v1 zs) := O1; have HB1 : Hid (Below w.heap.size w w1) := b1; clear O1 b1)
    | (go_at_call 114; refine (compact_any _ zs w.heap.size _ HO1.out hl HB1.out.size).mono ?_; rintro e w2 ⟨v2, rfl, R2, b2⟩; have HR2 : Hid (Rd w2 v2 (plN zs)) := R2; have HB2 : Hid (Below w.heap.size w w2) := HB1.out.trans b2; clear R2 b2))
  go_ret
  exact ⟨_, rfl, HR2.out, HB2.out⟩
end Go.Proofs.YtcgclhahonndbaaGreat
