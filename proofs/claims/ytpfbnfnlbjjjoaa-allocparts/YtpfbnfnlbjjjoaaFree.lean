/- Walks of layer 10: Free. -/
import Derived.Test.YtpfbnfnlbjjjoaaAllb
import Derived.WalkMore
namespace Go.Proofs.Ytpfbnfnlbjjjoaa
open Go.RowKit
set_option linter.unusedVariables false

def lenV : Value → Nat
  | .slice _ n _ => n
  | _ => 0
theorem frK_skip {used : List Int} {k : Nat} (h : isB (k : Int) = false) : frK used (k + 1) = frK used k := by
  rw [frK, h]
  rfl
theorem frK_used {used : List Int} {k : Nat} (h : (k : Int) ∈ used) : frK used (k + 1) = frK used k := by
  rw [frK]
  have : used.contains (k : Int) = true := by simpa using h
  rw [this]
  simp
theorem frK_new {used : List Int} {k : Nat} (h : isB (k : Int) = true) (h2 : (k : Int) ∉ used) : frK used k ++ [(k : Int)] = frK used (k + 1) := by
  conv => rhs; rw [frK]
  have : used.contains (k : Int) = false := by simpa using h2
  rw [this, h]
  rfl

set_option maxRecDepth 100000 in
set_option maxHeartbeats 1000000 in
theorem free_any (blocks : Int) (v : Value) (used : List Int) (w : World) (hR : Rd w v used) : Calls Try.prog 9 #[.int .i64 blocks, v] w fun e w' => ∃ v', e = .returned (.tuple #[v', .int .i64 (frE blocks)]) ∧ Rd w' v' (frL blocks used) ∧ Below w.heap.size w w' := by
  have hR' : Hid (Rd w v used) := hR
  obtain ⟨hz, a, cap, rfl⟩ := hR.form
  clear hR
  by_cases h1 : blocks < 1
  · have F := fr_no (used := used) (b := blocks) (decide_eq_false (by omega))
    have F1 : Hid (frL blocks used = []) := F.1
    have F2 : Hid (frE blocks = 1) := F.2
    clear F
    go_enter Try.func9, Try.ntmps9
    go_wp2
    go_step3
    go_wp2
    rw [Exit.noGoto_ret]
    refine bodyPost_ret (results_tmp2 Try.results9 _ _ _) rfl ?_
    exact ⟨_, by rw [F2.out]; rfl, by rw [F1.out]; exact nil_rd _, Below.refl _ _⟩
  by_cases h2 : blocks > 256
  · have F := fr_no (used := used) (b := blocks) (decide_eq_false (by omega))
    have F1 : Hid (frL blocks used = []) := F.1
    have F2 : Hid (frE blocks = 1) := F.2
    clear F
    go_enter Try.func9, Try.ntmps9
    go_wp2
    go_step3
    go_wp2
    rw [Exit.noGoto_ret]
    refine bodyPost_ret (results_tmp2 Try.results9 _ _ _) rfl ?_
    exact ⟨_, by rw [F2.out]; rfl, by rw [F1.out]; exact nil_rd _, Below.refl _ _⟩
  obtain ⟨N, rfl⟩ := Int.eq_ofNat_of_zero_le (show 0 ≤ blocks by omega)
  have F := fr_yes (used := used) (b := (N : Int)) (decide_eq_true (by omega))
  have F1 : Hid (frL (N : Int) used = frK used N) := F.1
  have F2 : Hid (frE (N : Int) = 0) := F.2
  clear F
  go_enter Try.func9, Try.ntmps9
  go_wp2
  go_step3
  go_wp2
  go_step3
  go_wp2
  go_loopw [6, 17] (fun s6 s17 w1 => ∃ (k : Nat) (a : Option Addr) (c : Nat), k ≤ N ∧ s17 = .int .i64 k ∧ s6 = .slice a (frK used k).length c ∧ OwnI w1 w.heap.size (.slice a (frK used k).length c) (frK used k) ∧ Below w.heap.size w w1) (fun _ s17 _ => N - (intOf s17).toNat)
  case atStart => exact ⟨0, none, 0, Nat.zero_le _, rfl, rfl, World.ownsRow_nil _ _ _ _, Below.refl _ _⟩
  case round =>
    obtain ⟨k, a2, c2, hk, rfl, rfl, hO, hbel⟩ := hrel
    have HO : Hid (OwnI wr w.heap.size (.slice a2 (frK used k).length c2) (frK used k)) := hO
    have HB : Hid (Below w.heap.size w wr) := hbel
    have HL : Hid ((frK used k).length ≤ 255) := frK_len used k
    clear hO hbel
    by_cases hlt : k < N
    · have hltI : (k : Int) < (N : Int) := by omega
      cases hb : isB (k : Int) with
      | false =>
        have E : Hid (frK used (k + 1) = frK used k) := frK_skip hb
        generalize hZ : frK used k = Z at *
        clear hZ
        go_wp2_with (go_at_call 19; refine (isBlock_any k _).mono ?_; rintro e w' ⟨rfl, hw⟩; rw [hw, hb]; clear hw w')
        go_roundw
        case rel => exact ⟨k + 1, a2, c2, by omega, by go_num, by rw [E.out], by rw [E.out]; exact HO.out, HB.out⟩
        case measure => simp [intOf]; omega
      | true =>
        have E1 : Hid ((k : Int) ∈ used → frK used (k + 1) = frK used k) := fun h => frK_used h
        have E2 : Hid ((k : Int) ∉ used → frK used k ++ [(k : Int)] = frK used (k + 1)) := fun h => frK_new hb h
        have HL1 : Hid ((frK used (k + 1)).length ≤ 255) := frK_len used (k + 1)
        generalize hZ : frK used k = Z at *
        clear hZ
        go_wp2_with (go_at_call 19; refine (isBlock_any k _).mono ?_; rintro e w' ⟨rfl, hw⟩; rw [hw, hb]; clear hw w')
        go_loopw [25] (fun s25 w2 => ∃ j : Nat, j ≤ used.length ∧ s25 = .int .i64 j ∧ (k : Int) ∉ used.take j ∧ w2 = wr) (fun s25 _ => used.length - (intOf s25).toNat)
        case atStart => exact ⟨0, Nat.zero_le _, rfl, by simp, rfl⟩
        case round =>
          obtain ⟨j, hj, rfl, hn, rfl⟩ := hrel
          have HN : Hid ((k : Int) ∉ used.take j) := hn
          clear hn
          by_cases hlt2 : j < used.length
          · have hltJ : (j : Int) < (used.length : Int) := by omega
            obtain ⟨x, hx⟩ : ∃ x, used[j]? = some x := ⟨_, List.getElem?_eq_getElem hlt2⟩
            obtain ⟨b, off, rfl, hcell⟩ := at_of (hR'.out.below HB.out) hx
            have HX : Hid (used[j]? = some x) := hx
            clear hx
            by_cases he : x = (k : Int)
            · have G : Hid (frK used (k + 1) = Z) := E1.out (by rw [← he]; exact List.mem_of_getElem? HX.out)
              go_wp2
              go_roundw
              case rel => exact ⟨k + 1, a2, c2, by omega, by go_num, by rw [G.out], by rw [G.out]; exact HO.out, HB.out⟩
              case measure => simp [intOf]; omega
            · have G : Hid ((k : Int) ∉ used.take (j + 1)) := (by show _ ∉ _; rw [take_next' HX.out, List.mem_append, List.mem_singleton]; rintro (h | h); · exact HN.out h
                                                                  · exact he h.symm)
              go_wp2
              go_roundw
              case rel => exact ⟨j + 1, by omega, by go_num, G.out, trivial⟩
              case measure => simp [intOf]; omega
          · have hgeJ : ¬ (j : Int) < (used.length : Int) := by omega
            have G : Hid (Z ++ [(k : Int)] = frK used (k + 1)) := E2.out (by have := HN.out; rwa [List.take_of_length_le (by omega)] at this)
            go_wp2_with (first
              | (at_builtin; refine append_own_rd rfl (.tmp 33) (.tmp 35) rfl w.heap.size (.slice a2 Z.length c2) Z rfl (ownI_below HO.out ((Below.refl _ _).alloc (Nat.le_refl _) _)) (.slice (some ⟨_, 0, none⟩) 1 1) [(k : Int)] rfl (rd_lit [(k : Int)] rfl (by simp)) (by have := HL.out; omega) (by have := HB.out.size; simp; omega) (frK used (k + 1)) G.out ?_; intro a6 c6 w6 o6 b6; have O6 : Hid (OwnI w6 w.heap.size (.slice a6 (frK used (k + 1)).length c6) (frK used (k + 1))) := o6; have B6 : Hid (Below w.heap.size w w6) := (HB.out.alloc HB.out.size _).trans b6; clear o6 b6))
            go_roundw
            case rel => exact ⟨k + 1, a6, c6, by omega, by go_num, rfl, O6.out, B6.out⟩
            case measure => simp [intOf]; omega
    · have hgeI : ¬ (k : Int) < (N : Int) := by omega
      have e : k = N := by omega
      subst e
      go_wp2
      try rw [Exit.noGoto_ret]
      refine bodyPost_ret (results_tmp2 Try.results9 _ _ _) rfl ?_
      exact ⟨_, by rw [F2.out]; rfl, by rw [F1.out]; exact HO.out.rd (by have := HL.out; omega), HB.out⟩

set_option maxRecDepth 100000 in
set_option maxHeartbeats 1000000 in
theorem freeR_any (blocks : Int) (v : Value) (used : List Int) (w : World) (hR : Rd w v used) : Calls Try.prog 10 #[.int .i64 blocks, v] w fun e w' => ∃ v', e = .returned (.tuple #[v', .int .i64 (frE blocks)]) ∧ Rd w' v' (frL blocks used) ∧ Below w.heap.size w w' := by
  have hR' : Hid (Rd w v used) := hR
  obtain ⟨hz, a, cap, rfl⟩ := hR.form
  clear hR
  by_cases h1 : blocks < 1
  · have F := fr_no (used := used) (b := blocks) (decide_eq_false (by omega))
    have F1 : Hid (frL blocks used = []) := F.1
    have F2 : Hid (frE blocks = 1) := F.2
    clear F
    go_enter Try.func10, Try.ntmps10
    go_wp2
    refine bodyPost_ret (results_tmp2 Try.results10 _ _ _) rfl ?_
    exact ⟨_, by rw [F2.out]; rfl, by rw [F1.out]; exact nil_rd _, Below.refl _ _⟩
  by_cases h2 : blocks > 256
  · have F := fr_no (used := used) (b := blocks) (decide_eq_false (by omega))
    have F1 : Hid (frL blocks used = []) := F.1
    have F2 : Hid (frE blocks = 1) := F.2
    clear F
    go_enter Try.func10, Try.ntmps10
    go_wp2
    refine bodyPost_ret (results_tmp2 Try.results10 _ _ _) rfl ?_
    exact ⟨_, by rw [F2.out]; rfl, by rw [F1.out]; exact nil_rd _, Below.refl _ _⟩
  obtain ⟨N, rfl⟩ := Int.eq_ofNat_of_zero_le (show 0 ≤ blocks by omega)
  have F := fr_yes (used := used) (b := (N : Int)) (decide_eq_true (by omega))
  have F1 : Hid (frL (N : Int) used = frK used N) := F.1
  have F2 : Hid (frE (N : Int) = 0) := F.2
  have h01 : Hid (frK used 1 = []) := rfl
  clear F
  go_enter Try.func10, Try.ntmps10
  go_wp2
  go_loopw [6, 7] (fun s6 s7 w1 => ∃ (k : Nat) (a : Option Addr) (c : Nat), 1 ≤ k ∧ k ≤ N ∧ s7 = .int .i64 k ∧ s6 = .slice a (frK used k).length c ∧ OwnI w1 w.heap.size (.slice a (frK used k).length c) (frK used k) ∧ Below w.heap.size w w1) (fun _ s7 _ => N - (intOf s7).toNat)
  case atStart => exact ⟨1, none, 0, Nat.le_refl _, by omega, rfl, by rw [h01.out]; rfl, by rw [h01.out]; exact World.ownsRow_nil _ _ _ _, Below.refl _ _⟩
  case round =>
    obtain ⟨k, a2, c2, hk1, hk, rfl, rfl, hO, hbel⟩ := hrel
    have HO : Hid (OwnI wr w.heap.size (.slice a2 (frK used k).length c2) (frK used k)) := hO
    have HB : Hid (Below w.heap.size w wr) := hbel
    have HL : Hid ((frK used k).length ≤ 255) := frK_len used k
    clear hO hbel
    by_cases hlt : k < N
    · have hltI : (k : Int) < (N : Int) := by omega
      have kI : Hid (∀ W, Below w.heap.size w W → Calls Try.prog 18 #[.slice a used.length cap, .int .i64 k] W fun e w' => e = .returned (.bool (decide ((k : Int) ∈ used))) ∧ w' = W) := fun W hb => in_any _ used k W (hR'.out.below hb)
      by_cases hb : (k : Int) ∈ used
      · have E : Hid (frK used (k + 1) = frK used k) := frK_used hb
        rw [decide_eq_true hb] at kI
        generalize hZ : frK used k = Z at *
        clear hZ hb
        go_wp2_with (go_at_call 18; refine (kI.out _ HB.out).mono ?_; rintro e w' ⟨rfl, hw⟩; rw [hw]; clear hw w')
        go_roundw
        case rel => exact ⟨k + 1, a2, c2, by omega, by omega, by go_num, by rw [E.out], by rw [E.out]; exact HO.out, HB.out⟩
        case measure => simp [intOf]; omega
      · have G : Hid (frK used k ++ [(k : Int)] = frK used (k + 1)) := frK_new (isB_iff.2 (by omega)) hb
        rw [decide_eq_false hb] at kI
        generalize hZ : frK used k = Z at *
        clear hZ hb
        go_wp2_with (first
          | (go_at_call 18; refine (kI.out _ HB.out).mono ?_; rintro e w' ⟨rfl, hw⟩; rw [hw]; clear hw w')
          | (at_builtin; refine append_own_rd rfl (.tmp 23) (.tmp 25) rfl w.heap.size (.slice a2 Z.length c2) Z rfl (ownI_below HO.out ((Below.refl _ _).alloc (Nat.le_refl _) _)) (.slice (some ⟨_, 0, none⟩) 1 1) [(k : Int)] rfl (rd_lit [(k : Int)] rfl (by simp)) (by have := HL.out; omega) (by have := HB.out.size; simp; omega) (frK used (k + 1)) G.out ?_; intro a6 c6 w6 o6 b6; have O6 : Hid (OwnI w6 w.heap.size (.slice a6 (frK used (k + 1)).length c6) (frK used (k + 1))) := o6; have B6 : Hid (Below w.heap.size w w6) := (HB.out.alloc HB.out.size _).trans b6; clear o6 b6))
        go_roundw
        case rel => exact ⟨k + 1, a6, c6, by omega, by omega, by go_num, rfl, O6.out, B6.out⟩
        case measure => simp [intOf]; omega
    · have hgeI : ¬ (k : Int) < (N : Int) := by omega
      have e : k = N := by omega
      subst e
      go_wp2
      refine bodyPost_ret (results_tmp2 Try.results10 _ _ _) rfl ?_
      exact ⟨_, by rw [F2.out]; rfl, by rw [F1.out]; exact HO.out.rd (by have := HL.out; omega), HB.out⟩
end Go.Proofs.Ytpfbnfnlbjjjoaa
