/- Layer 11: the walk of ArenaApart. -/
import Derived.Test.YtgcdhenbpkcmgaaLawr
namespace Go.Proofs.Ytgcdhenbpkcmgaa
open Go.RowKit Go.Shelf
set_option linter.unusedVariables false

theorem fits_set {zs : List Int} (h : Fits zs) (k : Nat) (y : Int) (hy : -9223372036854775808 ≤ y ∧ y < 9223372036854775808) : Fits (zs.set k y) := by
  intro z hz
  rcases List.mem_or_eq_of_mem_set hz with hz | rfl
  · exact h z hz
  · exact hy
/-- A row of the call's own that is not empty lies in a block of its own. -/
theorem own_slot {W : World} {base : Nat} {v : Value} {zs : List Int} (h : OwnI W base v zs) (h0 : 0 < zs.length) : ∃ g cap, v = .slice (some ⟨g, 0, none⟩) zs.length cap ∧ base ≤ g := by
  rcases h.2 with ⟨_, e0⟩ | ⟨g, cap, cur, rfl, hg, _⟩
  · omega
  · exact ⟨g, cap, rfl, hg⟩
theorem rem_of (k m : Nat) (h : k < 1000) (hm : 0 < m) : ((k : Int) % (m : Int) = ((k % m : Nat) : Int)) ∧ ((k : Int).tmod (m : Int) = ((k % m : Nat) : Int)) ∧ IntKind.i64.wrap ((k % m : Nat) : Int) = ((k % m : Nat) : Int) ∧ wrap64 ((k % m : Nat) : Int) = ((k % m : Nat) : Int) := by
  have h1 : k % m ≤ k := Nat.mod_le _ _
  refine ⟨by simp, ?_, ?_, ?_⟩
  · rw [Int.tmod_eq_emod_of_nonneg (by omega)]; simp
  · rw [IntKind.wrap_i64]; omega
  · unfold wrap64; omega
/-- Where other words may stand. -/
structure Apt (zs M ys : List Int) : Prop where
  len : ys.length = zs.length
  fits : Fits ys
  same : ∀ (i : Nat), i < zs.length → ((i / 16 : Nat) : Int) ∈ M → ys[i]? = zs[i]?
theorem Apt.set {zs M ys : List Int} (h : Apt zs M ys) {k : Nat} (hk : ((k / 16 : Nat) : Int) ∉ M) {y : Int} (hy : -9223372036854775808 ≤ y ∧ y < 9223372036854775808) : Apt zs M (ys.set k y) := by
  refine ⟨by rw [List.length_set]; exact h.len, fits_set h.fits k y hy, fun i hi hm => ?_⟩
  rw [List.getElem?_set_ne (by rintro rfl; exact hk hm)]
  exact h.same i hi hm

set_option maxRecDepth 100000 in
set_option maxHeartbeats 2000000 in
theorem walk_ArenaApart (a1 : Option Addr) (len1 cap1 : Nat) (a2 : Option Addr) (len2 cap2 : Nat) (w : World) (h1 : RowIn w a1 len1 cap1) (h2 : RowIn w a2 len2 cap2) :
    Calls Try.prog 6 #[.slice a1 len1 cap1, .slice a2 len2 cap2] w fun e w' => e = .returned (.bool true) ∧ Below w.heap.size w w' := by
  by_cases g1 : (len1 : Int) > 1000
  · clear h1 h2
    go_enter Try.func6, Try.ntmps6
    go_wp2_with (go_at_call 9; refine (awake_any _).mono ?_; rintro e w1 ⟨rfl, hb1⟩)
    go_ret
    exact ⟨ret_bool rfl, hb1⟩
  by_cases g2 : (len2 : Int) > 1000
  · clear h1 h2
    go_enter Try.func6, Try.ntmps6
    go_wp2_with (go_at_call 9; refine (awake_any _).mono ?_; rintro e w1 ⟨rfl, hb1⟩)
    go_ret
    exact ⟨ret_bool rfl, hb1⟩
  obtain ⟨zs, rfl, R1, F1⟩ := h1 (by omega)
  obtain ⟨os, rfl, R2, F2⟩ := h2 (by omega)
  have F1 : Fits zs := F1
  have F2 : Fits os := F2
  have HR : Hid (Rl w (.slice a1 zs.length cap1) zs) := R1
  have HO : Hid (Rd w (.slice a2 os.length cap2) os) := R2.rd (by omega)
  clear h1 R1 h2 R2
  cases hs : sndB zs with
  | false =>
    have K12 : Hid (∀ v W, Rl W v zs → Calls Try.prog 12 #[v] W fun e w' => ∃ v', e = .returned (.tuple #[v', .int .i64 110]) ∧ Rd w' v' [] ∧ Below W.heap.size W w') := (told_no hs F1).1
    clear hs F1 F2
    go_enter Try.func6, Try.ntmps6
    go_wp2_with (first
      | (go_at_call 9; refine (awake_any _).mono ?_; rintro e w1 ⟨rfl, hb1⟩; have B1 : Hid (Below w.heap.size w w1) := hb1; clear hb1)
      | (go_at_call 12; refine (K12.out _ _ (HR.out.below B1.out)).mono ?_; rintro e w2 ⟨v2, rfl, r2, hb2⟩; obtain ⟨_, a3, c3, rfl⟩ := r2.form; have B2 : Hid (Below w.heap.size w w2) := bstep B1.out hb2; clear r2 hb2))
    go_ret
    exact ⟨ret_bool rfl, B2.out⟩
  | true =>
    obtain ⟨L, hL⟩ := snd_leaves hs
    have K12 : Hid (∀ v W, Rl W v zs → Calls Try.prog 12 #[v] W fun e w' => ∃ v' M, e = .returned (.tuple #[v', .int .i64 0]) ∧ Rd w' v' M ∧ RcS zs L M ∧ Below W.heap.size W w') := (told_yes hL hs F1).1
    have K11 : Hid (∀ v W, Rl W v zs → Calls Try.prog 11 #[v] W fun e w' => ∃ v', e = .returned (.tuple #[v', .int .i64 0]) ∧ Rd w' v' L ∧ Below W.heap.size W w') := (told_yes hL hs F1).2.2
    by_cases h0 : os.length = 0
    · have e0 : ((os.length : Int) == 0) = true := by simp [h0]
      clear hs F1 F2 hL h0
      go_enter Try.func6, Try.ntmps6
      go_wp2_with (first
        | (go_at_call 9; refine (awake_any _).mono ?_; rintro e w1 ⟨rfl, hb1⟩; have B1 : Hid (Below w.heap.size w w1) := hb1; clear hb1)
        | (go_at_call 12; refine (K12.out _ _ (HR.out.below B1.out)).mono ?_; rintro e w2 ⟨v2, M, rfl, r2, hM, hb2⟩; obtain ⟨hM9, a3, c3, rfl⟩ := r2.form; have B2 : Hid (Below w.heap.size w w2) := bstep B1.out hb2; clear r2 hb2 hM))
      go_ret
      exact ⟨ret_bool rfl, B2.out⟩
    have e0 : ((os.length : Int) == 0) = false := by simp; intro h; rw [h] at h0; exact h0 rfl
    have hn0 : 0 < zs.length := by
      have := (rd_out (lvA_out hL).1).1.1
      unfold nbI at this
      omega
    have KY : Hid (∀ M ys, RcS zs L M → Apt zs M ys → (∀ v W, Rl W v ys → Calls Try.prog 11 #[v] W fun e w' => ∃ v', e = .returned (.tuple #[v', .int .i64 0]) ∧ Rd w' v' L ∧ Below W.heap.size W w') ∧ (∀ v W, Rl W v ys → Calls Try.prog 13 #[v] W fun e w' => e = .returned (.int .i64 0) ∧ Below W.heap.size W w')) := fun M ys hM hA => by
      obtain ⟨q1, q2⟩ := apart_same hL hs hM hA.len hA.same
      have q3 := told_yes q1 q2 hA.fits
      exact ⟨q3.2.2, q3.2.1⟩
    have HF1 : Hid (Fits zs) := F1
    have HF2 : Hid (Fits os) := F2
    have H0 : Hid (0 < os.length) := show 0 < os.length by omega
    have H9 : Hid (zs.length ≤ 1000 ∧ os.length ≤ 1000) := show _ ∧ _ by omega
    clear hs hL h0 F1 F2
    go_enter Try.func6, Try.ntmps6
    go_wp2_with (first
      | (go_at_call 9; refine (awake_any _).mono ?_; rintro e w1 ⟨rfl, hb1⟩; have B1 : Hid (Below w.heap.size w w1) := hb1; clear hb1)
      | (go_at_call 12; refine (K12.out _ _ (HR.out.below B1.out)).mono ?_; rintro e w2 ⟨v2, M, rfl, r2, hM, hb2⟩; obtain ⟨hM9, a3, c3, rfl⟩ := r2.form; have R2 : Hid (Rd w2 (.slice a3 M.length c3) M) := r2; have HM : Hid (RcS zs L M) := hM; have B2 : Hid (Below w.heap.size w w2) := bstep B1.out hb2; have N2 : Hid (Below w2.heap.size w2 (w2.alloc (.cells #[] 3))) := below_new w2 _; clear r2 hb2 hM)
      | (at_builtin; refine append_own_rd rfl (.tmp 37) (.tmp 38) rfl w2.heap.size (.slice (some ⟨w2.heap.size, 0, none⟩) 0 0) [] rfl (own_none w2 (Nat.le_refl _)) (.slice a1 zs.length cap1) zs rfl ((HR.out.below (bstep B2.out N2.out)).rd H9.out.1) (by simp) (by simp) zs rfl ?_; intro a8 c8 w8 o8 b8; obtain ⟨g, c8', e8, hbg⟩ := own_slot o8 hn0; cases e8; have O8 : Hid (OwnI w8 w2.heap.size (.slice (some ⟨g, 0, none⟩) zs.length c8) zs) := o8; have B8 : Hid (Below w2.heap.size w2 w8) := N2.out.trans b8; clear o8 b8))
    go_loopw [9] (fun i wr => ∃ (k : Nat) (ys : List Int), k ≤ zs.length ∧ i = .int .i64 k ∧ OwnI wr w2.heap.size (.slice (some ⟨g, 0, none⟩) zs.length c8) ys ∧ Apt zs M ys ∧ Below w2.heap.size w2 wr) (fun i _ => zs.length - (intOf i).toNat)
    case atStart => exact ⟨0, zs, Nat.zero_le _, rfl, O8.out, ⟨rfl, HF1.out, fun _ _ _ => rfl⟩, B8.out⟩
    case round =>
      obtain ⟨k, ys, hk, rfl, hO, hA, hB⟩ := hrel
      have OR : Hid (OwnI wr w2.heap.size (.slice (some ⟨g, 0, none⟩) zs.length c8) ys) := hO
      have HA : Hid (Apt zs M ys) := hA
      have HB : Hid (Below w2.heap.size w2 wr) := hB
      clear hO hA hB
      have HS : Hid (Rd wr (.slice a3 M.length c3) M) := R2.out.below HB.out
      by_cases hlt : k < zs.length
      · have hltI : (k : Int) < (zs.length : Int) := by omega
        have hq : (k : Int) / 16 = ((k / 16 : Nat) : Int) := by omega
        have Hq : Hid ((k : Int) / 16 = ((k / 16 : Nat) : Int)) := hq
        clear hq
        by_cases hm : ((k / 16 : Nat) : Int) ∈ M
        · have HX : Hid (decide (((k / 16 : Nat) : Int) ∈ M) = true) := decide_eq_true hm
          clear hm
          go_wp2_with (first
            | (go_at_call 15; rw [Hq.out]; refine (in_any _ M _ _ HS.out).mono ?_; rintro e w6 ⟨rfl, hw⟩; rw [hw, HX.out]; clear hw w6))
          go_roundw
          case rel => exact ⟨k + 1, ys, by omega, by go_num, OR.out, HA.out, HB.out⟩
          case measure => simp [intOf]; omega
        · have HX : Hid (decide (((k / 16 : Nat) : Int) ∈ M) = false) := decide_eq_false hm
          have HM2 : Hid (((k / 16 : Nat) : Int) ∉ M) := hm
          obtain ⟨r1, r2, r3, r4⟩ := rem_of k os.length (by have := H9.out; omega) H0.out
          obtain ⟨j, hj⟩ : ∃ j, k % os.length = j := ⟨_, rfl⟩
          have hj9 : j < os.length := by rw [← hj]; exact Nat.mod_lt _ H0.out
          rw [hj] at r1 r2 r3 r4
          have hjI : (j : Int) < (os.length : Int) := by omega
          obtain ⟨x, hx⟩ : ∃ x, os[j]? = some x := ⟨_, List.getElem?_eq_getElem hj9⟩
          obtain ⟨b, off, rfl, hcell⟩ := at_of (HO.out.below (bstep B2.out HB.out)) hx
          have HXF : Hid (-9223372036854775808 ≤ x ∧ x < 9223372036854775808) := HF2.out x (List.mem_of_getElem? hx)
          obtain ⟨y, hy⟩ : ∃ y, ys[k]? = some y := ⟨_, List.getElem?_eq_getElem (by have := HA.out.len; omega)⟩
          obtain ⟨cK, fK, hset⟩ := OR.out.at hy
          have HSet : Hid (∀ y : Int, OwnI (wr.setCell ⟨g, k, none⟩ (.int .i64 y)) w2.heap.size (.slice (some ⟨g, 0, none⟩) zs.length c8) (ys.set k y)) := hset
          clear hx hy hset hj hm
          go_wp2_with (first
            | (go_at_call 15; rw [Hq.out]; refine (in_any _ M _ _ HS.out).mono ?_; rintro e w6 ⟨rfl, hw⟩; rw [hw, HX.out]; clear hw w6))
          go_roundw
          case rel => exact ⟨k + 1, ys.set k x, by omega, by go_num, HSet.out x, HA.out.set HM2.out HXF.out, HB.out.setCell (p := ⟨g, k, none⟩) hbg _⟩
          case measure => simp [intOf]; omega
      · have hgeI : ¬ (k : Int) < (zs.length : Int) := by omega
        have HY : Hid ((∀ v W, Rl W v ys → Calls Try.prog 11 #[v] W fun e w' => ∃ v', e = .returned (.tuple #[v', .int .i64 0]) ∧ Rd w' v' L ∧ Below W.heap.size W w') ∧ (∀ v W, Rl W v ys → Calls Try.prog 13 #[v] W fun e w' => e = .returned (.int .i64 0) ∧ Below W.heap.size W w')) := KY.out M ys HM.out HA.out
        have HRr : Hid (Rl wr (.slice a1 zs.length cap1) zs) := HR.out.below (bstep B2.out HB.out)
        have HRy : Hid (Rl wr (.slice (some ⟨g, 0, none⟩) zs.length c8) ys) := (OR.out.rd (by have := HA.out.len; have := H9.out; omega)).rl
        have HBr : Hid (Below w.heap.size w wr) := bstep B2.out HB.out
        have t1 : Hid (0 = 0) := rfl
        go_wp2_with (first
          | (clear t1; go_at_call 11; refine (K11.out _ _ HRr.out).mono ?_; rintro e w3 ⟨v3, rfl, r3, hb3⟩; have R3 : Hid (Rd w3 v3 L) := r3; have B3 : Hid (Below wr.heap.size wr w3) := hb3; clear r3 hb3)
          | (go_at_call 11; refine (HY.out.1 _ _ (HRy.out.below B3.out)).mono ?_; rintro e w4 ⟨v4, rfl, r4, hb4⟩; have R4 : Hid (Rd w4 v4 L) := r4; have B4 : Hid (Below w3.heap.size w3 w4) := hb4; have C4 : Hid (Below wr.heap.size wr w4) := bstep B3.out hb4; clear r4 hb4)
          | (go_at_call 13; refine (HY.out.2 _ _ (HRy.out.below C4.out)).mono ?_; rintro e w5 ⟨rfl, hb5⟩; have B5 : Hid (Below w4.heap.size w4 w5) := hb5; clear hb5)
          | (go_at_call 14; refine (aw14 _ _ L _ (R3.out.below (bstep B4.out B5.out)) (R4.out.below B5.out)).mono ?_; rintro e w7 ⟨rfl, hb7⟩; have D7 : Hid (Below w.heap.size w w7) := bstep HBr.out (bstep C4.out (bstep B5.out hb7)); clear hb7))
        go_ret
        exact ⟨ret_bool rfl, D7.out⟩
end Go.Proofs.Ytgcdhenbpkcmgaa
