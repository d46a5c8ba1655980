/- Layer 11: the walk of ArenaLows. -/
import Derived.Test.YtgcdhenbpkcmgaaLawr
namespace Go.Proofs.Ytgcdhenbpkcmgaa
open Go.RowKit Go.Shelf
set_option linter.unusedVariables false

theorem nodup_ne {L : List Int} (h : L.Nodup) {i k : Nat} {x y : Int} (hx : L[i]? = some x) (hy : L[k]? = some y) (hki : k < i) : (y == x) = false := by
  obtain ⟨q1, rfl⟩ := List.getElem?_eq_some_iff.1 hx
  obtain ⟨q2, rfl⟩ := List.getElem?_eq_some_iff.1 hy
  have := List.pairwise_iff_getElem.1 h k i q2 q1 hki
  simpa using this

set_option maxRecDepth 100000 in
set_option maxHeartbeats 2000000 in
theorem walk_ArenaLows (a1 : Option Addr) (len1 cap1 : Nat) (w : World) (h1 : RowIn w a1 len1 cap1) : Calls Try.prog 5 #[.slice a1 len1 cap1] w fun e w' => e = .returned (.bool true) ∧ Below w.heap.size w w' := by
  by_cases g1 : (len1 : Int) > 1000
  · clear h1
    go_enter Try.func5, Try.ntmps5
    go_wp2_with (go_at_call 9; refine (awake_any _).mono ?_; rintro e w1 ⟨rfl, hb1⟩)
    go_ret
    exact ⟨ret_bool rfl, hb1⟩
  obtain ⟨zs, rfl, R1, F1⟩ := h1 (by omega)
  have F1 : Fits zs := F1
  have HR : Hid (Rl w (.slice a1 zs.length cap1) zs) := R1
  have HF : Hid (Fits zs) := F1
  clear h1 R1
  cases hs : sndB zs with
  | false =>
    have K13 : Hid (∀ v W, Rl W v zs → Calls Try.prog 13 #[v] W fun e w' => e = .returned (.int .i64 110) ∧ Below W.heap.size W w') := (told_no hs F1).2
    clear hs F1
    go_enter Try.func5, Try.ntmps5
    go_wp2_with (first
      | (go_at_call 9; refine (awake_any _).mono ?_; rintro e w1 ⟨rfl, hb1⟩; have B1 : Hid (Below w.heap.size w w1) := hb1; clear hb1)
      | (go_at_call 13; refine (K13.out _ _ (HR.out.below B1.out)).mono ?_; rintro e w4 ⟨rfl, hb4⟩; have B4 : Hid (Below w.heap.size w w4) := bstep B1.out hb4; clear hb4))
    go_ret
    exact ⟨ret_bool rfl, B4.out⟩
  | true =>
    obtain ⟨L, hL⟩ := snd_leaves hs
    have K13 : Hid (∀ v W, Rl W v zs → Calls Try.prog 13 #[v] W fun e w' => e = .returned (.int .i64 0) ∧ Below W.heap.size W w') := (told_yes hL hs F1).2.1
    have K11 : Hid (∀ v W, Rl W v zs → Calls Try.prog 11 #[v] W fun e w' => ∃ v', e = .returned (.tuple #[v', .int .i64 0]) ∧ Rd w' v' L ∧ Below W.heap.size W w') := (told_yes hL hs F1).2.2
    have HG : Hid (∀ (i : Nat) (b : Int), L[i]? = some b → loE zs b = 0 ∧ ((loS zs b).toList = [] ↔ i = 0) ∧ ∀ (j : Nat) c, i = j + 1 → L[j]? = some c → Op.bytesLess (loS zs c).toList (loS zs b).toList = true) := fun i b hb => low_get hL hs hb
    have HN : Hid (L.Nodup) := (lvA_out hL).2.1
    have HZ : Hid (Below w.heap.size w w) := Below.refl _ _
    clear hs F1 hL
    go_enter Try.func5, Try.ntmps5
    go_wp2_with (first
      | (go_at_call 9; refine (awake_any _).mono ?_; rintro e w1 ⟨rfl, hb1⟩; have B1 : Hid (Below w.heap.size w w1) := hb1; clear hb1)
      | (go_at_call 13; refine (K13.out _ _ (HR.out.below B1.out)).mono ?_; rintro e w2 ⟨rfl, hb2⟩; have B2 : Hid (Below w.heap.size w w2) := bstep B1.out hb2; clear hb2)
      | (go_at_call 11; refine (K11.out _ _ (HR.out.below B2.out)).mono ?_; rintro e w3 ⟨v3, rfl, r3, hb3⟩; obtain ⟨hL9, a3, c3, rfl⟩ := r3.form; have R3 : Hid (Rd w3 (.slice a3 L.length c3) L) := r3; have B3 : Hid (Below w.heap.size w w3) := bstep B2.out hb3; clear r3 hb3))
    go_loopw [6, 7] (fun o i wr => ∃ (k : Nat) (s : ByteArray), k ≤ L.length ∧ o = .string s ∧ i = .int .i64 k ∧ (∀ (j : Nat) c, k = j + 1 → L[j]? = some c → s = loS zs c) ∧ Below w3.heap.size w3 wr) (fun _ i _ => L.length - (intOf i).toNat)
    case atStart => exact ⟨0, _, Nat.zero_le _, rfl, rfl, fun j c hj => by omega, Below.refl _ _⟩
    case round =>
      obtain ⟨k, s, hk, rfl, rfl, hp, hbel⟩ := hrel
      have HB : Hid (Below w3.heap.size w3 wr) := hbel
      have HP : Hid (∀ (j : Nat) c, k = j + 1 → L[j]? = some c → s = loS zs c) := hp
      clear hbel hp
      by_cases hlt : k < L.length
      · have hltI : (k : Int) < (L.length : Int) := by omega
        obtain ⟨x, hx⟩ : ∃ x, L[k]? = some x := ⟨_, List.getElem?_eq_getElem hlt⟩
        obtain ⟨b, off, rfl, hcell⟩ := at_of (R3.out.below HB.out) hx
        obtain ⟨e1, e2, e3⟩ := HG.out k x hx
        have K16 : Hid (∀ W, Rl W (.slice a1 zs.length cap1) zs → Calls Try.prog 16 #[.slice a1 zs.length cap1, .int .i64 x] W fun e w' => e = .returned (.tuple #[.string (loS zs x), .int .i64 0]) ∧ Below W.heap.size W w') := fun W hR => by
          have := low_any _ zs x W hR HF.out
          rwa [e1] at this
        have HRr : Hid (Rl wr (.slice a1 zs.length cap1) zs) := HR.out.below (bstep B3.out HB.out)
        obtain ⟨t, ht⟩ : ∃ t, t = loS zs x := ⟨_, rfl⟩
        have HT : Hid (t = loS zs x) := ht
        have HX : Hid (L[k]? = some x) := hx
        rw [← ht] at e2 e3 K16
        clear ht hx e1
        obtain h0k | ⟨m, hm⟩ : k = 0 ∨ ∃ m, k = m + 1 := by
          cases k with
          | zero => exact .inl rfl
          | succ m => exact .inr ⟨m, rfl⟩
        · have e4 : (t.toList == []) = true := by simpa using e2.2 h0k
          have e5 : ((k : Int) == 0) = true := by simp [h0k]
          have e6 : decide (0 < k) = false := decide_eq_false (by omega)
          clear e3 e2 h0k
          go_wp2_with (first
            | (go_at_call 16; refine (K16.out _ HRr.out).mono ?_; rintro e w4 ⟨rfl, hb4⟩; have B4 : Hid (Below w3.heap.size w3 w4) := bstep HB.out hb4; clear hb4))
          go_loopw [10] (fun i w5 => ∃ j : Nat, j ≤ k ∧ i = .int .i64 j ∧ Below w3.heap.size w3 w5) (fun i _ => k - (intOf i).toNat)
          case atStart => exact ⟨0, Nat.zero_le _, rfl, B4.out⟩
          case round =>
            obtain ⟨j, hj, rfl, hbel⟩ := hrel
            have HC : Hid (Below w3.heap.size w3 wr) := hbel
            clear hbel
            by_cases hjk : j < k
            · have hjkI : (j : Int) < (k : Int) := by omega
              have hjL : (j : Int) < (L.length : Int) := by omega
              obtain ⟨y, hy⟩ : ∃ y, L[j]? = some y := ⟨_, List.getElem?_eq_getElem (by omega)⟩
              obtain ⟨b1, off1, f1, hc1⟩ := at_of (R3.out.below HC.out) HX.out
              cases f1
              obtain ⟨b1, off1, f1, hc2⟩ := at_of (R3.out.below HC.out) hy
              cases f1
              have hcell1 : ∀ p : BW wr, p.w.cell? ⟨b, off + k, none⟩ = some (.int .i64 x) := fun p => (p.b.cell (World.block_lt_of_cell? _ _ hc1)).trans hc1
              have hcell2 : ∀ p : BW wr, p.w.cell? ⟨b, off + j, none⟩ = some (.int .i64 y) := fun p => (p.b.cell (World.block_lt_of_cell? _ _ hc2)).trans hc2
              have hne : (y == x) = false := nodup_ne HN.out HX.out hy hjk
              clear hc1 hc2 hy
              go_wp2
              refine wp_region_bw (by kernel_rfl) (by kernel_rfl) (fun hbw0 => ?_)
              repeat (refine QW.step (fun K hK => ?_); go_simp; refine hK _ ?_; clear hK K)
              refine QW.nil ?_
              rintro ⟨w6, hb6⟩
              dsimp only
              go_wp2
              go_roundw
              case rel => exact ⟨j + 1, by omega, by go_num, bstep HC.out hb6⟩
              case measure => simp [intOf]; omega
            · have hgeJ : ¬ (j : Int) < (k : Int) := by omega
              clear hjk
              go_wp2
              go_roundw
              case rel => exact ⟨k + 1, t, by omega, rfl, by go_num, fun q c hq hc => by obtain rfl : q = k := (by omega); have := HX.out; rw [this] at hc; cases hc; exact HT.out, HC.out⟩
              case measure => simp [intOf]; omega
        · have e4 : (t.toList == []) = false := by
            have : ¬ t.toList = [] := fun h => by have := e2.1 h; omega
            simpa using this
          have e5 : ((k : Int) == 0) = false := by simp; omega
          have e6 : decide (0 < k) = true := decide_eq_true (by omega)
          obtain ⟨c, hc⟩ : ∃ c, L[m]? = some c := ⟨_, List.getElem?_eq_getElem (by omega)⟩
          have hlt2 := e3 m c hm hc
          rw [← HP.out m c hm hc] at hlt2
          have e7 : Op.bytesLess t.toList s.toList = false := bl_asymm hlt2
          have e8 : (t.toList == s.toList) = false := by
            have := bl_ne hlt2
            simpa using fun h => this h.symm
          clear e3 e2 hc hm hlt2
          go_wp2_with (first
            | (go_at_call 16; refine (K16.out _ HRr.out).mono ?_; rintro e w4 ⟨rfl, hb4⟩; have B4 : Hid (Below w3.heap.size w3 w4) := bstep HB.out hb4; clear hb4))
          go_loopw [10] (fun i w5 => ∃ j : Nat, j ≤ k ∧ i = .int .i64 j ∧ Below w3.heap.size w3 w5) (fun i _ => k - (intOf i).toNat)
          case atStart => exact ⟨0, Nat.zero_le _, rfl, B4.out⟩
          case round =>
            obtain ⟨j, hj, rfl, hbel⟩ := hrel
            have HC : Hid (Below w3.heap.size w3 wr) := hbel
            clear hbel
            by_cases hjk : j < k
            · have hjkI : (j : Int) < (k : Int) := by omega
              have hjL : (j : Int) < (L.length : Int) := by omega
              obtain ⟨y, hy⟩ : ∃ y, L[j]? = some y := ⟨_, List.getElem?_eq_getElem (by omega)⟩
              obtain ⟨b1, off1, f1, hc1⟩ := at_of (R3.out.below HC.out) HX.out
              cases f1
              obtain ⟨b1, off1, f1, hc2⟩ := at_of (R3.out.below HC.out) hy
              cases f1
              have hcell1 : ∀ p : BW wr, p.w.cell? ⟨b, off + k, none⟩ = some (.int .i64 x) := fun p => (p.b.cell (World.block_lt_of_cell? _ _ hc1)).trans hc1
              have hcell2 : ∀ p : BW wr, p.w.cell? ⟨b, off + j, none⟩ = some (.int .i64 y) := fun p => (p.b.cell (World.block_lt_of_cell? _ _ hc2)).trans hc2
              have hne : (y == x) = false := nodup_ne HN.out HX.out hy hjk
              clear hc1 hc2 hy
              go_wp2
              refine wp_region_bw (by kernel_rfl) (by kernel_rfl) (fun hbw0 => ?_)
              repeat (refine QW.step (fun K hK => ?_); go_simp; refine hK _ ?_; clear hK K)
              refine QW.nil ?_
              rintro ⟨w6, hb6⟩
              dsimp only
              go_wp2
              go_roundw
              case rel => exact ⟨j + 1, by omega, by go_num, bstep HC.out hb6⟩
              case measure => simp [intOf]; omega
            · have hgeJ : ¬ (j : Int) < (k : Int) := by omega
              clear hjk
              go_wp2
              go_roundw
              case rel => exact ⟨k + 1, t, by omega, rfl, by go_num, fun q c hq hc => by obtain rfl : q = k := (by omega); have := HX.out; rw [this] at hc; cases hc; exact HT.out, HC.out⟩
              case measure => simp [intOf]; omega
      · have hgeI : ¬ (k : Int) < (L.length : Int) := by omega
        go_wp2
        go_ret
        exact ⟨ret_bool rfl, bstep B3.out HB.out⟩
end Go.Proofs.Ytgcdhenbpkcmgaa
