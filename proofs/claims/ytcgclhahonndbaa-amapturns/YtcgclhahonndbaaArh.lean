/- Set over from a lower layer: Arh. -/
import Derived.Test.YtcgclhahonndbaaArc
import Derived.Test.YtcgclhahonndbaaArnum
import Derived.Test.YtcgclhahonndbaaFFastd
namespace Go.Proofs.Ytcgclhahonndbaa
open Go.RowKit Go.Shelf
set_option linter.unusedVariables false
/-- What is still to be seen of a leaf's keys behind the first k. -/
def lfX (rc : Int → Option (Int × List UInt8)) (low : List UInt8) (L : List Int) (k : Nat) (s : List UInt8) : Bool := if k = 0 then lfB rc low L else lfN rc s (L.drop k)
theorem drop_at {L : List Int} {k : Nat} {y : Int} (h : L[k]? = some y) : L.drop k = y :: L.drop (k + 1) := by
  obtain ⟨hk, e⟩ := List.getElem?_eq_some_iff.1 h
  rw [List.drop_eq_getElem_cons hk, e]
theorem lfX_none {rc : Int → Option (Int × List UInt8)} {low s : List UInt8} {L : List Int} {k : Nat} {y : Int} (h : L[k]? = some y) (hr : rc y = none) : lfX rc low L k s = false := by
  have hd := drop_at h
  unfold lfX
  split
  · rename_i h0
    subst h0
    rw [List.drop_zero] at hd
    rw [hd]
    simp [lfB, hr]
  · rw [hd]
    simp [lfN, hr]
theorem lfX_some {rc : Int → Option (Int × List UInt8)} {low s key : List UInt8} {L : List Int} {k : Nat} {y kd : Int} (h : L[k]? = some y) (hr : rc y = some (kd, key)) :
    lfX rc low L k s = (decide (kd = 1) && (if k = 0 then !Op.bytesLess key low else Op.bytesLess s key) && lfX rc low L (k + 1) key) := by
  have hd := drop_at h
  unfold lfX
  rw [if_neg (Nat.succ_ne_zero k)]
  split
  · rename_i h0
    subst h0
    rw [List.drop_zero] at hd
    rw [Nat.zero_add] at hd ⊢
    conv => lhs; rw [hd]
    simp [lfB, hr]
  · conv => lhs; rw [hd]
    simp [lfN, hr]
theorem lfX_end {rc : Int → Option (Int × List UInt8)} {low s : List UInt8} {L : List Int} {k : Nat} (h : L.length ≤ k) : lfX rc low L k s = true := by
  unfold lfX
  split
  · have : L = [] := List.eq_nil_of_length_eq_zero (by omega)
    subst this
    rfl
  · rw [List.drop_of_length_le h]
    rfl
theorem plN_sub : ∀ (l : List Int), ∀ s ∈ plN l, s ∈ l
  | [], s, h => h
  | x :: r, s, h => by
    rw [plN_cons] at h
    split at h
    · exact .tail _ (plN_sub r s h)
    · rw [List.mem_cons] at h
      rcases h with rfl | h
      · exact .head _
      · exact .tail _ (plN_sub r s h)
theorem plN_has : ∀ (l : List Int), ∀ s ∈ l, s ∈ plN l
  | [], s, h => h
  | x :: r, s, h => by
    rw [plN_cons]
    rw [List.mem_cons] at h
    split
    · rename_i h2
      rcases h with rfl | h
      · cases r with
        | nil => simp at h2
        | cons y r =>
          have : y = s := by simpa using h2
          subst this
          exact plN_has (y :: r) y (.head _)
      · exact plN_has r s h
    · rcases h with rfl | h
      · exact .head _
      · exact .tail _ (plN_has r s h)
set_option maxRecDepth 100000 in
set_option maxHeartbeats 4000000 in
theorem checkKeys_any (v u : Value) (zs sl : List Int) (low : ByteArray) (w : World) (hR : Rl w v zs) (hF : Fits zs) (hU : Rd w u sl) (hsl : ∀ y ∈ sl, 1 ≤ y ∧ y ≤ 255) : Calls Try.prog 50 #[v, u, .string low] w fun e w' =>
    ((lfB (rcA zs) low.toList (plN sl) = true ∧ e = .returned (.tuple #[])) ∨ (lfB (rcA zs) low.toList (plN sl) = false ∧ e = .panicked [unS])) ∧ Below w.heap.size w w' := by
  have HR : Hid (Rl w v zs) := hR
  have k64 := plain_any u sl w hU
  have K64 : Hid (Calls Try.prog 74 #[u] w fun e w' => ∃ v', e = .returned v' ∧ Rd w' v' (plN sl) ∧ Below w.heap.size w w') := k64
  have HF : Hid (Fits zs) := hF
  have Hsl : Hid (∀ y ∈ plN sl, 1 ≤ y ∧ y ≤ 255) := fun y hy => hsl y (plN_sub sl y hy)
  clear hR hU hsl hF k64
  generalize plN sl = L at *
  go_enter Try.func50, Try.ntmps50
  go_wp2_with (first
    | (go_at_call 74; refine K64.out.mono ?_; rintro e w1 ⟨v1, rfl, r1, hb1⟩; obtain ⟨hl1, a1, c1, rfl⟩ := r1.form))
  have R1 : Hid (Rd w1 (.slice a1 L.length c1) L) := r1
  have B1 : Hid (Below w.heap.size w w1) := hb1
  clear r1 hb1
  go_loopw [6, 14] (fun o i wr => ∃ (k : Nat) (s : ByteArray), k ≤ L.length ∧ o = .string s ∧ i = .int .i64 k ∧ (k = 0 → s = low) ∧ lfX (rcA zs) low.toList L k s.toList = lfB (rcA zs) low.toList L ∧ Below w1.heap.size w1 wr) (fun _ i _ => L.length - (Go.RowKit.intOf i).toNat)
  case atStart => exact ⟨0, low, Nat.zero_le _, rfl, rfl, fun _ => rfl, rfl, Below.refl _ _⟩
  case round =>
    obtain ⟨k, s, hk, rfl, rfl, hs0, hX, hbr⟩ := hrel
    have HX : Hid (lfX (rcA zs) low.toList L k s.toList = lfB (rcA zs) low.toList L) := hX
    have Hs : Hid (k = 0 → s = low) := hs0
    have HBr : Hid (Below w1.heap.size w1 wr) := hbr
    have HRr : Hid (Rl wr v zs) := (HR.out.below B1.out).below hbr
    have R2 := R1.out.below hbr
    clear hs0 hX hbr
    by_cases hlt : k < L.length
    · obtain ⟨b', off', rfl, hcell⟩ := R2.at k hlt
      have hy := Hsl.out _ (List.getElem_mem hlt)
      have hLk := List.getElem?_eq_getElem hlt
      obtain ⟨y, hyk⟩ : ∃ y, L[k] = y := ⟨_, rfl⟩
      rw [hyk] at hcell hy hLk
      have HLk : Hid (L[k]? = some y) := hLk
      have Hy : Hid (-9223372036854775808 ≤ y ∧ y < 9223372036854775808) := show _ ∧ _ by omega
      have hltI : (k : Int) < (L.length : Int) := by omega
      clear hy hyk hLk R2
      by_cases hE : RrdE zs y = 0
      · have k51 := recordOf_ok v zs y wr HRr.out HF.out Hy.out hE
        have hrc := rc_yes hE
        obtain ⟨x, hx⟩ : ∃ x, x = rdX zs y := ⟨_, rfl⟩
        rw [← hx] at k51 hrc
        clear hx hE
        obtain ⟨kd, key, val, ch⟩ := x
        dsimp only at k51 hrc
        have HX2 := lfX_some (low := low.toList) (s := s.toList) HLk.out hrc
        rw [HX.out] at HX2
        have HX2 : Hid (lfB (rcA zs) low.toList L = (decide (kd = 1) && (if k = 0 then !Op.bytesLess key.toList low.toList else Op.bytesLess s.toList key.toList) && lfX (rcA zs) low.toList L (k + 1) key.toList)) := HX2
        have K51 : Hid (Calls Try.prog 56 #[v, .int .i64 y] wr fun e w' => e = .returned (.agg #[.int .i64 kd, .string key, .string val, .int .i64 ch]) ∧ Below wr.heap.size wr w') := k51
        clear k51 hrc
        by_cases hkd : kd = 1
        · subst hkd
          by_cases hk0 : k = 0
          · obtain rfl := Hs.out hk0
            subst hk0
            rw [Nat.add_zero] at hcell
            rw [show ((0 : Nat) : Int) = (0 : Int) from rfl] at hltI ⊢
            cases h1 : Op.bytesLess key.toList s.toList with
            | false =>
              cases h2 : (key.toList == s.toList) with
              | false =>
                have HXn : Hid (lfX (rcA zs) s.toList L (0 + 1) key.toList = lfB (rcA zs) s.toList L) := show _ = _ by rw [HX2.out]; simp [h1]
                have t1 : Hid (0 = 0) := rfl
                have t2 : Hid (0 = 0) := rfl
                go_wp2_with (first
                  | (go_at_call 56; refine K51.out.mono ?_; rintro e w2 ⟨rfl, hb2⟩; have B2 : Hid (Below wr.heap.size wr (w2.alloc (.cells #[.int .i64 1, .string key, .string val, .int .i64 ch] 48))) := hb2.alloc hb2.size _; clear hb2)
                  | (clear t1; go_at_call 49; refine (demand_yes _).mono ?_; rintro e w3 ⟨rfl, hw⟩; rw [hw]; clear hw w3)
                  | (clear t2; go_at_call 49; refine (demand_yes _).mono ?_; rintro e w3 ⟨rfl, hw⟩; rw [hw]; clear hw w3))
                go_roundw
                case rel => exact ⟨0 + 1, key, by omega, rfl, by go_num, fun h => by omega, HXn.out, bstep HBr.out B2.out⟩
                case measure => simp [Go.RowKit.intOf]; omega
              | true =>
                have HXn : Hid (lfX (rcA zs) s.toList L (0 + 1) key.toList = lfB (rcA zs) s.toList L) := show _ = _ by rw [HX2.out]; simp [h1]
                have t1 : Hid (0 = 0) := rfl
                have t2 : Hid (0 = 0) := rfl
                go_wp2_with (first
                  | (go_at_call 56; refine K51.out.mono ?_; rintro e w2 ⟨rfl, hb2⟩; have B2 : Hid (Below wr.heap.size wr (w2.alloc (.cells #[.int .i64 1, .string key, .string val, .int .i64 ch] 48))) := hb2.alloc hb2.size _; clear hb2)
                  | (clear t1; go_at_call 49; refine (demand_yes _).mono ?_; rintro e w3 ⟨rfl, hw⟩; rw [hw]; clear hw w3)
                  | (clear t2; go_at_call 49; refine (demand_yes _).mono ?_; rintro e w3 ⟨rfl, hw⟩; rw [hw]; clear hw w3))
                go_roundw
                case rel => exact ⟨0 + 1, key, by omega, rfl, by go_num, fun h => by omega, HXn.out, bstep HBr.out B2.out⟩
                case measure => simp [Go.RowKit.intOf]; omega
            | true =>
              have h2 : (key.toList == s.toList) = false := by
                cases h2 : (key.toList == s.toList) with
                | false => rfl
                | true => rw [beq_iff_eq] at h2; rw [h2, bl_irrefl] at h1; cases h1
              have D : Hid (lfB (rcA zs) s.toList L = false) := show _ = _ by rw [HX2.out]; simp [h1]
              have t1 : Hid (0 = 0) := rfl
              have t2 : Hid (0 = 0) := rfl
              go_wp2_with (first
                | (go_at_call 56; refine K51.out.mono ?_; rintro e w2 ⟨rfl, hb2⟩; have B2 : Hid (Below wr.heap.size wr (w2.alloc (.cells #[.int .i64 1, .string key, .string val, .int .i64 ch] 48))) := hb2.alloc hb2.size _; clear hb2)
                | (clear t1; go_at_call 49; refine (demand_yes _).mono ?_; rintro e w3 ⟨rfl, hw⟩; rw [hw]; clear hw w3)
                | (clear t2; go_at_call 49; refine (demand_no _).mono ?_; rintro e w3 ⟨rfl, hw⟩; rw [hw]; clear hw w3))
              exact ⟨rfl, .inr ⟨D.out, rfl⟩, bstep B1.out (bstep HBr.out B2.out)⟩
          · have hk0I : ((k : Int) == 0) = false := by simp [hk0]
            have hgt := gt_bl key.toList s.toList
            have Hk0 : Hid (¬ k = 0) := hk0
            clear hk0
            cases h1 : Op.bytesLess key.toList s.toList with
            | false =>
              cases h2 : (key.toList == s.toList) with
              | false =>
                rw [h1, h2] at hgt
                have Hgt : Hid (Op.bytesLess s.toList key.toList = true) := hgt.symm
                clear hgt
                have HXn : Hid (lfX (rcA zs) low.toList L (k + 1) key.toList = lfB (rcA zs) low.toList L) := show _ = _ by rw [HX2.out, if_neg Hk0.out, Hgt.out]; simp
                have t1 : Hid (0 = 0) := rfl
                have t2 : Hid (0 = 0) := rfl
                go_wp2_with (first
                  | (go_at_call 56; refine K51.out.mono ?_; rintro e w2 ⟨rfl, hb2⟩; have B2 : Hid (Below wr.heap.size wr (w2.alloc (.cells #[.int .i64 1, .string key, .string val, .int .i64 ch] 48))) := hb2.alloc hb2.size _; clear hb2)
                  | (clear t1; go_at_call 49; refine (demand_yes _).mono ?_; rintro e w3 ⟨rfl, hw⟩; rw [hw]; clear hw w3)
                  | (clear t2; go_at_call 49; refine (demand_yes _).mono ?_; rintro e w3 ⟨rfl, hw⟩; rw [hw]; clear hw w3))
                go_roundw
                case rel => exact ⟨k + 1, key, by omega, rfl, by go_num, fun h => by omega, HXn.out, bstep HBr.out B2.out⟩
                case measure => simp [Go.RowKit.intOf]; omega
              | true =>
                rw [h1, h2] at hgt
                have Hgt : Hid (Op.bytesLess s.toList key.toList = false) := hgt.symm
                clear hgt
                have D : Hid (lfB (rcA zs) low.toList L = false) := show _ = _ by rw [HX2.out, if_neg Hk0.out, Hgt.out]; simp
                have t1 : Hid (0 = 0) := rfl
                have t2 : Hid (0 = 0) := rfl
                go_wp2_with (first
                  | (go_at_call 56; refine K51.out.mono ?_; rintro e w2 ⟨rfl, hb2⟩; have B2 : Hid (Below wr.heap.size wr (w2.alloc (.cells #[.int .i64 1, .string key, .string val, .int .i64 ch] 48))) := hb2.alloc hb2.size _; clear hb2)
                  | (clear t1; go_at_call 49; refine (demand_yes _).mono ?_; rintro e w3 ⟨rfl, hw⟩; rw [hw]; clear hw w3)
                  | (clear t2; go_at_call 49; refine (demand_no _).mono ?_; rintro e w3 ⟨rfl, hw⟩; rw [hw]; clear hw w3))
                exact ⟨rfl, .inr ⟨D.out, rfl⟩, bstep B1.out (bstep HBr.out B2.out)⟩
            | true =>
              rw [h1] at hgt
              have Hgt : Hid (Op.bytesLess s.toList key.toList = false) := hgt.symm
              clear hgt
              have D : Hid (lfB (rcA zs) low.toList L = false) := show _ = _ by rw [HX2.out, if_neg Hk0.out, Hgt.out]; simp
              have t1 : Hid (0 = 0) := rfl
              have t2 : Hid (0 = 0) := rfl
              go_wp2_with (first
                | (go_at_call 56; refine K51.out.mono ?_; rintro e w2 ⟨rfl, hb2⟩; have B2 : Hid (Below wr.heap.size wr (w2.alloc (.cells #[.int .i64 1, .string key, .string val, .int .i64 ch] 48))) := hb2.alloc hb2.size _; clear hb2)
                | (clear t1; go_at_call 49; refine (demand_yes _).mono ?_; rintro e w3 ⟨rfl, hw⟩; rw [hw]; clear hw w3)
                | (clear t2; go_at_call 49; refine (demand_no _).mono ?_; rintro e w3 ⟨rfl, hw⟩; rw [hw]; clear hw w3))
              exact ⟨rfl, .inr ⟨D.out, rfl⟩, bstep B1.out (bstep HBr.out B2.out)⟩
        · have D : Hid (lfB (rcA zs) low.toList L = false) := show _ = _ by rw [HX2.out]; simp [hkd]
          have hE1 : (kd == 1) = false := by simp [hkd]
          clear hkd
          go_wp2_with (first
            | (go_at_call 56; refine K51.out.mono ?_; rintro e w2 ⟨rfl, hb2⟩; have B2 : Hid (Below wr.heap.size wr (w2.alloc (.cells #[.int .i64 kd, .string key, .string val, .int .i64 ch] 48))) := hb2.alloc hb2.size _; clear hb2)
            | (go_at_call 49; refine (demand_no _).mono ?_; rintro e w3 ⟨rfl, hw⟩; rw [hw]; clear hw w3))
          exact ⟨rfl, .inr ⟨D.out, rfl⟩, bstep B1.out (bstep HBr.out B2.out)⟩
      · have D : Hid (lfB (rcA zs) low.toList L = false) := show _ = _ by rw [← HX.out]; exact lfX_none HLk.out (rc_no hE)
        have k51 := recordOf_bad v zs y wr HRr.out HF.out Hy.out hE
        have K51 : Hid (Calls Try.prog 56 #[v, .int .i64 y] wr fun e w' => e = .panicked [unS] ∧ Below wr.heap.size wr w') := k51
        clear k51 hE
        go_wp2_with (first
          | (go_at_call 56; refine K51.out.mono ?_; rintro e w2 ⟨rfl, hb2⟩))
        exact ⟨rfl, .inr ⟨D.out, rfl⟩, bstep B1.out (bstep HBr.out hb2)⟩
    · have hltI : ¬ (k : Int) < (L.length : Int) := by omega
      have D : Hid (lfB (rcA zs) low.toList L = true) := show _ = _ by rw [← HX.out]; exact lfX_end (by omega)
      clear R2
      go_wp2
      exact ⟨rfl, _, results_none rfl _ _ _, .inl ⟨D.out, rfl⟩, bstep B1.out HBr.out⟩
end Go.Proofs.Ytcgclhahonndbaa
