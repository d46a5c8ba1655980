/- Set over from a lower layer: Arh. · Set over from a lower layer: Ard. · Set over from a lower layer: Are. -/
import Derived.Test.YtcgclhahonndbaaGreatNNumz
import Derived.Test.YtcgclhahonndbaaGreatBase
import Derived.Test.YtcgclhahonndbaaGreatRRech
import Derived.Test.YtcgclhahonndbaaGreatSSumz
import Derived.Test.YtcgclhahonndbaaGreatRKeywalkc
import Derived.Test.YtcgclhahonndbaaGreatArc
import Derived.Test.YtcgclhahonndbaaGreatArnum
import Derived.Test.YtcgclhahonndbaaGreatFFastd
import Derived.Test.YtcgclhahonndbaaGreatNNodp
import Derived.Test.YtcgclhahonndbaaGreatNNodr
import Derived.Lib.SlKeysI
namespace Go.Proofs.YtcgclhahonndbaaGreat
open Go.RowKit Go.Shelf
set_option linter.unusedVariables false
/-- What is still to be seen of a leaf's keys behind the first k. -/
def lfX (rc : Int → Option (Int × List UInt8)) (low : List UInt8) (L : List Int) (k : Nat) (s : List UInt8) : Bool := if k = 0 then lfB rc low L else lfN rc s (L.drop k)
theorem drop_at {L : List Int} {k : Nat} {y : Int} (h : L[k]? = some y) : L.drop k = y :: L.drop (k + 1) := by
  obtain ⟨hk, e⟩ := List.getElem?_eq_some_iff.1 h
  rw [List.drop_eq_getElem_cons hk, e]
theorem lfX_none {rc : Int → Option (Int × List UInt8)} {low s : List UInt8} {L : List Int} {k : Nat} {y : Int} (h : L[k]? = some y) (hr : rc y = none) : lfX rc low L k s = false := by
  have hd := drop_at h
  unfold lfX
  split
  · rename_i h0
    subst h0
    rw [List.drop_zero] at hd
    rw [hd]
    simp [lfB, hr]
  · rw [hd]
    simp [lfN, hr]
theorem lfX_some {rc : Int → Option (Int × List UInt8)} {low s key : List UInt8} {L : List Int} {k : Nat} {y kd : Int} (h : L[k]? = some y) (hr : rc y = some (kd, key)) :
    lfX rc low L k s = (decide (kd = 1) && (if k = 0 then !Op.bytesLess key low else Op.bytesLess s key) && lfX rc low L (k + 1) key) := by
  have hd := drop_at h
  unfold lfX
  rw [if_neg (Nat.succ_ne_zero k)]
  split
  · rename_i h0
    subst h0
    rw [List.drop_zero] at hd
    rw [Nat.zero_add] at hd ⊢
    conv => lhs; rw [hd]
    simp [lfB, hr]
  · conv => lhs; rw [hd]
    simp [lfN, hr]
theorem lfX_end {rc : Int → Option (Int × List UInt8)} {low s : List UInt8} {L : List Int} {k : Nat} (h : L.length ≤ k) : lfX rc low L k s = true := by
  unfold lfX
  split
  · have : L = [] := List.eq_nil_of_length_eq_zero (by omega)
    subst this
    rfl
  · rw [List.drop_of_length_le h]
    rfl
theorem plN_sub : ∀ (l : List Int), ∀ s ∈ plN l, s ∈ l
  | [], s, h => h
  | x :: r, s, h => by
    rw [plN_cons] at h
    split at h
    · exact .tail _ (plN_sub r s h)
    · rw [List.mem_cons] at h
      rcases h with rfl | h
      · exact .head _
      · exact .tail _ (plN_sub r s h)
theorem plN_has : ∀ (l : List Int), ∀ s ∈ l, s ∈ plN l
  | [], s, h => h
  | x :: r, s, h => by
    rw [plN_cons]
    rw [List.mem_cons] at h
    split
    · rename_i h2
      rcases h with rfl | h
      · cases r with
        | nil => simp at h2
        | cons y r =>
          have : y = s := by simpa using h2
          subst this
          exact plN_has (y :: r) y (.head _)
      · exact plN_has r s h
    · rcases h with rfl | h
      · exact .head _
      · exact .tail _ (plN_has r s h)
set_option maxRecDepth 100000 in
set_option maxHeartbeats 4000000 in
theorem checkKeys_any (v u : Value) (zs sl : List Int) (low : ByteArray) (w : World) (hR : Rl w v zs) (hF : Fits zs) (hU : Rd w u sl) (hsl : ∀ y ∈ sl, 1 ≤ y ∧ y ≤ 255) : Calls Tryz.prog 88 #[v, u, .string low] w fun e w' =>
    ((lfB (rcA zs) low.toList (plN sl) = true ∧ e = .returned (.tuple #[])) ∨ (lfB (rcA zs) low.toList (plN sl) = false ∧ e = .panicked [unS])) ∧ Below w.heap.size w w' := by
  have HR : Hid (Rl w v zs) := hR
  have k64 := plain_any u sl w hU
  have K64 : Hid (Calls Tryz.prog 95 #[u] w fun e w' => ∃ v', e = .returned v' ∧ Rd w' v' (plN sl) ∧ Below w.heap.size w w') := k64
  have HF : Hid (Fits zs) := hF
  have Hsl : Hid (∀ y ∈ plN sl, 1 ≤ y ∧ y ≤ 255) := fun y hy => hsl y (plN_sub sl y hy)
  clear hR hU hsl hF k64
  generalize plN sl = L at *
  go_enter Tryz.func88, Tryz.ntmps88
  go_wp2_with (first
    | (go_at_call 95; refine K64.out.mono ?_; rintro e w1 ⟨v1, rfl, r1, hb1⟩; obtain ⟨hl1, a1, c1, rfl⟩ := r1.form))
  have R1 : Hid (Rd w1 (.slice a1 L.length c1) L) := r1
  have B1 : Hid (Below w.heap.size w w1) := hb1
  clear r1 hb1
  go_loopw [6, 14] (fun o i wr => ∃ (k : Nat) (s : ByteArray), k ≤ L.length ∧ o = .string s ∧ i = .int .i64 k ∧ (k = 0 → s = low) ∧ lfX (rcA zs) low.toList L k s.toList = lfB (rcA zs) low.toList L ∧ Below w1.heap.size w1 wr) (fun _ i _ => L.length - (Go.RowKit.intOf i).toNat)
  case atStart => exact ⟨0, low, Nat.zero_le _, rfl, rfl, fun _ => rfl, rfl, Below.refl _ _⟩
  case round =>
    obtain ⟨k, s, hk, rfl, rfl, hs0, hX, hbr⟩ := hrel
    have HX : Hid (lfX (rcA zs) low.toList L k s.toList = lfB (rcA zs) low.toList L) := hX
    have Hs : Hid (k = 0 → s = low) := hs0
    have HBr : Hid (Below w1.heap.size w1 wr) := hbr
    have HRr : Hid (Rl wr v zs) := (HR.out.below B1.out).below hbr
    have R2 := R1.out.below hbr
    clear hs0 hX hbr
    by_cases hlt : k < L.length
    · obtain ⟨b', off', rfl, hcell⟩ := R2.at k hlt
      have hy := Hsl.out _ (List.getElem_mem hlt)
      have hLk := List.getElem?_eq_getElem hlt
      obtain ⟨y, hyk⟩ : ∃ y, L[k] = y := ⟨_, rfl⟩
      rw [hyk] at hcell hy hLk
      have HLk : Hid (L[k]? = some y) := hLk
      have Hy : Hid (-9223372036854775808 ≤ y ∧ y < 9223372036854775808) := show _ ∧ _ by omega
      have hltI : (k : Int) < (L.length : Int) := by omega
      clear hy hyk hLk R2
      by_cases hE : RrdE zs y = 0
      · have k51 := recordOf_ok v zs y wr HRr.out HF.out Hy.out hE
        have hrc := rc_yes hE
        obtain ⟨x, hx⟩ : ∃ x, x = rdX zs y := ⟨_, rfl⟩
        rw [← hx] at k51 hrc
        clear hx hE
        obtain ⟨kd, key, val, ch⟩ := x
        dsimp only at k51 hrc
        have HX2 := lfX_some (low := low.toList) (s := s.toList) HLk.out hrc
        rw [HX.out] at HX2
        have HX2 : Hid (lfB (rcA zs) low.toList L = (decide (kd = 1) && (if k = 0 then !Op.bytesLess key.toList low.toList else Op.bytesLess s.toList key.toList) && lfX (rcA zs) low.toList L (k + 1) key.toList)) := HX2
        have K51 : Hid (Calls Tryz.prog 111 #[v, .int .i64 y] wr fun e w' => e = .returned (.agg #[.int .i64 kd, .string key, .string val, .int .i64 ch]) ∧ Below wr.heap.size wr w') := k51
        clear k51 hrc
        by_cases hkd : kd = 1
        · subst hkd
          by_cases hk0 : k = 0
          · obtain rfl := Hs.out hk0
            subst hk0
            rw [Nat.add_zero] at hcell
            rw [show ((0 : Nat) : Int) = (0 : Int) from rfl] at hltI ⊢
            cases h1 : Op.bytesLess key.toList s.toList with
            | false =>
              cases h2 : (key.toList == s.toList) with
              | false =>
                have HXn : Hid (lfX (rcA zs) s.toList L (0 + 1) key.toList = lfB (rcA zs) s.toList L) := show _ = _ by rw [HX2.out]; simp [h1]
                have t1 : Hid (0 = 0) := rfl
                have t2 : Hid (0 = 0) := rfl
                go_wp2_with (first
                  | (go_at_call 111; refine K51.out.mono ?_; rintro e w2 ⟨rfl, hb2⟩; have B2 : Hid (Below wr.heap.size wr (w2.alloc (.cells #[.int .i64 1, .string key, .string val, .int .i64 ch] 40))) := hb2.alloc hb2.size _; clear hb2)
                  | (clear t1; go_at_call 86; refine (demand_yes _).mono ?_; rintro e w3 ⟨rfl, hw⟩; rw [hw]; clear hw w3)
                  | (clear t2; go_at_call 86; refine (demand_yes _).mono ?_; rintro e w3 ⟨rfl, hw⟩; rw [hw]; clear hw w3))
                go_roundw
                case rel => exact ⟨0 + 1, key, by omega, rfl, by go_num, fun h => by omega, HXn.out, bstep HBr.out B2.out⟩
                case measure => simp [Go.RowKit.intOf]; omega
              | true =>
                have HXn : Hid (lfX (rcA zs) s.toList L (0 + 1) key.toList = lfB (rcA zs) s.toList L) := show _ = _ by rw [HX2.out]; simp [h1]
                have t1 : Hid (0 = 0) := rfl
                have t2 : Hid (0 = 0) := rfl
                go_wp2_with (first
                  | (go_at_call 111; refine K51.out.mono ?_; rintro e w2 ⟨rfl, hb2⟩; have B2 : Hid (Below wr.heap.size wr (w2.alloc (.cells #[.int .i64 1, .string key, .string val, .int .i64 ch] 40))) := hb2.alloc hb2.size _; clear hb2)
                  | (clear t1; go_at_call 86; refine (demand_yes _).mono ?_; rintro e w3 ⟨rfl, hw⟩; rw [hw]; clear hw w3)
                  | (clear t2; go_at_call 86; refine (demand_yes _).mono ?_; rintro e w3 ⟨rfl, hw⟩; rw [hw]; clear hw w3))
                go_roundw
                case rel => exact ⟨0 + 1, key, by omega, rfl, by go_num, fun h => by omega, HXn.out, bstep HBr.out B2.out⟩
                case measure => simp [Go.RowKit.intOf]; omega
            | true =>
              have h2 : (key.toList == s.toList) = false := by
                cases h2 : (key.toList == s.toList) with
                | false => rfl
                | true => rw [beq_iff_eq] at h2; rw [h2, bl_irrefl] at h1; cases h1
              have D : Hid (lfB (rcA zs) s.toList L = false) := show _ = _ by rw [HX2.out]; simp [h1]
              have t1 : Hid (0 = 0) := rfl
              have t2 : Hid (0 = 0) := rfl
              go_wp2_with (first
                | (go_at_call 111; refine K51.out.mono ?_; rintro e w2 ⟨rfl, hb2⟩; have B2 : Hid (Below wr.heap.size wr (w2.alloc (.cells #[.int .i64 1, .string key, .string val, .int .i64 ch] 40))) := hb2.alloc hb2.size _; clear hb2)
                | (clear t1; go_at_call 86; refine (demand_yes _).mono ?_; rintro e w3 ⟨rfl, hw⟩; rw [hw]; clear hw w3)
                | (clear t2; go_at_call 86; refine (demand_no _).mono ?_; rintro e w3 ⟨rfl, hw⟩; rw [hw]; clear hw w3))
              exact ⟨rfl, .inr ⟨D.out, rfl⟩, bstep B1.out (bstep HBr.out B2.out)⟩
          · have hk0I : ((k : Int) == 0) = false := by simp [hk0]
            have hgt := gt_bl key.toList s.toList
            have Hk0 : Hid (¬ k = 0) := hk0
            clear hk0
            cases h1 : Op.bytesLess key.toList s.toList with
            | false =>
              cases h2 : (key.toList == s.toList) with
              | false =>
                rw [h1, h2] at hgt
                have Hgt : Hid (Op.bytesLess s.toList key.toList = true) := hgt.symm
                clear hgt
                have HXn : Hid (lfX (rcA zs) low.toList L (k + 1) key.toList = lfB (rcA zs) low.toList L) := show _ = _ by rw [HX2.out, if_neg Hk0.out, Hgt.out]; simp
                have t1 : Hid (0 = 0) := rfl
                have t2 : Hid (0 = 0) := rfl
                go_wp2_with (first
                  | (go_at_call 111; refine K51.out.mono ?_; rintro e w2 ⟨rfl, hb2⟩; have B2 : Hid (Below wr.heap.size wr (w2.alloc (.cells #[.int .i64 1, .string key, .string val, .int .i64 ch] 40))) := hb2.alloc hb2.size _; clear hb2)
                  | (clear t1; go_at_call 86; refine (demand_yes _).mono ?_; rintro e w3 ⟨rfl, hw⟩; rw [hw]; clear hw w3)
                  | (clear t2; go_at_call 86; refine (demand_yes _).mono ?_; rintro e w3 ⟨rfl, hw⟩; rw [hw]; clear hw w3))
                go_roundw
                case rel => exact ⟨k + 1, key, by omega, rfl, by go_num, fun h => by omega, HXn.out, bstep HBr.out B2.out⟩
                case measure => simp [Go.RowKit.intOf]; omega
              | true =>
                rw [h1, h2] at hgt
                have Hgt : Hid (Op.bytesLess s.toList key.toList = false) := hgt.symm
                clear hgt
                have D : Hid (lfB (rcA zs) low.toList L = false) := show _ = _ by rw [HX2.out, if_neg Hk0.out, Hgt.out]; simp
                have t1 : Hid (0 = 0) := rfl
                have t2 : Hid (0 = 0) := rfl
                go_wp2_with (first
                  | (go_at_call 111; refine K51.out.mono ?_; rintro e w2 ⟨rfl, hb2⟩; have B2 : Hid (Below wr.heap.size wr (w2.alloc (.cells #[.int .i64 1, .string key, .string val, .int .i64 ch] 40))) := hb2.alloc hb2.size _; clear hb2)
                  | (clear t1; go_at_call 86; refine (demand_yes _).mono ?_; rintro e w3 ⟨rfl, hw⟩; rw [hw]; clear hw w3)
                  | (clear t2; go_at_call 86; refine (demand_no _).mono ?_; rintro e w3 ⟨rfl, hw⟩; rw [hw]; clear hw w3))
                exact ⟨rfl, .inr ⟨D.out, rfl⟩, bstep B1.out (bstep HBr.out B2.out)⟩
            | true =>
              rw [h1] at hgt
              have Hgt : Hid (Op.bytesLess s.toList key.toList = false) := hgt.symm
              clear hgt
              have D : Hid (lfB (rcA zs) low.toList L = false) := show _ = _ by rw [HX2.out, if_neg Hk0.out, Hgt.out]; simp
              have t1 : Hid (0 = 0) := rfl
              have t2 : Hid (0 = 0) := rfl
              go_wp2_with (first
                | (go_at_call 111; refine K51.out.mono ?_; rintro e w2 ⟨rfl, hb2⟩; have B2 : Hid (Below wr.heap.size wr (w2.alloc (.cells #[.int .i64 1, .string key, .string val, .int .i64 ch] 40))) := hb2.alloc hb2.size _; clear hb2)
                | (clear t1; go_at_call 86; refine (demand_yes _).mono ?_; rintro e w3 ⟨rfl, hw⟩; rw [hw]; clear hw w3)
                | (clear t2; go_at_call 86; refine (demand_no _).mono ?_; rintro e w3 ⟨rfl, hw⟩; rw [hw]; clear hw w3))
              exact ⟨rfl, .inr ⟨D.out, rfl⟩, bstep B1.out (bstep HBr.out B2.out)⟩
        · have D : Hid (lfB (rcA zs) low.toList L = false) := show _ = _ by rw [HX2.out]; simp [hkd]
          have hE1 : (kd == 1) = false := by simp [hkd]
          clear hkd
          go_wp2_with (first
            | (go_at_call 111; refine K51.out.mono ?_; rintro e w2 ⟨rfl, hb2⟩; have B2 : Hid (Below wr.heap.size wr (w2.alloc (.cells #[.int .i64 kd, .string key, .string val, .int .i64 ch] 40))) := hb2.alloc hb2.size _; clear hb2)
            | (go_at_call 86; refine (demand_no _).mono ?_; rintro e w3 ⟨rfl, hw⟩; rw [hw]; clear hw w3))
          exact ⟨rfl, .inr ⟨D.out, rfl⟩, bstep B1.out (bstep HBr.out B2.out)⟩
      · have D : Hid (lfB (rcA zs) low.toList L = false) := show _ = _ by rw [← HX.out]; exact lfX_none HLk.out (rc_no hE)
        have k51 := recordOf_bad v zs y wr HRr.out HF.out Hy.out hE
        have K51 : Hid (Calls Tryz.prog 111 #[v, .int .i64 y] wr fun e w' => e = .panicked [unS] ∧ Below wr.heap.size wr w') := k51
        clear k51 hE
        go_wp2_with (first
          | (go_at_call 111; refine K51.out.mono ?_; rintro e w2 ⟨rfl, hb2⟩))
        exact ⟨rfl, .inr ⟨D.out, rfl⟩, bstep B1.out (bstep HBr.out hb2)⟩
    · have hltI : ¬ (k : Int) < (L.length : Int) := by omega
      have D : Hid (lfB (rcA zs) low.toList L = true) := show _ = _ by rw [← HX.out]; exact lfX_end (by omega)
      clear R2
      go_wp2
      exact ⟨rfl, _, results_none rfl _ _ _, .inl ⟨D.out, rfl⟩, bstep B1.out HBr.out⟩
end Go.Proofs.YtcgclhahonndbaaGreat
namespace Go.Proofs.YtcgclhahonndbaaGreat
open Go.RowKit Go.Maps
set_option linter.unusedVariables false
/-- A set: its block, and what was put into it, one behind the other. -/
def St (W : World) (b : Nat) (l : List Int) : Prop := ∃ D : DataW Unit, W.ownsMap Tryz.prog 3 unitElem b l.length D ∧ ∀ x : Int, has D (.int .i64 x) = decide (x ∈ l)
/-- A block that is a map. -/
def Ma (W : World) (b : Nat) : Prop := ∃ es ck, W.heap[b]? = some (.map es ck)
theorem St.ma {W : World} {b : Nat} {l : List Int} (h : St W b l) : Ma W b := by
  obtain ⟨D, ⟨es, ck, hb, _⟩, _⟩ := h
  exact ⟨es, ck, hb⟩
theorem Ma.lt {W : World} {b : Nat} (h : Ma W b) : b < W.heap.size := by
  obtain ⟨es, ck, hb⟩ := h
  exact (Array.getElem?_eq_some_iff.1 hb).1
theorem St.lt {W : World} {b : Nat} {l : List Int} (h : St W b l) : b < W.heap.size := h.ma.lt
theorem St.same {W W' : World} {b : Nat} {l : List Int} (h : St W b l) (e : W'.heap[b]? = W.heap[b]?) : St W' b l := by
  obtain ⟨D, ⟨es, ck, hb, h2⟩, h3⟩ := h
  exact ⟨D, ⟨es, ck, e.trans hb, h2⟩, h3⟩
theorem St.belowN {W W' : World} {b n : Nat} {l : List Int} (h : St W b l) (hb : Below n W W') (hn : b < n) : St W' b l := h.same (hb.block b hn)
theorem St.below {W W' : World} {b : Nat} {l : List Int} (h : St W b l) (hb : Below W.heap.size W W') : St W' b l := h.belowN hb h.lt
theorem st_new (W : World) : St (W.alloc (.map #[] 0)) W.heap.size [] := ⟨.map [], World.ownsMap_made W Tryz.prog 3 unitElem, fun x => by simp [has]⟩
theorem key_int {x : Int} (hx : -9223372036854775808 ≤ x ∧ x < 9223372036854775808) : keyOf Tryz.prog 3 (.int .i64 x) = some (.int .i64 x) := keyOf_int_mk Tryz.underlying3 (by simp [Lit.wf, IntKind.min, IntKind.max, IntKind.bits, IntKind.signed]; omega)
theorem has_next {D : DataW Unit} {l : List Int} {x : Int} (hD : IsMap D) (h : ∀ y : Int, has D (.int .i64 y) = decide (y ∈ l)) (d : DataW Unit) : ∀ y : Int, has (D.put (.int .i64 x) d) (.int .i64 y) = decide (y ∈ l ++ [x]) := by
  intro y
  by_cases e : y = x
  · subst e
    rw [has_put_same hD (by simp [WideAt.IsKeyLit])]
    simp
  · rw [has_put_other (fun h => e (by cases h; rfl)), h y]
    simp [e]
theorem zero117 (w : World) : (zeroValue 117).run Tryz.prog w = .ok (.agg #[]) w := by kernel_rfl
/-- What is another world but for two blocks. -/
structure Tn (b c : Nat) (w w' : World) : Prop where
  os : w'.os = w.os
  tape : w'.tape = w.tape
  output : w'.output = w.output
  size : w.heap.size ≤ w'.heap.size
  block : ∀ k, k < w.heap.size → k ≠ b → k ≠ c → w'.heap[k]? = w.heap[k]?
theorem Tn.refl (b c : Nat) (w : World) : Tn b c w w := ⟨rfl, rfl, rfl, Nat.le_refl _, fun _ _ _ _ => rfl⟩
theorem Tn.trans {b c : Nat} {u v w : World} (h : Tn b c u v) (k : Tn b c v w) : Tn b c u w :=
  ⟨k.os.trans h.os, k.tape.trans h.tape, k.output.trans h.output, Nat.le_trans h.size k.size, fun i hi h1 h2 => (k.block i (Nat.lt_of_lt_of_le hi h.size) h1 h2).trans (h.block i hi h1 h2)⟩
theorem Tn.below {b c n : Nat} {w w' : World} (h : Tn b c w w') (hb : n ≤ b) (hc : n ≤ c) (hn : n ≤ w.heap.size) : Below n w w' := ⟨h.os, h.tape, h.output, h.size, fun i hi => h.block i (by omega) (by omega) (by omega)⟩
theorem Tn.of_grown {b c : Nat} {w w' : World} (h : w.grownBy w' (some b)) : Tn b c w w' := ⟨h.os, h.tape, h.output, h.size, fun i hi h1 _ => h.block i hi (fun e => h1 (Option.some.inj e))⟩
/-- Cells that are there are in no map. -/
theorem Ma.no_cell {W : World} {b : Nat} (h : Ma W b) {p : Addr} {v : Value} (hv : W.cell? p = some v) : p.block ≠ b := by
  obtain ⟨es, ck, hb⟩ := h
  intro e
  subst e
  simp [World.cell?, hb] at hv
theorem Ma.no_cells {W : World} {b k : Nat} (h : Ma W b) {cs : Array Value} {T : TypeId} {f : Nat × Nat} (hv : W.heap[k]? = some (.cells cs T f)) : k ≠ b := by
  obtain ⟨es, ck, hb⟩ := h
  rintro rfl
  rw [hb] at hv
  cases hv
theorem Tn.cell {b c : Nat} {w w' : World} (h : Tn b c w w') (hb : Ma w b) (hc : Ma w c) {p : Addr} {v : Value} (hv : w.cell? p = some v) : w'.cell? p = some v := by
  have hlt : p.block < w.heap.size := World.block_lt_of_cell? w p hv
  exact (World.cell?_of_block (h.block p.block hlt (hb.no_cell hv) (hc.no_cell hv))).trans hv
theorem Tn.cells {b c k : Nat} {w w' : World} (h : Tn b c w w') (hb : Ma w b) (hc : Ma w c) {cs : Array Value} {T : TypeId} {f : Nat × Nat} (hv : w.heap[k]? = some (.cells cs T f)) : w'.heap[k]? = some (.cells cs T f) :=
  (h.block k (Array.getElem?_eq_some_iff.1 hv).1 (hb.no_cells hv) (hc.no_cells hv)).trans hv
theorem RdC.tn {W W' : World} {b c size : Nat} {v : Value} {n : Nat} {xs : List Value} (h : RdC W size v n xs) (ht : Tn b c W W') (hb : Ma W b) (hc : Ma W c) : RdC W' size v n xs := by
  obtain ⟨h1, h2, a, cap, e, h0, h3⟩ := h
  refine ⟨h1, h2, a, cap, e, h0, ?_⟩
  rcases h3 with h | ⟨g, off, e2, hlt, hcell⟩
  · exact .inl h
  · exact .inr ⟨g, off, e2, Nat.lt_of_lt_of_le hlt ht.size, fun j u hj => ht.cell hb hc (hcell j u hj)⟩
theorem Rd.tn {W W' : World} {b c : Nat} {v : Value} {zs : List Int} (h : Rd W v zs) (ht : Tn b c W W') (hb : Ma W b) (hc : Ma W c) : Rd W' v zs := RdC.tn h ht hb hc
theorem Rl.tn {W W' : World} {b c : Nat} {v : Value} {zs : List Int} (h : Rl W v zs) (ht : Tn b c W W') (hb : Ma W b) (hc : Ma W c) : Rl W' v zs := by
  obtain ⟨h2, a, cap, e, h0, h3⟩ := h
  refine ⟨h2, a, cap, e, h0, ?_⟩
  rcases h3 with h | ⟨g, off, e2, hlt, hcell⟩
  · exact .inl h
  · exact .inr ⟨g, off, e2, Nat.lt_of_lt_of_le hlt ht.size, fun j u hj => ht.cell hb hc (hcell j u hj)⟩
theorem own_tn {W W' : World} {b c base : Nat} {e : TypeId} {size : Nat} {v : Value} {n : Nat} {xs : List Value} (h : W.ownsRow base e size v n xs) (ht : Tn b c W W') (hb : Ma W b) (hc : Ma W c) : W'.ownsRow base e size v n xs := by
  refine ⟨h.1, ?_⟩
  rcases h.2 with h | ⟨g, cap, cur, e1, h2, h3, rest⟩
  · exact .inl h
  · exact .inr ⟨g, cap, cur, e1, h2, ht.cells hb hc h3, rest⟩
theorem Nb.tn {W W' : World} {b c g : Nat} {lv tu nx lo : Int} {v : Value} (h : Nb W g lv tu nx lo v) (ht : Tn b c W W') (hb : Ma W b) (hc : Ma W c) : Nb W' g lv tu nx lo v := ht.cells hb hc h
theorem Cl.tn {W W' : World} {b c g : Nat} {x : Value} {T : TypeId} (h : Cl W g x T) (ht : Tn b c W W') (hb : Ma W b) (hc : Ma W c) : Cl W' g x T := ht.cells hb hc h
theorem St.tn {W W' : World} {b c g : Nat} {l : List Int} (h : St W g l) (ht : Tn b c W W') (h1 : g ≠ b) (h2 : g ≠ c) : St W' g l := h.same (ht.block g h.lt h1 h2)
set_option maxRecDepth 100000 in
set_option maxHeartbeats 1000000 in
theorem has_any (b : Nat) (l : List Int) (x : Int) (w : World) (h : St w b l) (hx : -9223372036854775808 ≤ x ∧ x < 9223372036854775808) : Calls Tryz.prog 92 #[.map (some b), .int .i64 x] w fun e w' => e = .returned (.bool (decide (x ∈ l))) ∧ Below w.heap.size w w' := by
  obtain ⟨D, hown, hD⟩ := h
  have hk := key_int hx
  have hh := hD x
  have Hown : Hid (w.ownsMap Tryz.prog 3 unitElem b l.length D) := hown
  clear hD hx hown
  have B0 : Hid (Below w.heap.size w (w.alloc (.cells #[] 117))) := (Below.refl _ _).alloc (Nat.le_refl _) _
  generalize decide (x ∈ l) = t at *
  go_enter Tryz.func92, Tryz.ntmps92
  go_wp2_with (first
    | (at_lookup; refine wpList_lookup_own_unit _ rfl _ _ 123 rfl 3 117 (int_keyed Tryz.underlying3) Tryz.underlying123 (zero117 _) b l.length D rfl Hown.out _ _ rfl hk ?_; rw [hh]))
  exact bodyPost_ret (results_tmp rfl _ _ _) rfl ⟨rfl, B0.out⟩
set_option maxRecDepth 100000 in
set_option maxHeartbeats 1000000 in
theorem put_any (b c : Nat) (l : List Int) (x : Int) (w : World) (h : St w b l) (hl : l.length ≤ 100000) (hx : -9223372036854775808 ≤ x ∧ x < 9223372036854775808) : Calls Tryz.prog 93 #[.map (some b), .int .i64 x] w fun e w' => e = .returned (.tuple #[]) ∧ St w' b (l ++ [x]) ∧ Tn b c w w' := by
  obtain ⟨D, hown, hD⟩ := h
  have hk := key_int hx
  have Hh : Hid (∀ y : Int, has (D.put (.int .i64 x) (.agg [])) (.int .i64 y) = decide (y ∈ l ++ [x])) := has_next hown.isMap hD _
  have Hown : Hid (w.ownsMap Tryz.prog 3 unitElem b l.length D) := hown
  clear hD hx hown
  go_enter Tryz.func93, Tryz.ntmps93
  go_wp2_with (first
    | (at_mapUpdate; refine wpList_mapUpdate_own _ rfl _ _ _ 123 rfl 3 117 (int_keyed Tryz.underlying3) Tryz.underlying123 _ b l.length _ rfl Hown.out (by unfold maxLen; omega) _ _ _ rfl rfl hk _ [] unitElem_mk ?_; intro w1 hown1 hgrow1))
  exact ⟨rfl, _, results_none rfl _ _ _, rfl, ⟨_, by rw [List.length_append]; exact hown1, Hh.out⟩, Tn.of_grown hgrow1⟩
end Go.Proofs.YtcgclhahonndbaaGreat
namespace Go.Proofs.YtcgclhahonndbaaGreat
open Go.RowKit
set_option linter.unusedVariables false
theorem Tn.wide {b c : Nat} {w w' : World} (h : Tn b b w w') : Tn b c w w' := ⟨h.os, h.tape, h.output, h.size, fun k hk h1 _ => h.block k hk h1 h1⟩
theorem Ma.tn {W W' : World} {b c d : Nat} (h : Ma W d) (ht : Tn b c W W') (h1 : d ≠ b) (h2 : d ≠ c) : Ma W' d := by
  obtain ⟨es, ck, hb⟩ := h
  exact ⟨es, ck, (ht.block d (Array.getElem?_eq_some_iff.1 hb).1 h1 h2).trans hb⟩
theorem Ma.below {W W' : World} {d : Nat} (h : Ma W d) (hb : Below W.heap.size W W') : Ma W' d := by
  have hl := h.lt
  obtain ⟨es, ck, h2⟩ := h
  exact ⟨es, ck, (hb.block d hl).trans h2⟩
/-- What is reached of a node. -/
def rcN (n : Nd) (x : Int) : List Int := x :: ((if n.lo = 0 then [] else [n.lo]) ++ n.sl)
end Go.Proofs.YtcgclhahonndbaaGreat
