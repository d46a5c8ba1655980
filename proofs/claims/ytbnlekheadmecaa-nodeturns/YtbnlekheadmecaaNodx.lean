/- Walks of layer 9: the document's own Words. -/
import Derived.Test.YtbnlekheadmecaaNods
namespace Go.Proofs.Ytbnlekheadmecaa
open Go.RowKit Go.Shelf
set_option linter.unusedVariables false

/-- Numbers that came in are appended to own ones, in a region that draws. -/
theorem step_ints1 {ops : Array Oper} {o : Oper} {a : Act} {W : World} {K : Act → World → Prop} {Q : Exit → Act → World → Prop} {E : Prop} (hgd : o.guard = none) (s x : Operand)
    (ho : o.op = .call { callee := .builtin .append, args := #[s, x], argTypes := #[22, 22] }) (base g c : Nat) (l1 : List Int) (hs : a.eval s = .slice (some ⟨g, 0, none⟩) l1.length c) (hown : OwnI W base (.slice (some ⟨g, 0, none⟩) l1.length c) l1) (hn : l1.length ≤ 2000) (vx : Value) (l2 : List Int) (hx : a.eval x = vx) (hR : Rd W vx l2)
    (h : ∀ g' cap w', OwnI w' base (.slice (some ⟨g', 0, none⟩) (l1.length + l2.length) cap) (l1 ++ l2) → W.grownBy w' (some g) → K (a.put o.dst (.slice (some ⟨g', 0, none⟩) (l1.length + l2.length) cap)) w') :
    if Region.wanted o (yielded ops a.tmps) = true then Oper.wp Try.prog o a W K Q else E := by
  obtain ⟨i0, hi, hz0, hz1, hz2⟩ := info_parts Try.info3
  have hlt := (World.ownsRow.lt hown g rfl)
  obtain ⟨hl, hk, ad, cap, rfl, -, h3⟩ := hR
  have hw : Region.wanted o (yielded ops a.tmps) = true := by simp [Region.wanted, hgd]
  by_cases h0 : l2.length = 0
  · have : l2 = [] := List.eq_nil_of_length_eq_zero h0
    subst this
    have hown' : OwnI W base (.slice (some ⟨g, 0, none⟩) (l1.length + ([] : List Int).length) c) (l1 ++ []) := by rw [List.append_nil]; exact hown
    cases ad with
    | none =>
      have hc0 : cap = 0 := by
        rcases h3 with ⟨_, h⟩ | ⟨b', off, e, _⟩
        · exact h rfl
        · cases e
      subst hc0
      rw [if_pos hw]
      have hrun := run_append_owned_none (P := Try.prog) (w := W) base 22 o.type 3 i0 1 Try.underlying22 hi _ _ _ hown
      unfold Oper.wp
      have hx' : a.eval x = .slice none 0 0 := hx
      simp [execOp, ho, resolve, invoke, builtin, hs, hx', hrun, Result.andThen]
      exact h g c W hown' (World.grownBy.refl W _)
    | some p =>
      have hroom : l1.length + 0 ≤ c := by
        rcases hown.2 with ⟨e, _⟩ | ⟨g', cap', cur, e, _, _, hnc, _⟩
        · cases e
        · cases e; exact hnc
      refine step_append_room hgd s x 22 ho 3 i0 1 Try.underlying22 hi hz1 g 0 l1.length c hs p 0 cap [] hx (by simp) (by intro j u hu; simp at hu) (by simp) hroom (by intro j hj; simp at hj) ?_
      exact h g c W hown' (World.grownBy.refl W _)
  · rcases h3 with ⟨h4, _⟩ | ⟨b', off, rfl, hlt', hc⟩
    · exact absurd h4 h0
    · refine step_append_lies _ hgd s x 22 ho base 3 i0 _ 1 8 Try.underlying22 hi hz0 hz1 hz2 rfl (by decide) _ l1.length (l1.map (Value.int .i64)) hs hown ⟨b', off, none⟩ l2.length cap (l2.map (Value.int .i64)) hx hl (by intro j u hu; rw [Addr.add_lit]; exact hc j u hu) (ints_one l2) (by omega) (by unfold maxLen; omega) (by omega) (by omega) W.heap.size rfl ?_
      intro g' cap' w' r1 r2 r3 r4
      refine h g' cap' w' ?_ r2
      unfold OwnI
      rw [List.length_append, List.map_append]
      exact r1
def lenV : Value → Nat
  | .slice _ n _ => n
  | _ => 0
/-- The words with so many noughts laid. -/
def stR (hd nx lo : Int) (sl : List Int) (k : Nat) : List Int := hd :: nx :: lo :: (sl ++ List.replicate k 0)
theorem stR_length (hd nx lo : Int) (sl : List Int) (k : Nat) : (stR hd nx lo sl k).length = sl.length + k + 3 := by simp [stR]
theorem stR_next (hd nx lo : Int) (sl : List Int) (k : Nat) : stR hd nx lo sl k ++ [0] = stR hd nx lo sl (k + 1) := by
  unfold stR
  rw [List.replicate_succ']
  simp
theorem SN.below {W W' : World} {g : Nat} {lv tu nx lo : Int} {v : Value} (h : Nb W g lv tu nx lo v) (hb : Below W.heap.size W W') : SN W' g lv tu nx lo v := (h.below hb).sn

set_option maxRecDepth 100000 in
set_option maxHeartbeats 1000000 in
theorem wordsR_node (n : Nd) (v : Value) (w : World) (hR : Rd w v n.sl) : Calls Try.prog 9 #[.agg #[.int .i64 n.lv, .int .i64 n.tu, .int .i64 n.nx, .int .i64 n.lo, v]] w fun e w' => ∃ v', e = .returned (.tuple #[v', .int .i64 (wnE n)]) ∧ Rd w' v' (wnL n) ∧ Below w.heap.size w w' := by
  obtain ⟨lv, tu, nx, lo, sl⟩ := n
  dsimp only at hR ⊢
  obtain ⟨hl, a, cap, rfl⟩ := hR.form
  have HR : Hid (Rd w (.slice a sl.length cap) sl) := hR
  have HB : Hid (Below w.heap.size w (w.alloc (.cells #[.int .i64 lv, .int .i64 tu, .int .i64 nx, .int .i64 lo, .slice a sl.length cap] 24))) := (Below.refl _ _).alloc (Nat.le_refl _) _
  have HN : Hid (Nb (w.alloc (.cells #[.int .i64 lv, .int .i64 tu, .int .i64 nx, .int .i64 lo, .slice a sl.length cap] 24)) w.heap.size lv tu nx lo (.slice a sl.length cap)) := nb_new w lv tu nx lo _
  have k18 : Hid (∀ W, Below w.heap.size w W → Calls Try.prog 18 #[.agg #[.int .i64 lv, .int .i64 tu, .int .i64 nx, .int .i64 lo, .slice a sl.length cap]] W fun e w' => e = .returned (.bool (nnB ⟨lv, tu, nx, lo, sl⟩)) ∧ Below W.heap.size W w') := fun W hb => checkR_node ⟨lv, tu, nx, lo, sl⟩ _ W (HR.out.below hb)
  clear hR
  cases hc : nnB ⟨lv, tu, nx, lo, sl⟩ with
  | false =>
    have H1 : Hid (wnE ⟨lv, tu, nx, lo, sl⟩ = 90) := (wn_no hc).2
    have H2 : Hid (wnL ⟨lv, tu, nx, lo, sl⟩ = []) := (wn_no hc).1
    rw [hc] at k18
    go_enter Try.func9, Try.ntmps9
    go_wp2_with (first
      | (go_at_call 18; refine (k18.out _ HB.out).mono ?_; rintro e w1 ⟨rfl, hb1⟩))
    refine bodyPost_ret (results_tmp2 Try.results9 _ _ _) rfl ?_
    exact ⟨_, by rw [H1.out]; rfl, by rw [H2.out]; exact nil_rd _, bstep HB.out hb1⟩
  | true =>
    have hM := nnB_iff.1 hc
    have H1 : Hid (wnE ⟨lv, tu, nx, lo, sl⟩ = 0) := (wn_yes hc).2
    have H2 : Hid (wnL ⟨lv, tu, nx, lo, sl⟩ = stR (hdI tu lv) nx lo sl (13 - sl.length)) := (wn_yes hc).1
    rw [hc] at k18
    have k25 : Hid (∀ W, Calls Try.prog 25 #[.agg #[.int .i64 lv, .int .i64 tu, .int .i64 nx, .int .i64 lo, .slice a sl.length cap]] W fun e w' => e = .returned (.int .i64 (hdI tu lv)) ∧ Below W.heap.size W w') := fun W => first_any lv tu nx lo _ W hM.l0 hM.l9 hM.t0 hM.t9
    have HL : Hid (sl.length ≤ 13) := hM.len
    generalize hdI tu lv = hd at *
    clear hM hc
    go_enter Try.func9, Try.ntmps9
    go_wp2_with (first
      | (go_at_call 18; refine (k18.out _ HB.out).mono ?_; rintro e w0 ⟨rfl, hb0⟩; have N0 : Hid (Nb w0 w.heap.size lv tu nx lo (.slice a sl.length cap)) := HN.out.below hb0; have H0 : Hid (Below w.heap.size w w0) := bstep HB.out hb0; clear hb0))
    have S0 : Hid (SN w0.drew w.heap.size lv tu nx lo (.slice a sl.length cap)) := SN.below N0.out (Below.refl _ _).drew
    go_region_held3 (fun W2 => W2.cell? ⟨w.heap.size, 0, none⟩ = some (.int .i64 lv) ∧ W2.cell? ⟨w.heap.size, 1, none⟩ = some (.int .i64 tu) ∧ W2.cell? ⟨w.heap.size, 2, none⟩ = some (.int .i64 nx) ∧ W2.cell? ⟨w.heap.size, 3, none⟩ = some (.int .i64 lo) ∧ W2.cell? ⟨w.heap.size, 4, none⟩ = some (.slice a sl.length cap))
      (first | with_reducible exact S0.out | with_reducible exact S1.out | with_reducible exact SA.out | with_reducible exact S2.out)
      (first
        | (go_at_call 25; refine (k25.out _).mono ?_; rintro e w1 ⟨rfl, hb1⟩; have b1 : Hid (Below w0.heap.size w0 w1) := bstep (Below.refl _ _).drew hb1; have S1 : Hid (SN w1 w.heap.size lv tu nx lo (.slice a sl.length cap)) := SN.below N0.out b1.out; have bA : Hid (Below w0.heap.size w0 (w1.alloc (.cells #[.int .i64 hd, .int .i64 nx, .int .i64 lo] 3))) := b1.out.alloc b1.out.size _; have SA : Hid (SN (w1.alloc (.cells #[.int .i64 hd, .int .i64 nx, .int .i64 lo] 3)) w.heap.size lv tu nx lo (.slice a sl.length cap)) := SN.below N0.out bA.out; clear hb1)
        | (refine step_ints1 rfl (.tmp 16) (.tmp 18) rfl w1.heap.size w1.heap.size 3 [hd, nx, lo] rfl (own_lit [hd, nx, lo] rfl (Nat.le_refl _) (by simp)) (by simp) _ sl rfl (HR.out.below (bstep H0.out bA.out)) ?_; intro g' cap' w2 o2 g2; have O2 : Hid (OwnI w2 w1.heap.size (.slice (some ⟨g', 0, none⟩) (3 + sl.length) cap') (hd :: nx :: lo :: sl)) := o2; have b2 : Hid (Below w0.heap.size w0 w2) := bA.out.grown g2 (by have := b1.out.size; simp; omega) (fun k hk => (by cases hk; exact b1.out.size)); have S2 : Hid (SN w2 w.heap.size lv tu nx lo (.slice a sl.length cap)) := SN.below N0.out b2.out; clear o2 g2))
    have HB2 : Hid (Below w.heap.size w w2) := bstep H0.out b2.out
    have HO : Hid (OwnI w2 w1.heap.size (.slice (some ⟨g', 0, none⟩) (3 + sl.length) cap') (stR hd nx lo sl 0)) := (by show OwnI _ _ _ _; unfold stR; rw [List.replicate_zero, List.append_nil]; exact O2.out)
    have hbase : w1.heap.size ≤ w2.heap.size := (by have := b2.out.size; rcases O2.out.2 with ⟨e, _⟩ | ⟨g, c, cur, e, h1, h2, _⟩; · cases e
                                                    · have := (Array.getElem?_eq_some_iff.1 h2).1; omega)
    have HW : Hid (w.heap.size ≤ w1.heap.size) := (by show _ ≤ _; have := b1.out.size; have := H0.out.size; omega)
    have HS : Hid ((stR hd nx lo sl 0).length = 3 + sl.length) := (by show _ = _; rw [stR_length]; omega)
    clear S0 S1 SA S2 O2 b1 bA b2
    rw [show [hd, nx, lo].length = 3 from rfl]
    go_wp2
    go_loopw [5] (fun l w3 => ∃ (k : Nat) (a : Option Addr) (c : Nat), k ≤ 13 - sl.length ∧ l = .slice a (stR hd nx lo sl k).length c ∧ OwnI w3 w1.heap.size (.slice a (stR hd nx lo sl k).length c) (stR hd nx lo sl k) ∧ Below w.heap.size w w3 ∧ w1.heap.size ≤ w3.heap.size) (fun l _ => 16 - lenV l)
    case atStart => exact ⟨0, some ⟨g', 0, none⟩, cap', Nat.zero_le _, by rw [HS.out], by rw [HS.out]; exact HO.out, HB2.out, hbase⟩
    case round =>
      obtain ⟨k, a5, c5, hk, rfl, hO, hB, hs⟩ := hrel
      have HO : Hid (OwnI wr w1.heap.size (.slice a5 (stR hd nx lo sl k).length c5) (stR hd nx lo sl k)) := hO
      have HB2 : Hid (Below w.heap.size w wr) := hB
      have Hn : Hid (stR hd nx lo sl k ++ [0] = stR hd nx lo sl (k + 1)) := stR_next hd nx lo sl k
      have Hl : Hid ((stR hd nx lo sl k).length = sl.length + k + 3 ∧ (stR hd nx lo sl (k + 1)).length = sl.length + (k + 1) + 3) := ⟨stR_length .., stR_length ..⟩
      clear hO hB
      by_cases hlt : k < 13 - sl.length
      · have hltI : ((stR hd nx lo sl k).length : Int) < 16 := (by rw [Hl.out.1]; omega)
        obtain ⟨Z, hZ⟩ : ∃ Z, stR hd nx lo sl k = Z := ⟨_, rfl⟩
        rw [hZ] at HO Hn Hl hltI ⊢
        clear hZ
        go_wp2_with (first
          | (at_builtin; refine append_own_rd rfl (.tmp 23) (.tmp 24) rfl w1.heap.size (.slice a5 Z.length c5) Z rfl (ownI_below HO.out ((Below.refl _ _).alloc (Nat.le_refl _) _)) (.slice (some ⟨wr.heap.size, 0, none⟩) 1 1) [0] rfl (rd_lit [0] rfl (by simp)) (by have := Hl.out.1; omega) (by simp; omega) (stR hd nx lo sl (k + 1)) Hn.out ?_; intro a6 c6 w6 o6 b6; have O6 : Hid (OwnI w6 w1.heap.size (.slice a6 (stR hd nx lo sl (k + 1)).length c6) (stR hd nx lo sl (k + 1))) := o6; have B6 : Hid (Below w.heap.size w w6) := (HB2.out.alloc HB2.out.size _).trans (b6.mono HW.out); have s6 : w1.heap.size ≤ w6.heap.size := (by have := b6.size; simp at this; omega); clear o6 b6))
        go_roundw
        case rel => exact ⟨k + 1, a6, c6, by omega, rfl, O6.out, B6.out, s6⟩
        case measure => show 16 - (stR hd nx lo sl (k + 1)).length < 16 - Z.length; rw [Hl.out.1, Hl.out.2]; omega
      · have hge : ¬ ((stR hd nx lo sl k).length : Int) < 16 := (by rw [Hl.out.1]; have := HL.out; omega)
        have hk2 : Hid (k = 13 - sl.length) := (by show _ = _; omega)
        go_wp2
        refine bodyPost_ret (results_tmp2 Try.results9 _ _ _) rfl ?_
        exact ⟨_, by rw [H1.out]; rfl, by rw [H2.out, ← hk2.out]; exact HO.out.rd (by rw [Hl.out.1]; have := HL.out; omega), HB2.out⟩
end Go.Proofs.Ytbnlekheadmecaa
