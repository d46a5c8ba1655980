/- Walks of layer 10: the document's Take: what is read is appended to an empty row, in a region that draws its order. -/
import Derived.Test.YtpfbnfnlbjjjoaaTake
import Derived.Deep.AppendSrc
import Derived.Deep.Upon
namespace Go.Proofs.Ytpfbnfnlbjjjoaa
open Go.RowKit
set_option linter.unusedVariables false

/-- What is read, appended to a row without room: a row of its own. -/
theorem run_clone (p : Addr) (v : Value) (zs : List Int) (W : World) (hR : Rd W v zs) (ty : TypeId) : ∃ v' W', (Builtin.append_ #[22, 22] ty #[.slice (some p) 0 0, v]).run Try.prog W = .ok v' W' ∧ Rd W' v' zs ∧ Below W.heap.size W W' := by
  obtain ⟨i0, hi0, hz0, hz1, hz2⟩ := info_parts Try.info3
  obtain ⟨h1, h2, a, cap, rfl, hcap, h3⟩ := hR
  by_cases h0 : zs.length = 0
  · have hz : zs = [] := List.eq_nil_of_length_eq_zero h0
    subst hz
    have hsrc : Src Try.prog i0.size 22 (.slice a 0 cap) 0 [] W := by
      cases a with
      | none => exact Src.ofNil W Try.underlying22 cap
      | some q => exact Src.ofSlice W Try.underlying22 q 0 cap [] (by simp) (by intro j u hu; simp at hu) (by simp)
    refine ⟨_, _, run_append_nothing W 22 22 ty 3 i0 Try.underlying22 hi0 (some p) 0 0 (Nat.le_refl _) _ hsrc, ?_, Below.refl _ _⟩
    exact ⟨by simp, by simp, some p, 0, rfl, Nat.le_refl _, .inl ⟨rfl, fun h => by cases h⟩⟩
  · obtain ⟨b, off, rfl, hlt, hc⟩ : ∃ b off, a = some ⟨b, off, none⟩ ∧ b < W.heap.size ∧ ∀ j u, (zs.map (Value.int .i64))[j]? = some u → W.cell? ⟨b, off + j, none⟩ = some u := by
      rcases h3 with ⟨h, _⟩ | h
      · exact absurd h h0
      · exact h
    have hsrc : Src Try.prog i0.size 22 (.slice (some ⟨b, off, none⟩) zs.length cap) zs.length (zs.map (Value.int .i64)) W := by
      rw [hz1]
      exact Src.ofSlice W Try.underlying22 ⟨b, off, none⟩ zs.length cap _ (by simp) (fun j u hj => by rw [Addr.add_lit]; exact hc j u hj) (ints_one zs)
    have hold : (Builtin.firstCells i0.size 0 (.slice (some p) 0 0)).run Try.prog W.drew = .ok ([] : List Value).toArray W.drew := by
      rw [hz1]
      exact run_firstCells_some W.drew 1 0 p 0 0 [] (by simp) (by intro j v hv; simp at hv)
    have hrun := run_append_grow_src W 22 22 ty 3 i0 _ Try.underlying22 hi0 hz0 (some p) 0 0 [] hold _ zs.length _ hsrc (by omega) (by omega) (by rw [hz2]; exact growslice_fits (by omega) (by omega))
    refine ⟨_, _, hrun, ?_, ((Below.refl _ _).drew).alloc (Nat.le_refl _) _⟩
    have hge := grownCap_ge W (0 + zs.length) 0 3
    generalize grownCap W (0 + zs.length) 0 3 = C at *
    rw [Nat.zero_add] at *
    have hn := heap_alloc_new W.drew (.cells (([] ++ zs.map (Value.int .i64)).toArray ++ Builtin.zeroCells (Value.int .i64 0).cells (C - zs.length)) 3)
    have hsd : W.drew.heap.size = W.heap.size := rfl
    rw [hsd] at hn
    refine ⟨by simp, h2, _, C, rfl, hge, .inr ⟨W.heap.size, 0, rfl, ?_, ?_⟩⟩
    · exact (Array.getElem?_eq_some_iff.1 hn).1
    · intro j u hu
      have hj : j < zs.length := by have := (List.getElem?_eq_some_iff.1 hu).1; simpa using this
      simp only [World.cell?, hn]
      rw [Nat.zero_add, Array.getElem?_append_left (by simp; omega)]
      simpa using hu
theorem step_clone {ops : Array Oper} {o : Oper} {a : Act} {W : World} {K : Act → World → Prop} {Q : Exit → Act → World → Prop} {E : Prop} (hgd : o.guard = none) (s x : Operand)
    (ho : o.op = .call { callee := .builtin .append, args := #[s, x], argTypes := #[22, 22] }) (p : Addr) (hs : a.eval s = .slice (some p) 0 0) (vx : Value) (l2 : List Int) (hx : a.eval x = vx) (hR : Rd W vx l2)
    (h : ∀ v' w', Rd w' v' l2 → Below W.heap.size W w' → K (a.put o.dst v') w') :
    if Region.wanted o (yielded ops a.tmps) = true then Oper.wp Try.prog o a W K Q else E := by
  have hw : Region.wanted o (yielded ops a.tmps) = true := by simp [Region.wanted, hgd]
  obtain ⟨v', W', hr, hR', hB⟩ := run_clone p vx l2 W hR o.type
  rw [if_pos hw]
  unfold Oper.wp
  simp [execOp, ho, resolve, invoke, builtin, hs, hx, hr, Result.andThen]
  exact h v' W' hR' hB

set_option maxRecDepth 100000 in
set_option maxHeartbeats 1000000 in
theorem takeR_any (v : Value) (zs : List Int) (n : Int) (w : World) (hR : Rd w v zs) : Calls Try.prog 12 #[v, .int .i64 n] w fun e w' => ∃ v1 v2, e = .returned (.tuple #[v1, v2, .int .i64 (tkE zs n)]) ∧ Rd w' v1 (tkA zs n) ∧ Rd w' v2 (tkR zs n) ∧ Below w.heap.size w w' := by
  have HR : Hid (Rd w v zs) := hR
  obtain ⟨hz, a, cap, rfl⟩ := hR.form
  have hcap : zs.length ≤ cap := by
    obtain ⟨_, _, a', cap', e, h, _⟩ := hR
    cases e
    exact h
  clear hR
  cases hc : chk zs with
  | false =>
    obtain ⟨g1, g2, g3⟩ := tk_wrong (l := zs) (n := n) (by unfold tkB; rw [hc]; rfl)
    have G1 : Hid (tkE zs n = 1) := g1
    have G2 : Hid (tkA zs n = []) := g2
    have G3 : Hid (tkR zs n = zs) := g3
    clear g1 g2 g3
    go_enter Try.func12, Try.ntmps12
    go_wp2_with (first
      | (go_at_call 17; refine (checkR_any _ zs _ HR.out).mono ?_; rintro e w1 ⟨rfl, hb1⟩; rw [hc]))
    refine bodyPost_ret (results_tmp3 Try.results12 _ _ _) rfl ?_
    exact ⟨_, _, by rw [G1.out]; rfl, by rw [G2.out]; exact nil_rd _, by rw [G3.out]; exact HR.out.below hb1, hb1⟩
  | true =>
    by_cases h1 : n < 0
    · obtain ⟨g1, g2, g3⟩ := tk_wrong (l := zs) (n := n) (by unfold tkB; rw [decide_eq_false (by omega : ¬ 0 ≤ n)]; simp)
      have G1 : Hid (tkE zs n = 1) := g1
      have G2 : Hid (tkA zs n = []) := g2
      have G3 : Hid (tkR zs n = zs) := g3
      clear g1 g2 g3
      go_enter Try.func12, Try.ntmps12
      go_wp2_with (first
        | (go_at_call 17; refine (checkR_any _ zs _ HR.out).mono ?_; rintro e w1 ⟨rfl, hb1⟩; rw [hc]))
      refine bodyPost_ret (results_tmp3 Try.results12 _ _ _) rfl ?_
      exact ⟨_, _, by rw [G1.out]; rfl, by rw [G2.out]; exact nil_rd _, by rw [G3.out]; exact HR.out.below hb1, hb1⟩
    obtain ⟨k, rfl⟩ := Int.eq_ofNat_of_zero_le (show 0 ≤ n by omega)
    by_cases h2 : (k : Int) > (zs.length : Int)
    · obtain ⟨g1, g2, g3⟩ := tk_full (l := zs) (n := (k : Int)) (by unfold tkB; rw [hc]; simp) (by omega)
      have G1 : Hid (tkE zs (k : Int) = 100) := g1
      have G2 : Hid (tkA zs (k : Int) = []) := g2
      have G3 : Hid (tkR zs (k : Int) = zs) := g3
      clear g1 g2 g3
      go_enter Try.func12, Try.ntmps12
      go_wp2_with (first
        | (go_at_call 17; refine (checkR_any _ zs _ HR.out).mono ?_; rintro e w1 ⟨rfl, hb1⟩; rw [hc]))
      refine bodyPost_ret (results_tmp3 Try.results12 _ _ _) rfl ?_
      exact ⟨_, _, by rw [G1.out]; rfl, by rw [G2.out]; exact nil_rd _, by rw [G3.out]; exact HR.out.below hb1, hb1⟩
    obtain ⟨g1, g2, g3⟩ := tk_yes (l := zs) (n := k) hc (by omega)
    have G1 : Hid (tkE zs (k : Int) = 0) := g1
    have G2 : Hid (tkA zs (k : Int) = zs.take k) := g2
    have G3 : Hid (tkR zs (k : Int) = zs.drop k) := g3
    have KT : Hid (∀ W, Below w.heap.size w W → Rd W (.slice a k cap) (zs.take k)) := fun W hb => (HR.out.takeG k (by omega)).below hb
    have KD : Hid (∀ W, Below w.heap.size w W → Rd W (.slice (if cap = k then a else Option.map (fun x => x.add k) a) (zs.length - k) (cap - k)) (zs.drop k)) := fun W hb => (HR.out.dropG k (by omega)).below hb
    have hkI : (k : Int) ≤ (zs.length : Int) := by omega
    have hkI2 : (k : Int) ≤ (cap : Int) := by omega
    have hkI3 : (zs.length : Int) ≤ (cap : Int) := by omega
    clear g1 g2 g3
    by_cases hck : cap = k
    · subst hck
      rw [if_pos rfl, show zs.length - cap = 0 by omega, Nat.sub_self] at KD
      go_enter Try.func12, Try.ntmps12
      go_wp2_with (go_at_call 17; refine (checkR_any _ zs _ HR.out).mono ?_; rintro e w1 ⟨rfl, hb1⟩; rw [hc]; have HB1 : Hid (Below w.heap.size w w1) := hb1; clear hb1)
      have t1 : Hid (0 = 0) := rfl
      go_region_held3 (fun w2 => Below w.heap.size w w2) (first | exact HB1.out.drew | exact HB3.out | exact HB2.out | exact Below.alloc (by assumption) (Below.size (by assumption)) _) (first
        | (clear t1; refine step_clone rfl (.tmp 22) (.tmp 25) rfl _ (by rfl) _ (zs.take cap) (by rfl) (KT.out _ (by assumption)) ?_; intro v2 w2 r2 b2; have R2 : Hid (Rd w2 v2 (zs.take cap)) := r2; have HB2 : Hid (Below w.heap.size w w2) := bstep (by assumption) b2; clear r2 b2)
        | (refine step_clone rfl (.tmp 27) (.tmp 30) rfl _ (by rfl) _ (zs.drop cap) (by rfl) (KD.out _ (by assumption)) ?_; intro v3 w3 r3 b3; have R3 : Hid (Rd w3 v3 (zs.drop cap)) := r3; have HB3 : Hid (Below w.heap.size w w3) := bstep (by assumption) b3; have R23 : Hid (Rd w3 v2 (zs.take cap)) := (by first | exact R2.out.below b3 | exact (R2.out.below ((Below.refl _ _).alloc (Nat.le_refl _) _)).below b3); clear r3 b3))
      all_goals
        go_wp2
        refine bodyPost_ret (results_tmp3 Try.results12 _ _ _) rfl ?_
        exact ⟨_, _, by rw [G1.out]; rfl, by rw [G2.out]; exact R23.out, by rw [G3.out]; exact R3.out, HB3.out⟩
    · rw [if_neg hck] at KD
      go_enter Try.func12, Try.ntmps12
      go_wp2_with (go_at_call 17; refine (checkR_any _ zs _ HR.out).mono ?_; rintro e w1 ⟨rfl, hb1⟩; rw [hc]; have HB1 : Hid (Below w.heap.size w w1) := hb1; clear hb1)
      have t1 : Hid (0 = 0) := rfl
      go_region_held3 (fun w2 => Below w.heap.size w w2) (first | exact HB1.out.drew | exact HB3.out | exact HB2.out | exact Below.alloc (by assumption) (Below.size (by assumption)) _) (first
        | (clear t1; refine step_clone rfl (.tmp 22) (.tmp 25) rfl _ (by rfl) _ (zs.take k) (by rfl) (KT.out _ (by assumption)) ?_; intro v2 w2 r2 b2; have R2 : Hid (Rd w2 v2 (zs.take k)) := r2; have HB2 : Hid (Below w.heap.size w w2) := bstep (by assumption) b2; clear r2 b2)
        | (refine step_clone rfl (.tmp 27) (.tmp 30) rfl _ (by rfl) _ (zs.drop k) (by rfl) (KD.out _ (by assumption)) ?_; intro v3 w3 r3 b3; have R3 : Hid (Rd w3 v3 (zs.drop k)) := r3; have HB3 : Hid (Below w.heap.size w w3) := bstep (by assumption) b3; have R23 : Hid (Rd w3 v2 (zs.take k)) := (by first | exact R2.out.below b3 | exact (R2.out.below ((Below.refl _ _).alloc (Nat.le_refl _) _)).below b3); clear r3 b3))
      all_goals
        go_wp2
        refine bodyPost_ret (results_tmp3 Try.results12 _ _ _) rfl ?_
        exact ⟨_, _, by rw [G1.out]; rfl, by rw [G2.out]; exact R23.out, by rw [G3.out]; exact R3.out, HB3.out⟩
end Go.Proofs.Ytpfbnfnlbjjjoaa
