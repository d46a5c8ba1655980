/- Walks of layer 10: Take, and the document's one. -/
import Derived.Test.YtpfbnfnlbjjjoaaAllb
namespace Go.Proofs.Ytpfbnfnlbjjjoaa
open Go.RowKit
set_option linter.unusedVariables false

theorem Rd.takeG {W : World} {a : Option Addr} {n c : Nat} {zs : List Int} (h : Rd W (.slice a n c) zs) (k : Nat) (hk : k ≤ zs.length) : Rd W (.slice a k c) (zs.take k) := by
  obtain ⟨h1, h2, a', cap, e, h0, h3⟩ := h
  cases e
  have hlen : (zs.take k).length = k := by simp; omega
  unfold Rd
  rw [hlen]
  rcases h3 with ⟨hz, h⟩ | ⟨b', off', e, hlt, hc⟩
  · exact ⟨by simp; omega, by omega, _, c, rfl, by omega, .inl ⟨by omega, h⟩⟩
  · subst e
    refine ⟨by simp; omega, by omega, _, c, rfl, by omega, .inr ⟨b', off', rfl, hlt, ?_⟩⟩
    intro j u hu
    refine hc j u ?_
    rw [List.map_take, List.getElem?_take] at hu
    split at hu
    · exact hu
    · cases hu
theorem Rd.dropG {W : World} {a : Option Addr} {n c : Nat} {zs : List Int} (h : Rd W (.slice a n c) zs) (k : Nat) (hk : k ≤ zs.length) : Rd W (.slice (if c = k then a else Option.map (fun x => x.add k) a) (n - k) (c - k)) (zs.drop k) := by
  obtain ⟨h1, h2, a', cap, e, h0, h3⟩ := h
  cases e
  have hlen : (zs.drop k).length = zs.length - k := by simp
  unfold Rd
  rw [hlen]
  by_cases hz : zs.length - k = 0
  · refine ⟨by simp, by omega, _, c - k, rfl, by omega, .inl ⟨hz, ?_⟩⟩
    intro hn
    by_cases hck : c = k
    · omega
    · rw [if_neg hck] at hn
      rw [Option.map_eq_none_iff] at hn
      rcases h3 with ⟨h4, h5⟩ | ⟨b', off', e, _⟩
      · have := h5 hn
        omega
      · rw [hn] at e
        cases e
  · rcases h3 with ⟨h4, _⟩ | ⟨b', off', rfl, hlt, hc⟩
    · omega
    · have hck : c ≠ k := by omega
      rw [if_neg hck]
      refine ⟨by simp, by omega, _, c - k, rfl, by omega, .inr ⟨b', off' + k, by rw [Option.map_some, Addr.add_lit], hlt, ?_⟩⟩
      intro j u hu
      rw [Nat.add_assoc]
      refine hc (k + j) u ?_
      rw [← hu, List.map_drop, List.getElem?_drop]

set_option maxRecDepth 100000 in
set_option maxHeartbeats 1000000 in
theorem take_any (v : Value) (zs : List Int) (n : Int) (w : World) (hR : Rd w v zs) : Calls Try.prog 11 #[v, .int .i64 n] w fun e w' => ∃ v1 v2, e = .returned (.tuple #[v1, v2, .int .i64 (tkE zs n)]) ∧ Rd w' v1 (tkA zs n) ∧ Rd w' v2 (tkR zs n) ∧ Below w.heap.size w w' := by
  have HR : Hid (Rd w v zs) := hR
  have k20 : Hid (∀ W, Below w.heap.size w W → Calls Try.prog 20 #[v] W fun e w' => ∃ v', e = .returned v' ∧ OwnI w' W.heap.size v' zs ∧ Below W.heap.size W w') := fun W hb => cloneI_any v zs W (hR.below hb)
  obtain ⟨hz, a, cap, rfl⟩ := hR.form
  have hcap : zs.length ≤ cap := by
    obtain ⟨_, _, a', cap', e, h, _⟩ := hR
    cases e
    exact h
  clear hR
  cases hc : chk zs with
  | false =>
    obtain ⟨g1, g2, g3⟩ := tk_wrong (l := zs) (n := n) (by unfold tkB; rw [hc]; rfl)
    have G1 : Hid (tkE zs n = 1) := g1
    have G2 : Hid (tkA zs n = []) := g2
    have G3 : Hid (tkR zs n = zs) := g3
    clear g1 g2 g3
    go_enter Try.func11, Try.ntmps11
    go_wp2_with (first
      | (go_at_call 16; refine (check_any _ zs _ HR.out).mono ?_; rintro e w' ⟨rfl, hw⟩; rw [hw, hc]; clear hw w')
      | (go_at_call 20; refine (k20.out _ (Below.refl _ _)).mono ?_; rintro e w1 ⟨v1, rfl, o1, hb1⟩))
    refine bodyPost_ret (results_tmp3 Try.results11 _ _ _) rfl ?_
    exact ⟨_, _, by rw [G1.out]; rfl, by rw [G2.out]; exact nil_rd _, by rw [G3.out]; exact o1.rd hz, hb1⟩
  | true =>
    by_cases h1 : n < 0
    · obtain ⟨g1, g2, g3⟩ := tk_wrong (l := zs) (n := n) (by unfold tkB; rw [decide_eq_false (by omega : ¬ 0 ≤ n)]; simp)
      have G1 : Hid (tkE zs n = 1) := g1
      have G2 : Hid (tkA zs n = []) := g2
      have G3 : Hid (tkR zs n = zs) := g3
      clear g1 g2 g3
      go_enter Try.func11, Try.ntmps11
      go_wp2_with (first
        | (go_at_call 16; refine (check_any _ zs _ HR.out).mono ?_; rintro e w' ⟨rfl, hw⟩; rw [hw, hc]; clear hw w')
        | (go_at_call 20; refine (k20.out _ (Below.refl _ _)).mono ?_; rintro e w1 ⟨v1, rfl, o1, hb1⟩))
      refine bodyPost_ret (results_tmp3 Try.results11 _ _ _) rfl ?_
      exact ⟨_, _, by rw [G1.out]; rfl, by rw [G2.out]; exact nil_rd _, by rw [G3.out]; exact o1.rd hz, hb1⟩
    obtain ⟨k, rfl⟩ := Int.eq_ofNat_of_zero_le (show 0 ≤ n by omega)
    by_cases h2 : (k : Int) > (zs.length : Int)
    · obtain ⟨g1, g2, g3⟩ := tk_full (l := zs) (n := (k : Int)) (by unfold tkB; rw [hc]; simp) (by omega)
      have G1 : Hid (tkE zs (k : Int) = 100) := g1
      have G2 : Hid (tkA zs (k : Int) = []) := g2
      have G3 : Hid (tkR zs (k : Int) = zs) := g3
      clear g1 g2 g3
      go_enter Try.func11, Try.ntmps11
      go_wp2_with (first
        | (go_at_call 16; refine (check_any _ zs _ HR.out).mono ?_; rintro e w' ⟨rfl, hw⟩; rw [hw, hc]; clear hw w')
        | (go_at_call 20; refine (k20.out _ (Below.refl _ _)).mono ?_; rintro e w1 ⟨v1, rfl, o1, hb1⟩))
      refine bodyPost_ret (results_tmp3 Try.results11 _ _ _) rfl ?_
      exact ⟨_, _, by rw [G1.out]; rfl, by rw [G2.out]; exact nil_rd _, by rw [G3.out]; exact o1.rd hz, hb1⟩
    obtain ⟨g1, g2, g3⟩ := tk_yes (l := zs) (n := k) hc (by omega)
    have G1 : Hid (tkE zs (k : Int) = 0) := g1
    have G2 : Hid (tkA zs (k : Int) = zs.take k) := g2
    have G3 : Hid (tkR zs (k : Int) = zs.drop k) := g3
    have KT : Hid (∀ W, Below w.heap.size w W → Calls Try.prog 20 #[.slice a k cap] W fun e w' => ∃ v', e = .returned v' ∧ OwnI w' W.heap.size v' (zs.take k) ∧ Below W.heap.size W w') := fun W hb => cloneI_any _ _ W ((HR.out.takeG k (by omega)).below hb)
    have KD : Hid (∀ W, Below w.heap.size w W → Calls Try.prog 20 #[.slice (if cap = k then a else Option.map (fun x => x.add k) a) (zs.length - k) (cap - k)] W fun e w' => ∃ v', e = .returned v' ∧ OwnI w' W.heap.size v' (zs.drop k) ∧ Below W.heap.size W w') := fun W hb => cloneI_any _ _ W ((HR.out.dropG k (by omega)).below hb)
    have l1 : Hid ((zs.take k).length ≤ 1000) := (by show _ ≤ _; simp; omega)
    have l2 : Hid ((zs.drop k).length ≤ 1000) := (by show _ ≤ _; simp; omega)
    have hkI : (k : Int) ≤ (zs.length : Int) := by omega
    have hkI2 : (k : Int) ≤ (cap : Int) := by omega
    have hkI3 : (zs.length : Int) ≤ (cap : Int) := by omega
    clear g1 g2 g3
    by_cases hck : cap = k
    · subst hck
      rw [if_pos rfl, show zs.length - cap = 0 by omega, Nat.sub_self] at KD
      go_enter Try.func11, Try.ntmps11
      go_wp2_with (go_at_call 16; refine (check_any _ zs _ HR.out).mono ?_; rintro e w' ⟨rfl, hw⟩; rw [hw, hc]; clear hw w')
      have t1 : Hid (0 = 0) := rfl
      go_region_held3 (fun w2 => True) (exact trivial) (first
        | (go_at_call 20; clear t1; refine (KT.out _ (Below.refl _ _).drew).mono ?_; rintro e w1 ⟨v1, rfl, o1, hb1⟩; have HB1 : Hid (Below w.heap.size w w1) := bstep (Below.refl _ _).drew hb1)
        | (go_at_call 20; refine (KD.out _ HB1.out).mono ?_; rintro e w2 ⟨v2, rfl, o2, hb2⟩; have HB2 : Hid (Below w.heap.size w w2) := bstep HB1.out hb2))
      go_wp2
      refine bodyPost_ret (results_tmp3 Try.results11 _ _ _) rfl ?_
      exact ⟨_, _, by rw [G1.out]; rfl, by rw [G2.out]; exact (o1.rd l1.out).below hb2, by rw [G3.out]; exact o2.rd l2.out, HB2.out⟩
    · rw [if_neg hck] at KD
      go_enter Try.func11, Try.ntmps11
      go_wp2_with (go_at_call 16; refine (check_any _ zs _ HR.out).mono ?_; rintro e w' ⟨rfl, hw⟩; rw [hw, hc]; clear hw w')
      have t1 : Hid (0 = 0) := rfl
      go_region_held3 (fun w2 => True) (exact trivial) (first
        | (go_at_call 20; clear t1; refine (KT.out _ (Below.refl _ _).drew).mono ?_; rintro e w1 ⟨v1, rfl, o1, hb1⟩; have HB1 : Hid (Below w.heap.size w w1) := bstep (Below.refl _ _).drew hb1)
        | (go_at_call 20; refine (KD.out _ HB1.out).mono ?_; rintro e w2 ⟨v2, rfl, o2, hb2⟩; have HB2 : Hid (Below w.heap.size w w2) := bstep HB1.out hb2))
      go_wp2
      refine bodyPost_ret (results_tmp3 Try.results11 _ _ _) rfl ?_
      exact ⟨_, _, by rw [G1.out]; rfl, by rw [G2.out]; exact (o1.rd l1.out).below hb2, by rw [G3.out]; exact o2.rd l2.out, HB2.out⟩
end Go.Proofs.Ytpfbnfnlbjjjoaa
