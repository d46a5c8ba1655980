/- The walk of AllocBack. -/
import Derived.Test.YtpfbnfnlbjjjoaaAll
namespace Go.Proofs.Ytpfbnfnlbjjjoaa
open Go.RowKit
set_option linter.unusedVariables false

/-- Which one is given back, and what is free then. -/
def xk (P : List Int) (T k : Nat) : Int := P.getD ((k + T) % P.length) 0
def bk (R P : List Int) (T : Nat) : Nat → List Int
  | 0 => R
  | k + 1 => gvL (bk R P T k) (xk P T k)
theorem xk_at {P : List Int} {T k : Nat} (h : 0 < P.length) : P[(k + T) % P.length]? = some (xk P T k) := by
  have := Nat.mod_lt (k + T) h
  unfold xk
  rw [List.getElem?_eq_getElem this, List.getD_eq_getElem?_getD, List.getElem?_eq_getElem this]
  rfl
theorem xk_mem {P : List Int} {T k : Nat} (h : 0 < P.length) : xk P T k ∈ P := List.mem_of_getElem? (xk_at h)
theorem xk_ne {P : List Int} (hP : P.Pairwise (· < ·)) {T i k : Nat} (hi : i < k) (hk : k < P.length) : xk P T i ≠ xk P T k := by
  intro e
  have h0 : 0 < P.length := by omega
  have h1 := Nat.mod_lt (i + T) h0
  have h2 := Nat.mod_lt (k + T) h0
  have e1 := xk_at (P := P) (T := T) (k := i) h0
  have e2 := xk_at (P := P) (T := T) (k := k) h0
  have hne : (k + T) % P.length = (i + T) % P.length := by
    by_cases hlt : (i + T) % P.length < (k + T) % P.length
    · have := List.pairwise_iff_getElem.1 hP _ _ h1 h2 hlt
      rw [List.getElem?_eq_getElem h1] at e1
      rw [List.getElem?_eq_getElem h2] at e2
      rw [Option.some.inj e1, Option.some.inj e2] at this
      omega
    · by_cases hgt : (k + T) % P.length < (i + T) % P.length
      · have := List.pairwise_iff_getElem.1 hP _ _ h2 h1 hgt
        rw [List.getElem?_eq_getElem h1] at e1
        rw [List.getElem?_eq_getElem h2] at e2
        rw [Option.some.inj e1, Option.some.inj e2] at this
        omega
      · omega
  have h3 := Nat.sub_mod_eq_zero_of_mod_eq hne
  rw [show k + T - (i + T) = k - i by omega, Nat.mod_eq_of_lt (by omega)] at h3
  omega
theorem xk_all {P : List Int} {T : Nat} {z : Int} (h : z ∈ P) : ∃ i, i < P.length ∧ z = xk P T i := by
  obtain ⟨j, hj, e⟩ := List.mem_iff_getElem.1 h
  have h0 : 0 < P.length := by omega
  refine ⟨(j + P.length - T % P.length) % P.length, Nat.mod_lt _ h0, ?_⟩
  have h1 : ((j + P.length - T % P.length) % P.length + T) % P.length = j := by
    rw [Nat.mod_add_mod]
    have h2 := Nat.mod_lt T h0
    have h3 := Nat.div_add_mod T P.length
    have h4 : j + P.length - T % P.length + T = j + P.length * (T / P.length + 1) := by
      rw [Nat.mul_add, Nat.mul_one]
      omega
    rw [h4, Nat.add_mul_mod_self_left, Nat.mod_eq_of_lt hj]
  have h5 := xk_at (P := P) (T := T) (k := (j + P.length - T % P.length) % P.length) h0
  rw [h1, List.getElem?_eq_getElem hj] at h5
  exact e.symm.trans (Option.some.inj h5)
theorem bk_ok {R P : List Int} (hO : Ok (P ++ R)) (T : Nat) : ∀ k, k ≤ P.length → Ok (bk R P T k) ∧ ∀ z, z ∈ bk R P T k ↔ z ∈ R ∨ ∃ i, i < k ∧ z = xk P T i
  | 0, _ => by
    have := hO.1
    rw [List.pairwise_append] at this
    refine ⟨⟨this.2.1, fun x hx => hO.2 x (List.mem_append_right _ hx)⟩, fun z => ⟨fun h => .inl h, ?_⟩⟩
    rintro (h | ⟨i, hi, _⟩)
    · exact h
    · omega
  | k + 1, hk => by
    obtain ⟨h1, h2⟩ := bk_ok hO T k (by omega)
    have hP := hO.1
    rw [List.pairwise_append] at hP
    have h0 : 0 < P.length := by omega
    have hg : gvB (bk R P T k) (xk P T k) = true := by
      refine gvB_iff.2 ⟨h1, hO.2 _ (List.mem_append_left _ (xk_mem h0)), ?_⟩
      intro hm
      rcases (h2 _).1 hm with h | ⟨i, hi, e⟩
      · have := hP.2.2 _ (xk_mem (T := T) (k := k) h0) _ h
        omega
      · exact xk_ne hP.1 hi (by omega) e.symm
    refine ⟨gv_ok hg, fun z => ?_⟩
    show z ∈ gvL (bk R P T k) (xk P T k) ↔ _
    rw [gv_mem hg, h2]
    constructor
    · rintro (rfl | h | ⟨i, hi, e⟩)
      · exact .inr ⟨k, by omega, rfl⟩
      · exact .inl h
      · exact .inr ⟨i, by omega, e⟩
    · rintro (h | ⟨i, hi, e⟩)
      · exact .inr (.inl h)
      · by_cases hik : i = k
        · subst hik
          exact .inl e
        · exact .inr (.inr ⟨i, by omega, e⟩)
theorem bk_may {R P : List Int} (hO : Ok (P ++ R)) (T : Nat) {k : Nat} (hk : k < P.length) : gvB (bk R P T k) (xk P T k) = true := by
  obtain ⟨h1, h2⟩ := bk_ok hO T k (by omega)
  have hP := hO.1
  rw [List.pairwise_append] at hP
  have h0 : 0 < P.length := by omega
  refine gvB_iff.2 ⟨h1, hO.2 _ (List.mem_append_left _ (xk_mem h0)), ?_⟩
  intro hm
  rcases (h2 _).1 hm with h | ⟨i, hi, e⟩
  · have := hP.2.2 _ (xk_mem (T := T) (k := k) h0) _ h
    omega
  · exact xk_ne hP.1 hi hk e.symm
theorem bk_end {R P : List Int} (hO : Ok (P ++ R)) (T : Nat) : bk R P T P.length = P ++ R := by
  obtain ⟨h1, h2⟩ := bk_ok hO T P.length (Nat.le_refl _)
  refine ok_ext h1.1 hO.1 fun z => ?_
  rw [h2, List.mem_append]
  constructor
  · rintro (h | ⟨i, hi, rfl⟩)
    · exact .inr h
    · exact .inl (xk_mem (by omega))
  · rintro (h | h)
    · exact .inr (xk_all h)
    · exact .inl h

set_option maxRecDepth 100000 in
set_option maxHeartbeats 2000000 in
theorem walk_AllocBack (a1 : Option Addr) (len1 cap1 : Nat) (n t : Int) (w : World) (h1 : RowIn w a1 len1 cap1) (hn : (Lit.int .u8 n).wf = true) (ht : (Lit.int .u8 t).wf = true) :
    Calls Try.prog 4 #[.slice a1 len1 cap1, .int .u8 n, .int .u8 t] w fun e w' => e = .returned (.bool true) ∧ Below w.heap.size w w' := by
  obtain ⟨N, rfl, hN⟩ := wf_u8 hn
  obtain ⟨T, rfl, hT⟩ := wf_u8 ht
  clear hn ht
  by_cases g1 : (len1 : Int) > 1000
  · clear h1
    go_enter Try.func4, Try.ntmps4
    go_wp2_with (go_at_call 8; refine (awake_any _).mono ?_; rintro e w1 ⟨rfl, hb1⟩)
    go_ret
    exact ⟨ret_bool rfl, hb1⟩
  obtain ⟨free, rfl, R1, -⟩ := h1 (by omega)
  have H1 : Hid (Rd w (.slice a1 free.length cap1) free) := R1.rd (by omega)
  have k16 : Hid (∀ W, Below w.heap.size w W → Calls Try.prog 16 #[.slice a1 free.length cap1] W fun e w' => e = .returned (.bool (chk free)) ∧ w' = W) := fun W hb => check_any _ free W (H1.out.below hb)
  clear h1 R1
  cases hc : chk free with
  | false =>
    rw [hc] at k16
    go_enter Try.func4, Try.ntmps4
    go_wp2_with (first
      | (go_at_call 8; refine (awake_any _).mono ?_; rintro e w1 ⟨rfl, hb1⟩)
      | (go_at_call 16; refine (k16.out _ hb1).mono ?_; rintro e w12 ⟨rfl, hw⟩; rw [hw]; clear hw w12))
    go_ret
    exact ⟨ret_bool rfl, hb1⟩
  | true =>
    rw [hc] at k16
    have kA : Hid (∀ W, Below w.heap.size w W → Calls Try.prog 11 #[.slice a1 free.length cap1, .int .i64 (N : Int)] W fun e w' => ∃ v1 v2, e = .returned (.tuple #[v1, v2, .int .i64 (tkE free (N : Int))]) ∧ Rd w' v1 (tkA free (N : Int)) ∧ Rd w' v2 (tkR free (N : Int)) ∧ Below W.heap.size W w') := fun W hb => take_any _ free (N : Int) W (H1.out.below hb)
    by_cases c1 : free.length < N
    · obtain ⟨e1, e2, e3⟩ := tk_full (l := free) (n := (N : Int)) (by unfold tkB; rw [hc, decide_eq_true (by omega)]; rfl) (by omega)
      rw [e1, e2, e3] at kA
      have hgt : (N : Int) > (free.length : Int) := by omega
      clear e1 e2 e3
      go_enter Try.func4, Try.ntmps4
      go_wp2_with (first
        | (go_at_call 8; refine (awake_any _).mono ?_; rintro e w1 ⟨rfl, hb1⟩; have B1 : Hid (Below w.heap.size w w1) := hb1; clear hb1)
        | (go_at_call 16; refine (k16.out _ B1.out).mono ?_; rintro e w12 ⟨rfl, hw⟩; rw [hw]; clear hw w12)
        | (go_at_call 11; refine (kA.out _ B1.out).mono ?_; rintro e w2 ⟨v2, u2, rfl, r2, q2, hb2⟩; obtain ⟨_, a2, c2, rfl⟩ := r2.form; have Q2 : Hid (Rd w2 u2 free) := q2; have B2 : Hid (Below w.heap.size w w2) := bstep B1.out hb2; clear r2 q2 hb2)
        | (go_at_call 15; refine (aw15 _ _ free _ Q2.out (H1.out.below B2.out)).mono ?_; rintro e w5 ⟨rfl, hb5⟩; have B5 : Hid (Below w.heap.size w w5) := bstep B2.out hb5; clear hb5))
      go_ret
      exact ⟨ret_bool rfl, B5.out⟩
    · obtain ⟨e1, e2, e3⟩ := tk_yes (n := N) hc (by omega)
      rw [e1, e2, e3] at kA
      have hOk : Ok (free.take N ++ free.drop N) := by rw [List.take_append_drop]; exact chk_iff.1 hc
      have HO : Hid (Ok (free.take N ++ free.drop N)) := hOk
      have HF : Hid (free.take N ++ free.drop N = free) := List.take_append_drop N free
      have HPl : Hid ((free.take N).length = N) := (by show _ = _; simp; omega)
      have H255 : Hid (free.length ≤ 255) := ok_len (chk_iff.1 hc)
      have HRl : Hid ((free.drop N).length ≤ 900) := (by show _ ≤ _; have := H255.out; simp; omega)
      clear e1 e2 e3 hOk hc c1
      generalize free.take N = P at *
      generalize free.drop N = R at *
      have HIn : Hid (∀ x, x ∈ P → decide (x ∈ R) = false ∧ decide (x ∈ free) = true) := fun x hx => by
        have := HO.out.1
        rw [List.pairwise_append] at this
        refine ⟨decide_eq_false fun h => ?_, decide_eq_true (by rw [← HF.out]; exact List.mem_append_left _ hx)⟩
        have := this.2.2 x hx x h
        omega
      have HBl : Hid (∀ k, k ≤ N → (bk R P T k).length ≤ 255) := fun k hk => ok_len (bk_ok HO.out T k (by rw [HPl.out]; exact hk)).1
      have HBE : Hid (bk R P T N = free) := (by show _ = _; have := bk_end HO.out T; rw [HPl.out] at this; rw [this, HF.out])
      have HBk : Hid (∀ k, k < N → gvE (bk R P T k) (xk P T k) = 0 ∧ gvL (bk R P T k) (xk P T k) = bk R P T (k + 1) ∧ chk (bk R P T (k + 1)) = true) := fun k hk => by
        have hg := bk_may HO.out T (k := k) (by rw [HPl.out]; exact hk)
        exact ⟨(gv_yes hg).1, rfl, chk_iff.2 (bk_ok HO.out T (k + 1) (by rw [HPl.out]; exact hk)).1⟩
      have HX : Hid (∀ k, k < N → P[(k + T) % N]? = some (xk P T k)) := fun k hk => by
        have := xk_at (P := P) (T := T) (k := k) (by rw [HPl.out]; omega)
        rwa [HPl.out] at this
      have hB0 : Hid (bk R P T 0 = R) := rfl
      go_enter Try.func4, Try.ntmps4
      go_wp2_with (first
        | (go_at_call 8; refine (awake_any _).mono ?_; rintro e w1 ⟨rfl, hb1⟩; have B1 : Hid (Below w.heap.size w w1) := hb1; clear hb1)
        | (go_at_call 16; refine (k16.out _ B1.out).mono ?_; rintro e w12 ⟨rfl, hw⟩; rw [hw]; clear hw w12)
        | (go_at_call 11; refine (kA.out _ B1.out).mono ?_; rintro e w2 ⟨v2, u2, rfl, r2, q2, hb2⟩; obtain ⟨_, a2, c2, rfl⟩ := r2.form; rw [HPl.out] at r2 ⊢; have R2 : Hid (Rd w2 (.slice a2 N c2) P) := r2; have Q2 : Hid (Rd w2 u2 R) := q2; have B2 : Hid (Below w.heap.size w w2) := bstep B1.out hb2; clear r2 q2 hb2))
      go_loop [11] (fun s => ∃ k : Nat, k ≤ N ∧ s = .int .i64 k) (fun s => N - (intOf s).toNat)
      case atStart => exact ⟨0, Nat.zero_le _, rfl⟩
      case round =>
        obtain ⟨k, hk, rfl⟩ := hrel
        by_cases hlt : k < N
        · have hltI : (k : Int) < (N : Int) := by omega
          obtain ⟨x, hx⟩ : ∃ x, P[k]? = some x := ⟨_, List.getElem?_eq_getElem (by have := HPl.out; omega)⟩
          obtain ⟨b, off, rfl, hcell⟩ := at_of R2.out hx
          obtain ⟨hi1, hi2⟩ := HIn.out x (List.mem_of_getElem? hx)
          have t1 : Hid (0 = 0) := rfl
          clear hx
          go_wp2_with (first
            | (clear t1; go_at_call 18; refine (in_any _ R x _ Q2.out).mono ?_; rintro e w5 ⟨rfl, hw⟩; rw [hw, hi1]; clear hw w5)
            | (go_at_call 18; refine (in_any _ free x _ (H1.out.below B2.out)).mono ?_; rintro e w5 ⟨rfl, hw⟩; rw [hw, hi2]; clear hw w5))
          go_round
          case rel => exact ⟨k + 1, by omega, by go_num⟩
          case measure => simp [intOf]; omega
        · have hgeI : ¬ (k : Int) < (N : Int) := by omega
          clear k16 kA
          go_wp2
          go_loopw [12, 13] (fun s12 s13 w3 => ∃ (k : Nat) (v : Value), k ≤ N ∧ s13 = .int .i64 k ∧ s12 = v ∧ Rd w3 v (bk R P T k) ∧ Below w2.heap.size w2 w3) (fun _ s13 _ => N - (intOf s13).toNat)
          case atStart => exact ⟨0, u2, Nat.zero_le _, rfl, rfl, by rw [hB0.out]; exact Q2.out, Below.refl _ _⟩
          case round =>
            obtain ⟨j, vb, hj, rfl, e12, rB, bB⟩ := hrel
            obtain ⟨_, a12, c12, e13⟩ := rB.form
            obtain ⟨nb, hnb⟩ : ∃ nb, (bk R P T j).length = nb := ⟨_, rfl⟩
            rw [hnb] at e13
            subst e13
            subst e12
            clear hnb
            have RB : Hid (Rd wr (.slice a12 nb c12) (bk R P T j)) := rB
            have BB : Hid (Below w2.heap.size w2 wr) := bB
            clear rB bB
            by_cases hlt2 : j < N
            · have hltJ : (j : Int) < (N : Int) := by omega
              obtain ⟨g1, g2, g3⟩ := HBk.out j hlt2
              have G3 : Hid (chk (bk R P T (j + 1)) = true) := g3
              have kG : Hid (∀ W, Below wr.heap.size wr W → Calls Try.prog 13 #[.slice a12 nb c12, .int .i64 (xk P T j)] W fun e w' => ∃ v', e = .returned (.tuple #[v', .int .i64 0]) ∧ Rd w' v' (bk R P T (j + 1)) ∧ Below W.heap.size W w') := fun W hb => (by have := give_any _ (bk R P T j) (xk P T j) W (RB.out.below hb); rwa [g1, g2] at this)
              obtain ⟨i, hi⟩ : ∃ i, (j + T) % N = i := ⟨_, rfl⟩
              have hx : P[i]? = some (xk P T j) := by rw [← hi]; exact HX.out j hlt2
              obtain ⟨b, off, rfl, hcell⟩ := at_of (R2.out.below BB.out) hx
              have hiN : (i : Int) < (N : Int) := by rw [← hi]; have := Nat.mod_lt (j + T) (show 0 < N by omega); omega
              have hmod : ((j : Int) + (T : Int)).tmod (N : Int) = (i : Int) := by
                rw [← hi, Int.tmod_eq_emod_of_nonneg (by omega)]
                simp
              have hN0 : ¬ (N : Int) = 0 := by omega
              generalize xk P T j = x at *
              clear g1 g2 g3 hx hi
              go_wp2_with (first
                | (go_at_call 13; refine (kG.out _ (Below.refl _ _)).mono ?_; rintro e w5 ⟨v5, rfl, r5, b5⟩; have R5 : Hid (Rd w5 v5 (bk R P T (j + 1))) := r5; have B5 : Hid (Below w2.heap.size w2 w5) := bstep BB.out b5; clear r5 b5)
                | (go_at_call 16; refine (check_any _ _ _ R5.out).mono ?_; rintro e w6 ⟨rfl, hw⟩; rw [hw, G3.out]; clear hw w6))
              go_roundw
              case rel => exact ⟨j + 1, v5, by omega, by go_num, rfl, R5.out, B5.out⟩
              case measure => simp [intOf]; omega
            · have hgeJ : ¬ (j : Int) < (N : Int) := by omega
              have e : j = N := by omega
              subst e
              have RF : Hid (Rd wr (.slice a12 nb c12) free) := (by have := RB.out; rwa [HBE.out] at this)
              go_wp2_with (first
                | (go_at_call 15; refine (aw15 _ _ free _ RF.out ((H1.out.below B2.out).below BB.out)).mono ?_; rintro e w5 ⟨rfl, hb5⟩; have B5 : Hid (Below w.heap.size w w5) := bstep (bstep B2.out BB.out) hb5; clear hb5))
              go_ret
              exact ⟨ret_bool rfl, B5.out⟩
end Go.Proofs.Ytpfbnfnlbjjjoaa
