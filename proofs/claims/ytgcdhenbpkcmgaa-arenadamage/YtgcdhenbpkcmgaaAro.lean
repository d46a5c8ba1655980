/- Layer 11: what is reached in an arena. -/
import Derived.Test.YtgcdhenbpkcmgaaArj
import Derived.Test.YtgcdhenbpkcmgaaArl
import Derived.Test.YtgcdhenbpkcmgaaArm
import Derived.Test.YtgcdhenbpkcmgaaArn
namespace Go.Proofs.Ytgcdhenbpkcmgaa
open Go.RowKit Go.Shelf
set_option linter.unusedVariables false

/-- What the first block and the leaves reach. -/
def lfL (zs : List Int) (L : List Int) : List Int := L.flatMap (fun b => rcN (rnN zs b) b)
def baseL (zs : List Int) (L : List Int) : List Int := 0 :: lfL zs L
structure RcS (zs L M : List Int) : Prop where
  rise : M.Pairwise (fun a b => a < b)
  inn : ∀ x ∈ M, 0 ≤ x ∧ x < nbI zs
  has : ∀ x ∈ baseL zs L, x < nbI zs → x ∈ M
  only : (rnE zs (rtI zs) ≠ 0 ∨ (rnN zs (rtI zs)).lv = 0) → ∀ x ∈ M, x ∈ baseL zs L
theorem lfL_bd {zs L : List Int} (hB : rdB zs = true) (h : ∀ b ∈ L, rnE zs b = 0) : ∀ x ∈ lfL zs L, 0 ≤ x ∧ x ≤ 255 := by
  intro x hx
  unfold lfL at hx
  rw [List.mem_flatMap] at hx
  obtain ⟨b, hb, hx⟩ := hx
  have hm := (rn_may (h b hb)).2
  exact rcN_bd (blk_bd hB (h b hb)) ⟨hm.w0, hm.w9⟩ hm.sl x hx
theorem lfL_len {zs : List Int} : ∀ {L : List Int}, (∀ b ∈ L, rnE zs b = 0) → (lfL zs L).length ≤ 15 * L.length
  | [], _ => by simp [lfL]
  | b :: L, h => by
    have h1 := lfL_len (L := L) (fun c hc => h c (.tail _ hc))
    have h2 := rcN_len (rn_may (h b (.head _))).2.len b
    unfold lfL at *
    rw [List.flatMap_cons, List.length_append, List.length_cons]
    omega
theorem lfL_next {zs L : List Int} {k : Nat} {b : Int} (h : L[k]? = some b) : lfL zs (L.take (k + 1)) = lfL zs (L.take k) ++ rcN (rnN zs b) b := by
  unfold lfL
  rw [List.take_add_one, h]
  simp

/-- Two sets, and a tour of them, in blocks of their own. -/
theorem tour_start (w W : World) (v : Value) (hW : W = ((w.alloc (.map #[] 0)).alloc (.map #[] 0)).alloc (.cells #[v, .map (some w.heap.size), .map (some (w.heap.size + 1))] 79)) :
    St W w.heap.size [] ∧ St W (w.heap.size + 1) [] ∧ Tb W (w.heap.size + 1 + 1) v w.heap.size (w.heap.size + 1) ∧ Below w.heap.size w W := by
  subst hW
  have e1 : (w.alloc (.map #[] 0)).heap.size = w.heap.size + 1 := by simp
  have e2 : ((w.alloc (.map #[] 0)).alloc (.map #[] 0)).heap.size = w.heap.size + 1 + 1 := by simp
  have b1 : Below (w.alloc (.map #[] 0)).heap.size (w.alloc (.map #[] 0)) ((w.alloc (.map #[] 0)).alloc (.map #[] 0)) := (Below.refl _ _).alloc (Nat.le_refl _) _
  have b2 : Below ((w.alloc (.map #[] 0)).alloc (.map #[] 0)).heap.size ((w.alloc (.map #[] 0)).alloc (.map #[] 0)) (((w.alloc (.map #[] 0)).alloc (.map #[] 0)).alloc (.cells #[v, .map (some w.heap.size), .map (some (w.heap.size + 1))] 79)) := (Below.refl _ _).alloc (Nat.le_refl _) _
  have s2 := st_new (w.alloc (.map #[] 0))
  have t3 := tb_new ((w.alloc (.map #[] 0)).alloc (.map #[] 0)) v w.heap.size (w.heap.size + 1)
  rw [e1] at s2
  rw [e2] at t3
  exact ⟨((st_new w).below b1).below b2, s2.below b2, t3, (((Below.refl _ w).alloc (Nat.le_refl _) _).alloc (by simp) _).alloc (by simp; omega) _⟩

theorem soundLeaves_ok {L : List Int} (v : Value) (zs : List Int) (w : World) (hR : Rl w v zs) (hF : Fits zs) (h : sndB zs = true) (hL : lvA zs = some L) : Calls Try.prog 27 #[v] w fun e w' => ∃ v' P, L = P.map Prod.fst ∧ e = .returned v' ∧ Lv zs w' w.heap.size v' P ∧ Below w.heap.size w w' := by
  refine (soundLeaves_any v zs w hR hF).mono ?_
  rintro e w' (⟨v', P, h1, h2, h3, h4⟩ | ⟨h1, _⟩)
  · rw [hL] at h1
    exact ⟨v', P, Option.some.inj h1, h3, h4⟩
  · rw [h] at h1
    cases h1
theorem soundLeaves_bad (v : Value) (zs : List Int) (w : World) (hR : Rl w v zs) (hF : Fits zs) (h : sndB zs = false) : Calls Try.prog 27 #[v] w fun e w' => e = .panicked [unS] ∧ Below w.heap.size w w' := by
  refine (soundLeaves_any v zs w hR hF).mono ?_
  rintro e w' (⟨v', P, h1, h2, h3, h4⟩ | ⟨h1, h2, h3⟩)
  · rw [h] at h2
    cases h2
  · exact ⟨h2, h3⟩
theorem snd_leaves {zs : List Int} (h : sndB zs = true) : ∃ L, lvA zs = some L := by
  unfold sndB at h
  split at h
  · cases h
  · exact ⟨_, by assumption⟩
theorem rcs_of {zs L K R : List Int} (hK : ∀ x, x ∈ K ↔ x ∈ R) (hr : K.Pairwise (fun a b => a < b)) (hsub : ∀ x ∈ baseL zs L, x ∈ R) (h0 : ∀ x ∈ R, 0 ≤ x ∧ x ≤ 255) (honly : (rnE zs (rtI zs) ≠ 0 ∨ (rnN zs (rtI zs)).lv = 0) → R = baseL zs L) : RcS zs L (K.filter (fun x => decide (x < nbI zs))) := by
  refine ⟨hr.sublist List.filter_sublist, ?_, ?_, ?_⟩
  · intro x hx
    rw [List.mem_filter, decide_eq_true_iff] at hx
    exact ⟨(h0 x ((hK x).1 hx.1)).1, hx.2⟩
  · intro x hx hn
    rw [List.mem_filter, decide_eq_true_iff]
    exact ⟨(hK x).2 (hsub x hx), hn⟩
  · intro hc x hx
    rw [List.mem_filter] at hx
    rw [← honly hc]
    exact (hK x).1 hx.1
theorem nodup_of_rise {K : List Int} (h : K.Pairwise (fun a b => a < b)) : K.Nodup := h.imp (fun {a b} hab e => by subst e; omega)
theorem rise_len {K R : List Int} (hr : K.Pairwise (fun a b => a < b)) (hK : ∀ x, x ∈ K ↔ x ∈ R) (h0 : ∀ x ∈ R, 0 ≤ x ∧ x ≤ 255) : K.length ≤ 256 := nodup_len 256 K (nodup_of_rise hr) (fun x hx => by have := h0 x ((hK x).1 hx); omega)
theorem baseL_bd {zs L : List Int} (hB : rdB zs = true) (h : ∀ b ∈ L, rnE zs b = 0) : ∀ x ∈ baseL zs L, 0 ≤ x ∧ x ≤ 255 := by
  intro x hx
  unfold baseL at hx
  rw [List.mem_cons] at hx
  rcases hx with rfl | hx
  · omega
  · exact lfL_bd hB h x hx

set_option maxRecDepth 100000 in
set_option maxHeartbeats 8000000 in
theorem reachedOf_any (va : Option Addr) (vl vc : Nat) (zs : List Int) (w : World) (hR : Rl w (.slice va vl vc) zs) (hF : Fits zs) : Calls Try.prog 24 #[.slice va vl vc] w fun e w' =>
    (∃ L v' M, lvA zs = some L ∧ sndB zs = true ∧ e = .returned v' ∧ Rd w' v' M ∧ RcS zs L M ∧ Below w.heap.size w w') ∨ (sndB zs = false ∧ e = .panicked [unS] ∧ Below w.heap.size w w') := by
  have hmm := @run_makeMap Try.prog
  have hmf : ∀ (fn : Fn) (first cap : Array Value) (w : World), (Instr.makeFunc fn first cap).run Try.prog w = .ok (.func fn first cap) w := fun _ _ _ _ => rfl
  have HR : Hid (Rl w (.slice va vl vc) zs) := hR
  have HF : Hid (Fits zs) := hF
  clear hR hF
  obtain ⟨W0, hW⟩ : ∃ W0, W0 = (((w.alloc (.map #[] 0)).alloc (.map #[] 0)).alloc (.cells #[.slice va vl vc, .map (some w.heap.size), .map (some (w.heap.size + 1))] 79)) := ⟨_, rfl⟩
  obtain ⟨s0, u0, t0, b0⟩ := tour_start w W0 _ hW
  have S0 : Hid (St W0 w.heap.size []) := s0
  have U0 : Hid (St W0 (w.heap.size + 1) []) := u0
  have T0 : Hid (Tb W0 (w.heap.size + 1 + 1) (.slice va vl vc) w.heap.size (w.heap.size + 1)) := t0
  have B0 : Hid (Below w.heap.size w W0) := b0
  have HW : Hid (W0 = (((w.alloc (.map #[] 0)).alloc (.map #[] 0)).alloc (.cells #[.slice va vl vc, .map (some w.heap.size), .map (some (w.heap.size + 1))] 79))) := hW
  obtain ⟨c0, c1, c2⟩ := t0.c
  rw [hW] at c1
  clear c0 c2 s0 u0 t0 b0 hW
  cases hs : sndB zs with
  | false =>
    have K27 : Hid (∀ W, Rl W (.slice va vl vc) zs → Calls Try.prog 27 #[.slice va vl vc] W fun e w' => e = .panicked [unS] ∧ Below W.heap.size W w') := fun W h => soundLeaves_bad _ zs W h HF.out hs
    have HS : Hid (sndB zs = false) := hs
    clear hs
    go_enter Try.func24, Try.ntmps24
    go_wp2_with (first
    | (go_at_call 41; rw [← HW.out]; refine (put_any w.heap.size w.heap.size [] 0 _ S0.out (by simp) (by omega)).mono ?_; rintro e w1 ⟨rfl, s1, tn1⟩; have S1 : Hid (St w1 w.heap.size [0]) := s1; have U1 : Hid (St w1 (w.heap.size + 1) []) := U0.out.tn tn1 (by omega) (by omega); have T1 : Hid (Tb w1 (w.heap.size + 1 + 1) (.slice va vl vc) w.heap.size (w.heap.size + 1)) := T0.out.tn tn1 S0.out.ma S0.out.ma; have B1 : Hid (Below w.heap.size w w1) := B0.out.trans (tn1.below (Nat.le_refl _) (Nat.le_refl _) B0.out.size); clear c1 s1 tn1)
      | (go_at_call 27; refine (K27.out _ (HR.out.below B1.out)).mono ?_; rintro e w2 ⟨rfl, hb2⟩))
    exact ⟨rfl, .inr ⟨by trivial, rfl, B1.out.trans (hb2.mono B1.out.size)⟩⟩
  | true =>
    obtain ⟨L, hL⟩ := snd_leaves hs
    obtain ⟨hB, hnd, hok, hhd⟩ := lvA_out hL
    have K27 : Hid (∀ W, Rl W (.slice va vl vc) zs → Calls Try.prog 27 #[.slice va vl vc] W fun e w' => ∃ v' P, L = P.map Prod.fst ∧ e = .returned v' ∧ Lv zs w' W.heap.size v' P ∧ Below W.heap.size W w') := fun W h => soundLeaves_ok _ zs W h HF.out hs hL
    have HS : Hid (sndB zs = true) := hs
    have HL : Hid (lvA zs = some L) := hL
    have HB : Hid (rdB zs = true) := hB
    have Hok : Hid (∀ b ∈ L, rnE zs b = 0) := fun b hb => (hok b hb).2.1
    have Hlen : Hid (L.length ≤ 256) := lv_len hB hnd (fun b hb => (hok b hb).2.1)
    have k38 := fun W (hW : Rl W (.slice va vl vc) zs) => Sread_any (.slice va vl vc) zs W hW
    obtain ⟨e1, e2, e3⟩ := rd_yes hB
    rw [e1, e2, e3] at k38
    have K38 : Hid (∀ W (hW : Rl W (.slice va vl vc) zs), Calls Try.prog 38 #[.slice va vl vc] W fun e w' => e = .returned (.tuple #[.int .i64 (nbI zs), .int .i64 (rtI zs), .int .i64 0]) ∧ Below W.heap.size W w') := k38
    clear hs hL hB hnd hok hhd k38 e1 e2 e3
    go_enter Try.func24, Try.ntmps24
    go_wp2_with (first
    | (go_at_call 41; rw [← HW.out]; refine (put_any w.heap.size w.heap.size [] 0 _ S0.out (by simp) (by omega)).mono ?_; rintro e w1 ⟨rfl, s1, tn1⟩; have S1 : Hid (St w1 w.heap.size [0]) := s1; have U1 : Hid (St w1 (w.heap.size + 1) []) := U0.out.tn tn1 (by omega) (by omega); have T1 : Hid (Tb w1 (w.heap.size + 1 + 1) (.slice va vl vc) w.heap.size (w.heap.size + 1)) := T0.out.tn tn1 S0.out.ma S0.out.ma; have B1 : Hid (Below w.heap.size w w1) := B0.out.trans (tn1.below (Nat.le_refl _) (Nat.le_refl _) B0.out.size); clear c1 s1 tn1)
      | (go_at_call 27; refine (K27.out _ (HR.out.below B1.out)).mono ?_; rintro e w2 ⟨v2, P, hP, rfl, lv2, hb2⟩; subst hP; have LV : Hid (Lv zs w2 w1.heap.size v2 P) := lv2; obtain ⟨ga, gc, rfl⟩ := lv2.form; have S2 : Hid (St w2 w.heap.size [0]) := S1.out.below hb2; have U2 : Hid (St w2 (w.heap.size + 1) []) := U1.out.below hb2; have T2 : Hid (Tb w2 (w.heap.size + 1 + 1) (.slice va vl vc) w.heap.size (w.heap.size + 1)) := T1.out.below hb2; have B2 : Hid (Below w.heap.size w w2) := B1.out.trans (hb2.mono B1.out.size); have hPl : P.length ≤ 256 := (by have := Hlen.out; rwa [List.length_map] at this); clear lv2 hb2))
    go_loopw [21] (fun i wr => ∃ k : Nat, k ≤ P.length ∧ i = .int .i64 k ∧ St wr w.heap.size ([0] ++ lfL zs ((P.map Prod.fst).take k)) ∧ Tn w.heap.size w.heap.size w2 wr) (fun i _ => P.length - (Go.RowKit.intOf i).toNat)
    case atStart => exact ⟨0, Nat.zero_le _, rfl, S2.out, Tn.refl _ _ _⟩
    case round =>
      obtain ⟨k, hk, rfl, sr, tnr⟩ := hrel
      have Sr : Hid (St wr w.heap.size ([0] ++ lfL zs ((P.map Prod.fst).take k))) := sr
      have Qr : Hid (Tn w.heap.size w.heap.size w2 wr) := tnr
      have Tr : Hid (Tb wr (w.heap.size + 1 + 1) (.slice va vl vc) w.heap.size (w.heap.size + 1)) := T2.out.tn tnr S2.out.ma S2.out.ma
      have Ur : Hid (St wr (w.heap.size + 1) []) := U2.out.tn tnr (by omega) (by omega)
      have lvr := LV.out.tn tnr S2.out.ma S2.out.ma
      have Br : Hid (Below w.heap.size w wr) := B2.out.trans (tnr.below (Nat.le_refl _) (Nat.le_refl _) B2.out.size)
      clear sr tnr
      by_cases hlt : k < P.length
      · obtain ⟨⟨b, u⟩, hbu⟩ : ∃ q, P[k]? = some q := ⟨_, List.getElem?_eq_getElem hlt⟩
        have hu := lvr.rd (b, u) (List.mem_of_getElem? hbu)
        have hLb := map_at hbu
        have hE := Hok.out b (List.mem_of_getElem? hLb)
        have hmay := (rn_may hE).2
        have hbb := blk_bd HB.out hE
        obtain ⟨g, off, c, hv0, d0, d1, d2, d3, d4, d5⟩ := lvr.get hbu
        cases hv0
        obtain ⟨n, hn⟩ : ∃ n, n = rnN zs b := ⟨_, rfl⟩
        dsimp only at hu
        rw [← hn] at hu d0 d1 d2 d3 hmay
        obtain ⟨ua, uc, rfl⟩ := hu.form
        have Hnext : Hid ([0] ++ lfL zs ((P.map Prod.fst).take (k + 1)) = [0] ++ lfL zs ((P.map Prod.fst).take k) ++ rcN n b) := show _ = _ by rw [lfL_next hLb, ← hn, List.append_assoc]
        have HU : Hid (Rd wr (.slice ua n.sl.length uc) n.sl) := hu.rd (Nat.le_trans hmay.len (by omega))
        have Hsl : Hid (∀ y ∈ n.sl, 1 ≤ y ∧ y ≤ 255) := hmay.sl
        have Hz : Hid ((0 ≤ n.lo ∧ n.lo ≤ 255) ∧ n.sl.length ≤ 13) := ⟨⟨hmay.w0, hmay.w9⟩, hmay.len⟩
        have Hb : Hid (0 ≤ b ∧ b ≤ 100000) := show _ ∧ _ by omega
        have hcnt : ([0] ++ lfL zs ((P.map Prod.fst).take k)).length ≤ 50000 := by
          have := lfL_len (zs := zs) (L := (P.map Prod.fst).take k) (fun c hc => Hok.out c (List.mem_of_mem_take hc))
          rw [List.length_take, List.length_map] at this
          rw [List.length_append, List.length_singleton]
          omega
        have Hcnt : Hid (([0] ++ lfL zs ((P.map Prod.fst).take k)).length ≤ 50000) := hcnt
        have hltI : (k : Int) < (P.length : Int) := by omega
        have T3 : Hid (Tb (wr.alloc (.cells #[.int .i64 n.lv, .int .i64 n.tu, .int .i64 n.nx, .int .i64 n.lo, .slice ua n.sl.length uc, .int .i64 b] 50)) (w.heap.size + 1 + 1) (.slice va vl vc) w.heap.size (w.heap.size + 1)) := Tr.out.below (below_new wr (.cells #[.int .i64 n.lv, .int .i64 n.tu, .int .i64 n.nx, .int .i64 n.lo, .slice ua n.sl.length uc, .int .i64 b] 50))
        have X3 : Hid (Lb (wr.alloc (.cells #[.int .i64 n.lv, .int .i64 n.tu, .int .i64 n.nx, .int .i64 n.lo, .slice ua n.sl.length uc, .int .i64 b] 50)) wr.heap.size n.lv n.tu n.nx n.lo (.slice ua n.sl.length uc) b) := lb_new wr n.lv n.tu n.nx n.lo b _
        obtain ⟨e0, e1, e2⟩ := T3.out.c
        obtain ⟨x0, x1, x2, x3, x4, x5⟩ := X3.out.c
        clear hn hE hLb hu hmay hbu lvr hbb hcnt
        go_wp2_with (first
          | (go_at_call 42; refine (reach_any (.slice va vl vc) (.slice ua n.sl.length uc) w.heap.size (w.heap.size + 1) _ n b _ (Sr.out.below (below_new wr (.cells #[.int .i64 n.lv, .int .i64 n.tu, .int .i64 n.nx, .int .i64 n.lo, .slice ua n.sl.length uc, .int .i64 b] 50))) (HU.out.below (below_new wr (.cells #[.int .i64 n.lv, .int .i64 n.tu, .int .i64 n.nx, .int .i64 n.lo, .slice ua n.sl.length uc, .int .i64 b] 50))) Hcnt.out Hz.out.2 Hz.out.1 Hsl.out Hb.out va vl vc rfl).mono ?_; rintro e w4 ⟨rfl, s4, tn4⟩))
        go_roundw
        case rel => exact ⟨k + 1, by omega, by go_num, by rw [Hnext.out]; exact s4, Qr.out.trans ((Tn.of_below (below_new wr (.cells #[.int .i64 n.lv, .int .i64 n.tu, .int .i64 n.nx, .int .i64 n.lo, .slice ua n.sl.length uc, .int .i64 b] 50))).trans tn4)⟩
        case measure => simp [Go.RowKit.intOf]; omega
      · have hltI : ¬ (k : Int) < (P.length : Int) := by omega
        have sr := Sr.out
        rw [List.take_of_length_le (by rw [List.length_map]; omega)] at sr
        have SR : Hid (St wr w.heap.size (baseL zs (P.map Prod.fst))) := sr
        have HRr : Hid (Rl wr (.slice va vl vc) zs) := HR.out.below Br.out
        have k17 := fun W (hW : Rl W (.slice va vl vc) zs) => read_any (.slice va vl vc) zs (rtI zs) W hW
        obtain ⟨n, hn⟩ : ∃ n, n = rnN zs (rtI zs) := ⟨_, rfl⟩
        have HN : Hid (n = rnN zs (rtI zs)) := hn
        have Hlb : Hid ((baseL zs (P.map Prod.fst)).length ≤ 5000) := show _ ≤ _ by
          have := lfL_len (zs := zs) Hok.out
          rw [List.length_map] at this
          unfold baseL
          rw [List.length_cons]
          omega
        rw [← hn] at k17
        clear sr lvr hn
        obtain ⟨lv, tu, nx, lo, sl⟩ := n
        dsimp only at k17
        by_cases hE : rnE zs (rtI zs) = 0
        · rw [hE] at k17
          have K17 : Hid (∀ W (hW : Rl W (.slice va vl vc) zs), Calls Try.prog 17 #[.slice va vl vc, .int .i64 (rtI zs)] W fun e w' => ∃ v', e = .returned (.tuple #[.agg #[.int .i64 lv, .int .i64 tu, .int .i64 nx, .int .i64 lo, v'], .int .i64 0]) ∧ OwnI w' W.heap.size v' sl ∧ Below W.heap.size W w') := k17
          have HE : Hid (rnE zs (rtI zs) = 0) := hE
          clear k17 hE
          go_wp2_with (first
            | (go_at_call 38; refine (K38.out _ HRr.out).mono ?_; rintro e w3 ⟨rfl, hb3⟩; have B3 : Hid (Below wr.heap.size wr (w3.alloc (.cells #[.int .i64 (nbI zs)] 3))) := hb3.alloc hb3.size _; have C3 : Hid (Cl (w3.alloc (.cells #[.int .i64 (nbI zs)] 3)) w3.heap.size (.int .i64 (nbI zs)) 3) := cl_new w3 _ 3; clear hb3)
            | (go_at_call 17; refine (K17.out _ (HRr.out.below B3.out)).mono ?_; rintro e w4 ⟨v4, rfl, r4, hb4⟩; obtain ⟨a1, c1, rfl⟩ := r4.form; have B4 : Hid (Below wr.heap.size wr (w4.alloc (.cells #[.int .i64 lv, .int .i64 tu, .int .i64 nx, .int .i64 lo, .slice a1 sl.length c1] 37))) := bstep B3.out (hb4.alloc hb4.size _); have C4 : Hid (Cl (w4.alloc (.cells #[.int .i64 lv, .int .i64 tu, .int .i64 nx, .int .i64 lo, .slice a1 sl.length c1] 37)) w3.heap.size (.int .i64 (nbI zs)) 3) := C3.out.below (hb4.alloc hb4.size _); have T4 : Hid (Tb (w4.alloc (.cells #[.int .i64 lv, .int .i64 tu, .int .i64 nx, .int .i64 lo, .slice a1 sl.length c1] 37)) (w.heap.size + 1 + 1) (.slice va vl vc) w.heap.size (w.heap.size + 1)) := Tr.out.below B4.out; have X4 : Hid (Nb (w4.alloc (.cells #[.int .i64 lv, .int .i64 tu, .int .i64 nx, .int .i64 lo, .slice a1 sl.length c1] 37)) w4.heap.size lv tu nx lo (.slice a1 sl.length c1)) := nb_new w4 lv tu nx lo _; obtain ⟨e0, e1, e2⟩ := T4.out.c; obtain ⟨x0, x1, x2, x3, x4⟩ := X4.out.c; clear x1 x2 x3 x4 r4 hb4)
            | (go_at_call 43; refine (down_any zs va vl vc w.heap.size (w.heap.size + 1) (by omega) HF.out HB.out 256 (baseL zs (P.map Prod.fst)) [] (rtI zs) lv _ (HRr.out.below B4.out) (SR.out.below B4.out) (Ur.out.below B4.out) List.nodup_nil (fun y hy => by cases hy) (by have := Hlb.out; simp; omega) (by simp)).mono ?_; rintro e w5 ⟨rfl, lR2, lT2, D5, hz5⟩; have MB := (SR.out.below B4.out).ma; have MC := (Ur.out.below B4.out).ma; have D5 : Hid (DS zs w.heap.size (w.heap.size + 1) (w4.alloc (.cells #[.int .i64 lv, .int .i64 tu, .int .i64 nx, .int .i64 lo, .slice a1 sl.length c1] 37)) w5 (baseL zs (P.map Prod.fst)) [] lR2 lT2) := D5; have Z5 : Hid (lv = 0 → lR2 = []) := hz5; have C5 : Hid (Cl w5 w3.heap.size (.int .i64 (nbI zs)) 3) := C4.out.tn D5.out.tn MB MC; have T5 : Hid (Tb w5 (w.heap.size + 1 + 1) (.slice va vl vc) w.heap.size (w.heap.size + 1)) := T4.out.tn D5.out.tn MB MC; have B5 : Hid (Below w.heap.size w w5) := (Br.out.trans (B4.out.mono Br.out.size)).trans (D5.out.tn.below (Nat.le_refl _) (by omega) (Nat.le_trans Br.out.size B4.out.size)); have HRb : Hid (∀ x ∈ baseL zs (P.map Prod.fst) ++ lR2, 0 ≤ x ∧ x ≤ 255) := (show ∀ x ∈ baseL zs (P.map Prod.fst) ++ lR2, 0 ≤ x ∧ x ≤ 255 from fun x hx => (List.mem_append.1 hx).elim (fun h => baseL_bd HB.out Hok.out x h) (fun h => D5.out.bd x h)); have HRl : Hid ((baseL zs (P.map Prod.fst) ++ lR2).length ≤ 100000) := (show _ ≤ _ from by have h1 := D5.out.len; have h2 := lv_len HB.out D5.out.nd D5.out.ok; have h3 := Hlb.out; rw [List.nil_append] at h2; rw [List.length_append]; omega); clear hz5 MB MC e0 e1 e2 x0; obtain ⟨e0, e1, e2⟩ := T5.out.c; clear e0 e2)
            | (go_at_call 46; refine (keys_any w.heap.size _).mono ?_; rintro e w7 ⟨rfl, hw⟩; rw [hw]; clear hw w7)
            | (go_at_call 45; refine (sorted_at w.heap.size _ _ D5.out.sR HRl.out _ (by simp)).mono ?_; rintro e w8 ⟨v8, K, rfl, o8, hK8, hr8, hb8⟩; have B8 := below_new w5 (.cells #[.map (some w.heap.size)] 76); have C8 : Cl w8 w3.heap.size (.int .i64 (nbI zs)) 3 := (C5.out.below B8).below hb8)
            | (go_at_call 44; refine (delete_any v8 K (nbI zs) w3.heap.size _ _ o8 (Nat.le_trans (rise_len hr8 hK8 HRb.out) (by omega)) hb8.size C8 hr8).mono ?_; rintro e w9 ⟨v9, rfl, r9, b9⟩))
          have BW : Below w.heap.size w _ := B5.out
          exact bodyPost_ret (results_tmp rfl _ _ _) rfl (.inl ⟨P.map Prod.fst, v9, _, by first | rfl | exact HL.out, by first | trivial | exact HS.out, rfl, r9, rcs_of hK8 hr8 (fun x hx => List.mem_append_left _ hx) HRb.out (fun hc => hc.elim (fun h => absurd HE.out h) (fun h => by rw [← HN.out] at h; rw [Z5.out h, List.append_nil])), BW.trans ((B8.mono BW.size).trans ((hb8.mono (Nat.le_trans BW.size B8.size)).trans (b9.mono (Nat.le_trans BW.size B8.size))))⟩)
        · have K17 : Hid (∀ W (hW : Rl W (.slice va vl vc) zs), Calls Try.prog 17 #[.slice va vl vc, .int .i64 (rtI zs)] W fun e w' => ∃ v', e = .returned (.tuple #[.agg #[.int .i64 lv, .int .i64 tu, .int .i64 nx, .int .i64 lo, v'], .int .i64 (rnE zs (rtI zs))]) ∧ OwnI w' W.heap.size v' sl ∧ Below W.heap.size W w') := k17
          have HE : Hid (rnE zs (rtI zs) ≠ 0) := hE
          have hEE : (rnE zs (rtI zs) == 0) = false := by simp [hE]
          clear k17 hE
          have HRl : Hid ((baseL zs (P.map Prod.fst)).length ≤ 100000) := Nat.le_trans Hlb.out (by omega)
          have HRb : Hid (∀ x ∈ baseL zs (P.map Prod.fst), 0 ≤ x ∧ x ≤ 255) := baseL_bd HB.out Hok.out
          go_wp2_with (first
            | (go_at_call 38; refine (K38.out _ HRr.out).mono ?_; rintro e w3 ⟨rfl, hb3⟩; have B3 : Hid (Below wr.heap.size wr (w3.alloc (.cells #[.int .i64 (nbI zs)] 3))) := hb3.alloc hb3.size _; have C3 : Hid (Cl (w3.alloc (.cells #[.int .i64 (nbI zs)] 3)) w3.heap.size (.int .i64 (nbI zs)) 3) := cl_new w3 _ 3; clear hb3)
            | (go_at_call 17; refine (K17.out _ (HRr.out.below B3.out)).mono ?_; rintro e w4 ⟨v4, rfl, r4, hb4⟩; obtain ⟨a1, c1, rfl⟩ := r4.form; have B4 : Hid (Below wr.heap.size wr (w4.alloc (.cells #[.int .i64 lv, .int .i64 tu, .int .i64 nx, .int .i64 lo, .slice a1 sl.length c1] 37))) := bstep B3.out (hb4.alloc hb4.size _); have C4 : Hid (Cl (w4.alloc (.cells #[.int .i64 lv, .int .i64 tu, .int .i64 nx, .int .i64 lo, .slice a1 sl.length c1] 37)) w3.heap.size (.int .i64 (nbI zs)) 3) := C3.out.below (hb4.alloc hb4.size _); have T4 : Hid (Tb (w4.alloc (.cells #[.int .i64 lv, .int .i64 tu, .int .i64 nx, .int .i64 lo, .slice a1 sl.length c1] 37)) (w.heap.size + 1 + 1) (.slice va vl vc) w.heap.size (w.heap.size + 1)) := Tr.out.below B4.out; have X4 : Hid (Nb (w4.alloc (.cells #[.int .i64 lv, .int .i64 tu, .int .i64 nx, .int .i64 lo, .slice a1 sl.length c1] 37)) w4.heap.size lv tu nx lo (.slice a1 sl.length c1)) := nb_new w4 lv tu nx lo _; obtain ⟨e0, e1, e2⟩ := T4.out.c; obtain ⟨x0, x1, x2, x3, x4⟩ := X4.out.c; clear x1 x2 x3 x4 r4 hb4 e0 e2 x0)
            | (go_at_call 46; refine (keys_any w.heap.size _).mono ?_; rintro e w7 ⟨rfl, hw⟩; rw [hw]; clear hw w7)
            | (go_at_call 45; refine (sorted_at w.heap.size _ _ (SR.out.below B4.out) HRl.out _ (by simp)).mono ?_; rintro e w8 ⟨v8, K, rfl, o8, hK8, hr8, hb8⟩; have B8 := below_new (w4.alloc (.cells #[.int .i64 lv, .int .i64 tu, .int .i64 nx, .int .i64 lo, .slice a1 sl.length c1] 37)) (.cells #[.map (some w.heap.size)] 76); have C8 : Cl w8 w3.heap.size (.int .i64 (nbI zs)) 3 := (C4.out.below B8).below hb8)
            | (go_at_call 44; refine (delete_any v8 K (nbI zs) w3.heap.size _ _ o8 (Nat.le_trans (rise_len hr8 hK8 HRb.out) (by omega)) hb8.size C8 hr8).mono ?_; rintro e w9 ⟨v9, rfl, r9, b9⟩))
          have BW : Below w.heap.size w _ := Br.out.trans (B4.out.mono Br.out.size)
          exact bodyPost_ret (results_tmp rfl _ _ _) rfl (.inl ⟨P.map Prod.fst, v9, _, by first | rfl | exact HL.out, by first | trivial | exact HS.out, rfl, r9, rcs_of hK8 hr8 (fun x hx => hx) HRb.out (fun _ => rfl), BW.trans ((B8.mono BW.size).trans ((hb8.mono (Nat.le_trans BW.size B8.size)).trans (b9.mono (Nat.le_trans BW.size B8.size))))⟩)
end Go.Proofs.Ytgcdhenbpkcmgaa
