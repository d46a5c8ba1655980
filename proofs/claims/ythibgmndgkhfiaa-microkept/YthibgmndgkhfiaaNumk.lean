/- Small steps as plain lists: steps of lines that are not the same. No program. -/
import Derived.Test.YthibgmndgkhfiaaNumj
namespace Go.Proofs.Ythibgmndgkhfiaa

/-- A step's line. -/
def lnM (x : Mi) : Int := if x.k = 1 then x.a / 8 else x.a
theorem lnM_one {x : Mi} (h : x.k = 1) : lnM x = x.a / 8 := by unfold lnM; rw [if_pos h]
theorem lnM_two {x : Mi} (h : x.k = 2) : lnM x = x.a := by unfold lnM; rw [if_neg (by omega)]
def flt (t : Nat) (l : List Mi) : List Mi := l.filter fun x => decide (lnM x = (t : Int))
theorem flt_turn {a b : List Mi} (h : ∀ x ∈ a, ∀ y ∈ b, lnM x ≠ lnM y) (t : Nat) : flt t (a ++ b) = flt t (b ++ a) := by
  unfold flt
  rw [List.filter_append, List.filter_append]
  by_cases ha : ∃ x ∈ a, lnM x = (t : Int)
  · obtain ⟨x, hx, he⟩ := ha
    have : b.filter (fun x => decide (lnM x = (t : Int))) = [] := by
      rw [List.filter_eq_nil_iff]
      intro y hy
      simp only [decide_eq_true_eq]
      exact fun e => h x hx y hy (he.trans e.symm)
    rw [this]; simp
  · have : a.filter (fun x => decide (lnM x = (t : Int))) = [] := by
      rw [List.filter_eq_nil_iff]
      intro y hy
      simp only [decide_eq_true_eq]
      exact fun e => ha ⟨y, hy, e⟩
    rw [this]; simp
/-- All of them may be. -/
def Val (n : Nat) (l : List Mi) : Prop := ∀ x ∈ l, miB (n : Int) x = true
theorem val_of {m : Mm} {l : List Mi} (h : mrB m l = true) : Val m.vol.length l := (chB_all (mrB_out h).2).2
theorem mi_one {n : Int} {x : Mi} (h : miB n x = true) (hk : x.k = 1) : 0 ≤ x.a ∧ x.a < n := by rw [miB_one hk] at h; exact of_decide_eq_true h
theorem mi_two {n : Int} {x : Mi} (h : miB n x = true) (hk : x.k = 2) : 0 ≤ x.a ∧ x.a < n / 8 := by rw [miB_two hk] at h; have := of_decide_eq_true h; exact ⟨this.1, this.2.1⟩

/-- What is seen, place by place. -/
theorem do_vol {m : Mm} (hm : Ok m) {x : Mi} (hx : miB (m.vol.length : Int) x = true) {i : Nat} (hl : lnM x ≠ ((i / 8 : Nat) : Int)) : (doM m x).vol[i]? = m.vol[i]? := by
  rcases miB_kind hx with k | k
  · obtain ⟨h0, h1⟩ := mi_one hx k
    rw [lnM_one k] at hl
    rw [doM_one k, putM_yes (putB_yes (ok_true hm) h0 h1)]
    exact List.getElem?_set_ne (by omega)
  · rw [doM_two k, vol_fen, vol_flu]
theorem do_vol2 {m1 m2 : Mm} (h1 : Ok m1) (h2 : Ok m2) (hn : m1.vol.length = m2.vol.length) {x : Mi} (hx : miB (m1.vol.length : Int) x = true) {i : Nat} (he : m1.vol[i]? = m2.vol[i]?) : (doM m1 x).vol[i]? = (doM m2 x).vol[i]? := by
  rcases miB_kind hx with k | k
  · obtain ⟨a0, a1⟩ := mi_one hx k
    rw [doM_one k, doM_one k, putM_yes (putB_yes (ok_true h1) a0 a1), putM_yes (putB_yes (ok_true h2) a0 (by rw [← hn]; exact a1))]
    exact put1_congr hn he ⟨x.a, x.v, false⟩
  · rw [doM_two k, doM_two k, vol_fen, vol_flu, vol_fen, vol_flu]; exact he
theorem run_vol {m1 m2 : Mm} (h1 : Ok m1) (h2 : Ok m2) (hn : m1.vol.length = m2.vol.length) {l : List Mi} (hl : Val m1.vol.length l) {i : Nat} (he : m1.vol[i]? = m2.vol[i]?) : (runM m1 l).vol[i]? = (runM m2 (flt (i / 8) l)).vol[i]? := by
  induction l generalizing m1 m2 with
  | nil => exact he
  | cons x l ih =>
    have hx := hl x (by simp)
    have hl' : Val (doM m1 x).vol.length l := by rw [(do_len m1 x).1]; exact fun y hy => hl y (by simp [hy])
    by_cases h : lnM x = ((i / 8 : Nat) : Int)
    · have : flt (i / 8) (x :: l) = x :: flt (i / 8) l := by unfold flt; rw [List.filter_cons_of_pos (by simpa using h)]
      rw [this]
      exact ih (ok_do h1 x) (ok_do h2 x) (by rw [(do_len m1 x).1, (do_len m2 x).1, hn]) hl' (do_vol2 h1 h2 hn hx he)
    · have : flt (i / 8) (x :: l) = flt (i / 8) l := by unfold flt; rw [List.filter_cons_of_neg (by simpa using h)]
      rw [this]
      exact ih (ok_do h1 x) h2 (by rw [(do_len m1 x).1, hn]) hl' ((do_vol h1 hx h).trans he)
theorem vol_turn {m : Mm} (hm : Ok m) {a b : List Mi} (ha : Val m.vol.length a) (hb : Val m.vol.length b) (h : ∀ x ∈ a, ∀ y ∈ b, lnM x ≠ lnM y) : (runM m (a ++ b)).vol = (runM m (b ++ a)).vol := by
  have hv : ∀ {p q : List Mi}, Val m.vol.length p → Val m.vol.length q → Val m.vol.length (p ++ q) := fun hp hq x hx => (List.mem_append.1 hx).elim (hp x) (hq x)
  refine List.ext_getElem? fun i => ?_
  rw [run_vol hm hm rfl (hv ha hb) rfl, run_vol hm hm rfl (hv hb ha) rfl, flt_turn h]

/-- Nothing is flushed. -/
def Unf (m : Mm) : Prop := ∀ p ∈ m.pend, p.f = false
theorem line_ok {m : Mm} (hm : Ok m) {x : Mi} (hx : miB (m.vol.length : Int) x = true) (k : x.k = 2) : lnB m x.a = true := lnB_yes (ok_true hm) (decide_eq_true (mi_two hx k))
theorem ff_evi {m : Mm} (hm : Ok m) (hu : Unf m) {n : Int} (hl : lnB m n = true) : fenM (fluM m n) = eviM m n := by
  have ho := ok_true (ok_flu hm n)
  have e1 : fluM m n = ⟨m.vol, m.per, m.pend.map (fluP n)⟩ := by unfold fluM; rw [hl]; rfl
  unfold fenM eviM
  rw [ho, hl, e1]
  have key : ∀ (ps : List Pd), (∀ p ∈ ps, p.f = false) → ∀ l : List Int, kPer l ((ps.map (fluP n)).zip ((ps.map (fluP n)).map (·.f))) = kPer l (ps.zip (ps.map fun p => decide (p.a / 8 = n))) ∧ kPend ((ps.map (fluP n)).zip ((ps.map (fluP n)).map (·.f))) = kPend (ps.zip (ps.map fun p => decide (p.a / 8 = n))) := by
    intro ps
    induction ps with
    | nil => intro _ l; exact ⟨rfl, rfl⟩
    | cons p ps ih =>
      intro h l
      have hp := h p (by simp)
      have ih := ih fun q hq => h q (by simp [hq])
      have hf : (fluP n p).f = decide (p.a / 8 = n) := by rw [fluP_f, hp]; rfl
      constructor
      · show kPer (kStep l (fluP n p, (fluP n p).f)) _ = kPer (kStep l (p, decide (p.a / 8 = n))) _
        have : kStep l (fluP n p, (fluP n p).f) = kStep l (p, decide (p.a / 8 = n)) := by
          unfold kStep
          rw [hf]
          split
          · unfold put1; rw [fluP_a, fluP_v]
          · rfl
        rw [this]
        exact (ih _).1
      · unfold kPend at ih ⊢
        have h2 := (ih l).2
        simp only [List.map_cons, List.zip_cons_cons, List.filter_cons]
        rw [hf]
        by_cases hn : p.a / 8 = n
        · simp only [hn, decide_true, Bool.not_true, Bool.false_eq_true, if_false]
          exact h2
        · simp only [hn, decide_false, Bool.not_false, if_true, List.map_cons]
          rw [h2]
          congr 1
          unfold fluP; rw [if_neg hn]
  have := key m.pend hu m.per
  show kM _ _ = kM _ _
  unfold kM
  rw [this.1, this.2]
theorem unf_do {m : Mm} (hm : Ok m) (hu : Unf m) {x : Mi} (hx : miB (m.vol.length : Int) x = true) : Unf (doM m x) := by
  rcases miB_kind hx with k | k
  · obtain ⟨h0, h1⟩ := mi_one hx k
    rw [doM_one k, putM_yes (putB_yes (ok_true hm) h0 h1)]
    intro p hp
    rcases List.mem_append.1 hp with hp | hp
    · exact hu p hp
    · rw [List.mem_singleton.1 hp]
  · rw [doM_two k, ff_evi hm hu (line_ok hm hx k)]
    intro p hp
    rw [evi_pend (line_ok hm hx k)] at hp
    exact hu p (List.mem_filter.1 hp).1
/-- Two memories are alike in a line. -/
def Lk (t : Nat) (m1 m2 : Mm) : Prop := (∀ i, i / 8 = t → m1.per[i]? = m2.per[i]?) ∧ lin t m1.pend = lin t m2.pend
theorem lin_app (t : Nat) (ps qs : List Pd) : lin t (ps ++ qs) = lin t ps ++ lin t qs := by unfold lin; rw [List.filter_append]
theorem lin_filter {t : Nat} {n : Int} (h : n ≠ (t : Int)) {ps : List Pd} (h0 : ∀ p ∈ ps, 0 ≤ p.a) : lin t (ps.filter fun p => !decide (p.a / 8 = n)) = lin t ps := by
  unfold lin
  rw [List.filter_filter]
  refine List.filter_congr fun p hp => ?_
  have := h0 p hp
  unfold lnN
  by_cases hp1 : (p.a / 8).toNat = t
  · have : ¬ p.a / 8 = n := by omega
    simp [hp1, this]
  · simp [hp1]
theorem lin_same {t : Nat} {ps : List Pd} (h0 : ∀ p ∈ ps, 0 ≤ p.a) : lin t (ps.filter fun p => !decide (p.a / 8 = (t : Int))) = [] := by
  refine lin_none fun p hp => ?_
  have h1 := (List.mem_filter.1 hp).2
  have := h0 p (List.mem_filter.1 hp).1
  simp only [Bool.not_eq_true', decide_eq_false_iff_not] at h1
  unfold lnN
  omega
theorem ok_pos {m : Mm} (hm : Ok m) : ∀ p ∈ m.pend, 0 ≤ p.a := fun p hp => (hm.2.2.2.1 p hp).1
/-- A line that is evicted holds what was pending there. -/
theorem evi_at {m : Mm} (hm : Ok m) {t : Nat} (hl : lnB m (t : Int) = true) {i : Nat} : (eviM m (t : Int)).per[i]? = (putAll m.per (lin t m.pend))[i]? := by
  have key : ∀ (ps : List Pd), (∀ p ∈ ps, 0 ≤ p.a) → ∀ l : List Int, (kPer l (ps.zip (ps.map fun p => decide (p.a / 8 = (t : Int)))))[i]? = (putAll l (lin t ps))[i]? := by
    intro ps
    induction ps with
    | nil => intro _ l; rfl
    | cons p ps ih =>
      intro h l
      have h0 := h p (by simp)
      have ih := ih fun q hq => h q (by simp [hq])
      show (kPer (kStep l (p, decide (p.a / 8 = (t : Int)))) _)[i]? = _
      by_cases hp : p.a / 8 = (t : Int)
      · have e : lin t (p :: ps) = p :: lin t ps := by unfold lin; rw [List.filter_cons_of_pos (p := fun p => decide (lnN p = t)) (decide_eq_true (show lnN p = t by unfold lnN; omega))]
        rw [e]
        have : kStep l (p, decide (p.a / 8 = (t : Int))) = put1 l p := by unfold kStep; rw [decide_eq_true hp]; rfl
        rw [this]
        exact ih _
      · have e : lin t (p :: ps) = lin t ps := by unfold lin; rw [List.filter_cons_of_neg (by rw [decide_eq_false (show ¬ lnN p = t by unfold lnN; omega)]; simp)]
        rw [e]
        have : kStep l (p, decide (p.a / 8 = (t : Int))) = l := by unfold kStep; rw [decide_eq_false hp]; rfl
        rw [this]
        exact ih _
  unfold eviM
  rw [hl]
  exact key m.pend (ok_pos hm) m.per
theorem putAll_congr {l l' : List Int} (hl : l.length = l'.length) {i : Nat} (h : l[i]? = l'[i]?) (ps : List Pd) : (putAll l ps)[i]? = (putAll l' ps)[i]? := by
  induction ps generalizing l l' with
  | nil => exact h
  | cons p ps ih => exact ih (by rw [put1_length, put1_length, hl]) (put1_congr hl h p)
theorem lk_other {m : Mm} (hm : Ok m) (hu : Unf m) {x : Mi} (hx : miB (m.vol.length : Int) x = true) {t : Nat} (hl : lnM x ≠ (t : Int)) : Lk t (doM m x) m := by
  rcases miB_kind hx with k | k
  · obtain ⟨h0, h1⟩ := mi_one hx k
    rw [lnM_one k] at hl
    rw [doM_one k, putM_yes (putB_yes (ok_true hm) h0 h1)]
    refine ⟨fun _ _ => rfl, ?_⟩
    show lin t (m.pend ++ [⟨x.a, x.v, false⟩]) = _
    rw [lin_app, lin_none (ps := [⟨x.a, x.v, false⟩]) (fun p hp => by rw [List.mem_singleton.1 hp]; unfold lnN; dsimp only; omega), List.append_nil]
  · have hln := line_ok hm hx k
    rw [lnM_two k] at hl
    rw [doM_two k, ff_evi hm hu hln]
    refine ⟨fun i hi => evi_per hm (by omega), ?_⟩
    rw [evi_pend hln, lin_filter hl (ok_pos hm)]
theorem lk_same {m1 m2 : Mm} (h1 : Ok m1) (h2 : Ok m2) (u1 : Unf m1) (u2 : Unf m2) (hn : m1.vol.length = m2.vol.length) {x : Mi} (hx : miB (m1.vol.length : Int) x = true) {t : Nat} (hl : lnM x = (t : Int)) (h : Lk t m1 m2) : Lk t (doM m1 x) (doM m2 x) := by
  have hx2 : miB (m2.vol.length : Int) x = true := by rw [← hn]; exact hx
  rcases miB_kind hx with k | k
  · obtain ⟨a0, a1⟩ := mi_one hx k
    rw [doM_one k, doM_one k, putM_yes (putB_yes (ok_true h1) a0 a1), putM_yes (putB_yes (ok_true h2) a0 (by rw [← hn]; exact a1))]
    refine ⟨h.1, ?_⟩
    show lin t (m1.pend ++ _) = lin t (m2.pend ++ _)
    rw [lin_app, lin_app, h.2]
  · have n1 := line_ok h1 hx k
    have n2 := line_ok h2 hx2 k
    rw [lnM_two k] at hl
    rw [doM_two k, doM_two k, ff_evi h1 u1 n1, ff_evi h2 u2 n2]
    rw [hl] at n1 n2 ⊢
    refine ⟨fun i hi => ?_, ?_⟩
    · rw [evi_at h1 n1, evi_at h2 n2, h.2]
      exact putAll_congr (by rw [h1.1, h2.1, hn]) (h.1 i hi) _
    · rw [evi_pend n1, evi_pend n2, lin_same (ok_pos h1), lin_same (ok_pos h2)]
theorem run_per {m1 m2 : Mm} (h1 : Ok m1) (h2 : Ok m2) (u1 : Unf m1) (u2 : Unf m2) (hn : m1.vol.length = m2.vol.length) {l : List Mi} (hl : Val m1.vol.length l) {t : Nat} (h : Lk t m1 m2) : Lk t (runM m1 l) (runM m2 (flt t l)) := by
  induction l generalizing m1 m2 with
  | nil => exact h
  | cons x l ih =>
    have hx := hl x (by simp)
    have hx2 : miB (m2.vol.length : Int) x = true := by rw [← hn]; exact hx
    have hl' : Val (doM m1 x).vol.length l := by rw [(do_len m1 x).1]; exact fun y hy => hl y (by simp [hy])
    by_cases ht : lnM x = (t : Int)
    · have : flt t (x :: l) = x :: flt t l := by unfold flt; rw [List.filter_cons_of_pos (by simpa using ht)]
      rw [this]
      exact ih (ok_do h1 x) (ok_do h2 x) (unf_do h1 u1 hx) (unf_do h2 u2 hx2) (by rw [(do_len m1 x).1, (do_len m2 x).1, hn]) hl' (lk_same h1 h2 u1 u2 hn hx ht h)
    · have : flt t (x :: l) = flt t l := by unfold flt; rw [List.filter_cons_of_neg (by simpa using ht)]
      rw [this]
      have ho := lk_other h1 u1 hx ht
      exact ih (ok_do h1 x) h2 (unf_do h1 u1 hx) u2 (by rw [(do_len m1 x).1, hn]) hl' ⟨fun i hi => (ho.1 i hi).trans (h.1 i hi), ho.2.trans h.2⟩
theorem per_turn {m : Mm} (hm : Ok m) (hu : Unf m) {a b : List Mi} (ha : Val m.vol.length a) (hb : Val m.vol.length b) (h : ∀ x ∈ a, ∀ y ∈ b, lnM x ≠ lnM y) : (runM m (a ++ b)).per = (runM m (b ++ a)).per := by
  have hv : ∀ {p q : List Mi}, Val m.vol.length p → Val m.vol.length q → Val m.vol.length (p ++ q) := fun hp hq x hx => (List.mem_append.1 hx).elim (hp x) (hq x)
  refine List.ext_getElem? fun i => ?_
  have r1 := (run_per hm hm hu hu rfl (hv ha hb) (t := i / 8) ⟨fun _ _ => rfl, rfl⟩).1 i rfl
  have r2 := (run_per hm hm hu hu rfl (hv hb ha) (t := i / 8) ⟨fun _ _ => rfl, rfl⟩).1 i rfl
  rw [r1, r2, flt_turn h]
end Go.Proofs.Ythibgmndgkhfiaa
