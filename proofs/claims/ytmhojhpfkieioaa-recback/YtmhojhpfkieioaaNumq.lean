/- What is kept, and what stays: no program. · What a crash keeps, line by line: no program. · Small steps as plain lists: no program. -/
import Derived.Test.YtmhojhpfkieioaaNuma
namespace Go.Proofs.Ytmhojhpfkieioaa

/-- Of one line what is kept stands ahead of what is not. -/
def PrefZ (zs : List (Pd × Bool)) : Prop := zs.Pairwise fun x y => y.2 = true → x.1.a / 8 = y.1.a / 8 → x.2 = true
theorem prefZ_snoc {zs : List (Pd × Bool)} {x : Pd × Bool} : PrefZ (zs ++ [x]) ↔ PrefZ zs ∧ ∀ y ∈ zs, x.2 = true → y.1.a / 8 = x.1.a / 8 → y.2 = true := by
  unfold PrefZ
  rw [List.pairwise_append]
  simp
theorem put1_comm {l : List Int} {p q : Pd} (h : p.a.toNat ≠ q.a.toNat) : put1 (put1 l p) q = put1 (put1 l q) p := List.set_comm _ _ h
theorem putAll_comm {l : List Int} {ps : List Pd} {p : Pd} (h : ∀ q ∈ ps, q.a.toNat ≠ p.a.toNat) : putAll (put1 l p) ps = put1 (putAll l ps) p := by
  induction ps generalizing l with
  | nil => rfl
  | cons q ps ih =>
    show putAll (put1 (put1 l p) q) ps = put1 (putAll (put1 l q) ps) p
    rw [put1_comm (fun e => h q (by simp) e.symm), ih (fun r hr => h r (by simp [hr]))]
theorem kPend_mem {zs : List (Pd × Bool)} {p : Pd} (h : p ∈ kPend zs) : (p, false) ∈ zs := by
  unfold kPend at h
  obtain ⟨x, hx, rfl⟩ := List.mem_map.1 h
  obtain ⟨h1, h2⟩ := List.mem_filter.1 hx
  obtain ⟨a, b⟩ := x
  have : b = false := by simpa using h2
  subst this
  exact h1
theorem keep_vol (l : List Int) (zs : List (Pd × Bool)) (hI : ∀ x ∈ zs, 0 ≤ x.1.a) (hP : PrefZ zs) : putAll (kPer l zs) (kPend zs) = putAll l (zs.map (·.1)) := by
  induction zs using snoc_ind with
  | h0 => rfl
  | h1 zs x ih =>
    obtain ⟨hP, hx⟩ := prefZ_snoc.1 hP
    have ih := ih (fun y hy => hI y (by simp [hy])) hP
    obtain ⟨p, b⟩ := x
    have e1 : (zs ++ [(p, b)]).map (·.1) = zs.map (·.1) ++ [p] := by simp
    rw [e1, putAll_append]
    cases b
    · have e2 : kPend (zs ++ [(p, false)]) = kPend zs ++ [p] := congrArg Mm.pend (kM_no ⟨[], [], []⟩ zs p)
      have e3 : kPer l (zs ++ [(p, false)]) = kPer l zs := congrArg Mm.per (kM_no ⟨[], l, []⟩ zs p)
      rw [e2, e3, putAll_append, ih]
    · have e2 : kPend (zs ++ [(p, true)]) = kPend zs := congrArg Mm.pend (kM_yes ⟨[], [], []⟩ zs p)
      have e3 : kPer l (zs ++ [(p, true)]) = put1 (kPer l zs) p := congrArg Mm.per (kM_yes ⟨[], l, []⟩ zs p)
      rw [e2, e3, putAll_comm, ih]
      · rfl
      · intro q hq e
        have hq' := kPend_mem hq
        have h0 := hI (q, false) (by simp [hq'])
        have h1 := hI (p, true) (by simp)
        have : (false : Bool) = true := hx (q, false) hq' rfl (by show q.a / 8 = p.a / 8; have h0 : 0 ≤ q.a := h0; have h1 : 0 ≤ p.a := h1; have : q.a = p.a := by omega
                                                                  rw [this])
        cases this
theorem kPend_sub (zs : List (Pd × Bool)) : (kPend zs).Sublist (zs.map (·.1)) := by
  unfold kPend
  exact List.Sublist.map _ List.filter_sublist
theorem zip_fst {ps : List Pd} {bs : List Bool} (h : bs.length = ps.length) : (ps.zip bs).map (·.1) = ps := List.map_fst_zip (by omega)
theorem ok_kM {m : Mm} {bs : List Bool} (h : Ok m) (hl : bs.length = m.pend.length) (hP : PrefZ (m.pend.zip bs)) : Ok (kM m (m.pend.zip bs)) := by
  obtain ⟨k1, k2, k3, k4, k5, k6⟩ := h
  have hf := zip_fst hl
  have hs := kPend_sub (m.pend.zip bs)
  rw [hf] at hs
  refine ⟨by show (kPer _ _).length = _; rw [kPer_length]; exact k1, k2, k3, fun p hp => k4 p (hs.subset hp), List.Pairwise.sublist hs k5, ?_⟩
  show putAll (kPer m.per _) (kPend _) = m.vol
  rw [keep_vol _ _ (fun x hx => (k4 x.1 (by rw [← hf]; exact List.mem_map_of_mem hx)).1) hP, hf, k6]
theorem pref_of {ps : List Pd} {f : Pd → Bool} (h : ps.Pairwise fun p q => f q = true → p.a / 8 = q.a / 8 → f p = true) : PrefZ (ps.zip (ps.map f)) := by
  unfold PrefZ
  have e : ps.zip (ps.map f) = ps.map fun p => (p, f p) := by
    clear h
    induction ps with
    | nil => rfl
    | cons p ps ih => simp [ih]
  rw [e, List.pairwise_map]
  exact h
theorem ok_fen {m : Mm} (h : Ok m) : Ok (fenM m) := by
  unfold fenM
  rw [ok_true h]
  exact ok_kM h (by simp) (pref_of h.2.2.2.2.1)
theorem ok_syn {m : Mm} (h : Ok m) : Ok (synM m) := by
  unfold synM
  rw [ok_true h]
  exact ok_kM h (by simp) (pref_of (List.pairwise_of_forall fun _ _ _ _ => rfl))
theorem ok_evi {m : Mm} (h : Ok m) (n : Int) : Ok (eviM m n) := by
  unfold eviM
  cases lnB m n
  · exact h
  · refine ok_kM h (by simp) (pref_of (List.pairwise_of_forall fun p q hq e => ?_))
    have hq := of_decide_eq_true hq
    exact decide_eq_true (by rw [e]; exact hq)
theorem fluP_a (n : Int) (p : Pd) : (fluP n p).a = p.a := by unfold fluP; split <;> rfl
theorem fluP_v (n : Int) (p : Pd) : (fluP n p).v = p.v := by unfold fluP; split <;> rfl
theorem fluP_f (n : Int) (p : Pd) : (fluP n p).f = (p.f || decide (p.a / 8 = n)) := by unfold fluP; split <;> simp_all
theorem putAll_flu (l : List Int) (n : Int) (ps : List Pd) : putAll l (ps.map (fluP n)) = putAll l ps := by
  induction ps generalizing l with
  | nil => rfl
  | cons p ps ih =>
    have : put1 l (fluP n p) = put1 l p := by unfold put1; rw [fluP_a, fluP_v]
    show putAll (put1 l (fluP n p)) _ = putAll (put1 l p) ps
    rw [this, ih]
theorem ok_flu {m : Mm} (h : Ok m) (n : Int) : Ok (fluM m n) := by
  unfold fluM
  cases lnB m n
  · exact h
  · obtain ⟨k1, k2, k3, k4, k5, k6⟩ := h
    refine ⟨k1, k2, k3, ?_, ?_, ?_⟩
    · intro p hp
      obtain ⟨q, hq, rfl⟩ := List.mem_map.1 hp
      rw [fluP_a]
      exact k4 q hq
    · show (m.pend.map (fluP n)).Pairwise Fit
      rw [List.pairwise_map]
      refine List.Pairwise.imp ?_ k5
      intro p q hpq hf e
      rw [fluP_a, fluP_a] at e
      rw [fluP_f] at hf ⊢
      rw [Bool.or_eq_true] at hf ⊢
      rcases hf with hf | hf
      · exact .inl (hpq hf e)
      · exact .inr (decide_eq_true (by rw [e]; exact of_decide_eq_true hf))
    · show putAll m.per (m.pend.map (fluP n)) = m.vol
      rw [putAll_flu, k6]
theorem vol_flu (m : Mm) (n : Int) : (fluM m n).vol = m.vol := by unfold fluM; split <;> rfl
theorem vol_fen (m : Mm) : (fenM m).vol = m.vol := by unfold fenM; split <;> rfl
theorem vol_evi (m : Mm) (n : Int) : (eviM m n).vol = m.vol := by unfold eviM; split <;> rfl
theorem vol_syn (m : Mm) : (synM m).vol = m.vol := by unfold synM; split <;> rfl
theorem all_true (ps : List Pd) (l : List Int) : kPend (ps.zip (ps.map fun _ => true)) = [] ∧ kPer l (ps.zip (ps.map fun _ => true)) = putAll l ps := by
  induction ps generalizing l with
  | nil => exact ⟨rfl, rfl⟩
  | cons p ps ih =>
    refine ⟨?_, ?_⟩
    · have := (ih []).1
      simp [kPend] at this ⊢
      exact this
    · exact (ih (put1 l p)).2
theorem syn_pend {m : Mm} (h : Ok m) : (synM m).pend = [] ∧ (synM m).per = m.vol := by
  unfold synM
  rw [ok_true h]
  obtain ⟨h1, h2⟩ := all_true m.pend m.per
  exact ⟨h1, by show kPer m.per _ = _; rw [h2, h.2.2.2.2.2]⟩
theorem ok_putM {m : Mm} (h : Ok m) (i v : Int) : Ok (putM m i v) := by
  cases hb : putB m i
  · rw [putM_no hb]; exact h
  · exact ok_put hb
end Go.Proofs.Ytmhojhpfkieioaa
namespace Go.Proofs.Ytmhojhpfkieioaa

/-- Of a line's, as many are kept as x says. -/
def crG (x : Int) (l : List Int) : List Pd → List Int
  | [] => l
  | p :: ps => if 0 < x then crG (x - 1) (put1 l p) ps else crG x l ps
theorem crG_cons (x : Int) (l : List Int) (p : Pd) (ps : List Pd) : crG x l (p :: ps) = if 0 < x then crG (x - 1) (put1 l p) ps else crG x l ps := rfl
def lin (t : Nat) (ps : List Pd) : List Pd := ps.filter fun p => decide (lnN p = t)
theorem crG_length (x : Int) (l : List Int) (ps : List Pd) : (crG x l ps).length = l.length := by
  induction ps generalizing x l with
  | nil => rfl
  | cons p ps ih =>
    unfold crG
    split
    · rw [ih, put1_length]
    · exact ih x l
theorem put1_congr {l l' : List Int} {i : Nat} (hl : l.length = l'.length) (h : l[i]? = l'[i]?) (p : Pd) : (put1 l p)[i]? = (put1 l' p)[i]? := by
  unfold put1
  rw [List.getElem?_set, List.getElem?_set, hl, h]
theorem crG_congr {l l' : List Int} {i : Nat} (hl : l.length = l'.length) (h : l[i]? = l'[i]?) (x : Int) (ps : List Pd) : (crG x l ps)[i]? = (crG x l' ps)[i]? := by
  induction ps generalizing x l l' with
  | nil => exact h
  | cons p ps ih =>
    unfold crG
    split
    · exact ih (by rw [put1_length, put1_length, hl]) (put1_congr hl h p) _
    · exact ih hl h _
theorem put1_far {l : List Int} {p : Pd} {i : Nat} (h : p.a.toNat ≠ i) : (put1 l p)[i]? = l[i]? := List.getElem?_set_ne h
theorem lnN_ne {p : Pd} {i : Nat} (h0 : 0 ≤ p.a) (h : lnN p ≠ i / 8) : p.a.toNat ≠ i := by
  intro e
  apply h
  unfold lnN
  omega
theorem crG_none (l : List Int) (ps : List Pd) (x : Int) (hx : x ≤ 0) : crG x l ps = l := by
  induction ps with
  | nil => rfl
  | cons p ps ih => unfold crG; rw [if_neg (by omega)]; exact ih
theorem crG_all (l : List Int) (ps : List Pd) (x : Int) (h : (ps.length : Int) ≤ x) : crG x l ps = putAll l ps := by
  induction ps generalizing l x with
  | nil => rfl
  | cons p ps ih =>
    unfold crG
    rw [if_pos (by simp at h; omega)]
    exact ih (put1 l p) (x - 1) (by simp at h; omega)
theorem crStep_same {L : List Int} {p : Pd} (h : lnN p < L.length) : (crStep L p).getD (lnN p) 0 = if 0 < L.getD (lnN p) 0 then L.getD (lnN p) 0 - 1 else L.getD (lnN p) 0 := by
  unfold crStep crSet
  split
  · rw [List.getD_eq_getElem?_getD, List.getElem?_set_self h]; rfl
  · rfl
theorem crStep_other {L : List Int} {p : Pd} {t : Nat} (h : lnN p ≠ t) : (crStep L p).getD t 0 = L.getD t 0 := by
  unfold crStep crSet
  split
  · rw [List.getD_eq_getElem?_getD, List.getElem?_set_ne h, ← List.getD_eq_getElem?_getD]
  · rfl
theorem cr_line {L l : List Int} {ps : List Pd} {i : Nat} (hI : ∀ p ∈ ps, 0 ≤ p.a) (hL : i / 8 < L.length) : (kPer l (ps.zip (crB L ps)))[i]? = (crG (L.getD (i / 8) 0) l (lin (i / 8) ps))[i]? := by
  induction ps generalizing L l with
  | nil => rfl
  | cons p ps ih =>
    have hp := hI p (by simp)
    have ih := fun L' l' hL' => ih (L := L') (l := l') (fun q hq => hI q (by simp [hq])) hL'
    show (kPer (kStep l (p, crBit (L.getD (lnN p) 0))) (ps.zip (crB (crStep L p) ps)))[i]? = _
    rw [ih _ _ (by unfold crStep; rw [crSet_length]; exact hL)]
    by_cases h : lnN p = i / 8
    · have e : lin (i / 8) (p :: ps) = p :: lin (i / 8) ps := by unfold lin; rw [List.filter_cons_of_pos (by simpa using h)]
      rw [e]
      have hs := crStep_same (L := L) (p := p) (by rw [h]; exact hL)
      rw [h] at hs
      rw [hs, h, crG_cons]
      generalize L.getD (i / 8) 0 = x
      by_cases hx : 0 < x
      · rw [if_pos hx, if_pos hx]
        have : kStep l (p, crBit x) = put1 l p := by unfold kStep crBit; rw [decide_eq_true hx]; rfl
        rw [this]
      · rw [if_neg hx, if_neg hx]
        have : kStep l (p, crBit x) = l := by unfold kStep crBit; rw [decide_eq_false hx]; rfl
        rw [this]
    · have e : lin (i / 8) (p :: ps) = lin (i / 8) ps := by unfold lin; rw [List.filter_cons_of_neg (by simpa using h)]
      rw [e, crStep_other h]
      refine crG_congr ?_ ?_ _ _
      · unfold kStep; split
        · exact put1_length _ _
        · rfl
      · unfold kStep; split
        · exact put1_far (lnN_ne hp h)
        · rfl
theorem putAll_line {l : List Int} {ps : List Pd} {i : Nat} (hI : ∀ p ∈ ps, 0 ≤ p.a) : (putAll l ps)[i]? = (putAll l (lin (i / 8) ps))[i]? := by
  induction ps generalizing l with
  | nil => rfl
  | cons p ps ih =>
    have ih := fun l' => ih (l := l') (fun q hq => hI q (by simp [hq]))
    show (putAll (put1 l p) ps)[i]? = _
    rw [ih]
    by_cases h : lnN p = i / 8
    · have e : lin (i / 8) (p :: ps) = p :: lin (i / 8) ps := by unfold lin; rw [List.filter_cons_of_pos (by simpa using h)]
      rw [e]; rfl
    · have e : lin (i / 8) (p :: ps) = lin (i / 8) ps := by unfold lin; rw [List.filter_cons_of_neg (by simpa using h)]
      rw [e, ← crG_all _ _ (((lin (i / 8) ps).length : Int)) (by omega), ← crG_all _ _ (((lin (i / 8) ps).length : Int)) (by omega)]
      exact crG_congr (put1_length _ _) (put1_far (lnN_ne (hI p (by simp)) h)) _ _
theorem lin_none {ps : List Pd} {t : Nat} (h : ∀ p ∈ ps, lnN p ≠ t) : lin t ps = [] := by
  unfold lin
  rw [List.filter_eq_nil_iff]
  intro p hp
  simpa using h p hp
/-- What is left by a crash, at one place. -/
theorem crP_at {m : Mm} (h : Ok m) (keep : List Int) {i : Nat} (hi : i < m.vol.length) : (crP m keep)[i]? = (crG (keep.getD (i / 8) 0) m.per (lin (i / 8) m.pend))[i]? := by
  unfold crP
  rw [ok_true h, if_pos rfl]
  have h8 := h.2.2.1
  have hL : i / 8 < m.vol.length / 8 := by omega
  show (kPer m.per (m.pend.zip (crB (leftL keep (m.vol.length / 8)) m.pend)))[i]? = _
  rw [cr_line (fun p hp => (h.2.2.2.1 p hp).1) (by rw [leftL_length]; exact hL), leftL_get _ _ _ hL]
theorem crP_length {m : Mm} (h : Ok m) (keep : List Int) : (crP m keep).length = m.vol.length := by
  unfold crP
  rw [ok_true h, if_pos rfl]
  show (kPer _ _).length = _
  rw [kPer_length]
  exact h.1
/-- A line with nothing pending is kept as it is seen. -/
theorem kept_seen {m : Mm} (h : Ok m) {i : Nat} (hn : ∀ p ∈ m.pend, lnN p ≠ i / 8) : m.per[i]? = m.vol[i]? := by
  have := putAll_line (l := m.per) (i := i) (fun p hp => (h.2.2.2.1 p hp).1)
  rw [h.2.2.2.2.2, lin_none hn] at this
  exact this.symm
theorem crash_seen {m : Mm} (h : Ok m) (keep : List Int) {i : Nat} (hi : i < m.vol.length) (hn : ∀ p ∈ m.pend, lnN p ≠ i / 8) : (crP m keep)[i]? = m.vol[i]? := by
  rw [crP_at h keep hi, lin_none hn]
  exact kept_seen h hn
theorem zip_map_filter (ps : List Pd) (f : Pd → Bool) : kPend (ps.zip (ps.map f)) = ps.filter fun p => !f p := by
  induction ps with
  | nil => rfl
  | cons p ps ih =>
    show kPend ((p, f p) :: ps.zip (ps.map f)) = _
    cases h : f p
    · have : kPend ((p, false) :: ps.zip (ps.map f)) = p :: kPend (ps.zip (ps.map f)) := by simp [kPend]
      rw [this, ih, List.filter_cons_of_pos (by simp [h])]
    · have : kPend ((p, true) :: ps.zip (ps.map f)) = kPend (ps.zip (ps.map f)) := by simp [kPend]
      rw [this, ih, List.filter_cons_of_neg (by simp [h])]
theorem evi_pend {m : Mm} {n : Int} (h : lnB m n = true) : (eviM m n).pend = m.pend.filter fun p => !decide (p.a / 8 = n) := by
  unfold eviM
  rw [h]
  exact zip_map_filter _ _
theorem evi_none {m : Mm} {n : Int} (h : lnB m n = true) (hk : Ok m) {t : Nat} (ht : n = (t : Int)) : ∀ p ∈ (eviM m n).pend, lnN p ≠ t := by
  intro p hp
  rw [evi_pend h] at hp
  have := (List.mem_filter.1 hp).2
  have h0 := (hk.2.2.2.1 p (List.mem_filter.1 hp).1).1
  simp at this
  unfold lnN
  omega
theorem ff_none {m : Mm} {n : Int} (h : lnB m n = true) (hk : Ok m) {t : Nat} (ht : n = (t : Int)) : ∀ p ∈ (fenM (fluM m n)).pend, lnN p ≠ t := by
  intro p hp
  have hf := ok_flu hk n
  unfold fenM at hp
  rw [ok_true hf, if_pos rfl] at hp
  have hp : p ∈ kPend ((fluM m n).pend.zip ((fluM m n).pend.map (·.f))) := hp
  rw [zip_map_filter] at hp
  obtain ⟨h1, h2⟩ := List.mem_filter.1 hp
  have e : (fluM m n).pend = m.pend.map (fluP n) := by unfold fluM; rw [h]; rfl
  rw [e] at h1
  obtain ⟨q, hq, rfl⟩ := List.mem_map.1 h1
  have hq0 := (hk.2.2.2.1 q hq).1
  rw [fluP_f] at h2
  simp at h2
  unfold lnN
  rw [fluP_a]
  omega
theorem kPer_far {l : List Int} {zs : List (Pd × Bool)} {i : Nat} (h : ∀ x ∈ zs, x.2 = true → x.1.a.toNat ≠ i) : (kPer l zs)[i]? = l[i]? := by
  induction zs generalizing l with
  | nil => rfl
  | cons x zs ih =>
    show (kPer (kStep l x) zs)[i]? = _
    rw [ih (fun y hy => h y (by simp [hy]))]
    unfold kStep
    split
    · exact put1_far (h x (by simp) (by assumption))
    · rfl
theorem mem_zip_map {ps : List Pd} {f : Pd → Bool} {x : Pd × Bool} (h : x ∈ ps.zip (ps.map f)) : x.1 ∈ ps ∧ x.2 = f x.1 := by
  induction ps with
  | nil => simp at h
  | cons p ps ih =>
    simp at h
    rcases h with rfl | h
    · simp
    · have := ih h
      exact ⟨by simp [this.1], this.2⟩
theorem evi_per {m : Mm} {n : Int} (hk : Ok m) {i : Nat} (hi : (i : Int) / 8 ≠ n) : (eviM m n).per[i]? = m.per[i]? := by
  unfold eviM
  split
  · refine kPer_far fun x hx hx2 => ?_
    obtain ⟨h1, h2⟩ := mem_zip_map hx
    rw [h2] at hx2
    have h3 := of_decide_eq_true hx2
    have h0 := (hk.2.2.2.1 x.1 h1).1
    intro e
    omega
  · rfl
theorem evi_len {m : Mm} (n : Int) : (eviM m n).per.length = m.per.length ∧ (eviM m n).pend.length ≤ m.pend.length := by
  unfold eviM
  split
  · exact ⟨kPer_length _ _, Nat.le_trans (kPend_length _) (by rw [List.length_zip]; omega)⟩
  · exact ⟨rfl, Nat.le_refl _⟩
theorem evi_crash {m : Mm} {n : Int} (hk : Ok m) (hl : lnB m n = true) (keep : List Int) {i : Nat} (hi : i < m.vol.length) (hn : (i : Int) / 8 ≠ n) : (crP (eviM m n) keep)[i]? = (crP m keep)[i]? := by
  rw [crP_at hk keep hi, crP_at (ok_evi hk n) keep (by rw [vol_evi]; exact hi)]
  have e : lin (i / 8) (eviM m n).pend = lin (i / 8) m.pend := by
    rw [evi_pend hl]
    unfold lin
    rw [List.filter_filter]
    refine List.filter_congr fun p hp => ?_
    have h0 := (hk.2.2.2.1 p hp).1
    by_cases h : lnN p = i / 8
    · have : ¬ p.a / 8 = n := by unfold lnN at h; omega
      simp [h, this]
    · simp [h]
  rw [e]
  exact crG_congr (evi_len n).1 (evi_per hk hn) _ _
end Go.Proofs.Ytmhojhpfkieioaa
namespace Go.Proofs.Ytmhojhpfkieioaa

/-- A small step: its kind, where, what. -/
structure Mi where
  k : Int
  a : Int
  v : Int

/-- It may be, as a store; as a persist; as either; so many words may be; all of them may be. -/
def stB (n : Int) (x : Mi) : Bool := decide (0 ≤ x.a ∧ x.a < n)
def peB (n : Int) (x : Mi) : Bool := decide (0 ≤ x.a ∧ x.a < n / 8 ∧ x.v = 0)
def miB (n : Int) (x : Mi) : Bool := if x.k = 1 then stB n x else if x.k = 2 then peB n x else false
def woB (n : Int) : Bool := decide (0 ≤ n ∧ n ≤ 4096 ∧ n % 8 = 0)
def chB (l : List Mi) (n : Int) : Bool := woB n && l.all (miB n)
theorem miB_one {n : Int} {x : Mi} (h : x.k = 1) : miB n x = stB n x := by unfold miB; rw [if_pos h]
theorem miB_two {n : Int} {x : Mi} (h : x.k = 2) : miB n x = peB n x := by unfold miB; rw [if_neg (by omega), if_pos h]
theorem miB_other {n : Int} {x : Mi} (h1 : x.k ≠ 1) (h2 : x.k ≠ 2) : miB n x = false := by unfold miB; rw [if_neg h1, if_neg h2]
theorem woB_out {n : Int} (h : woB n = true) : 0 ≤ n ∧ n ≤ 4096 ∧ n % 8 = 0 := of_decide_eq_true h
theorem woB_no {n : Int} (h : ¬ (0 ≤ n ∧ n ≤ 4096 ∧ n % 8 = 0)) (l : List Mi) : chB l n = false := by
  unfold chB woB; rw [decide_eq_false h]; rfl
theorem chB_wo {n : Int} (h : woB n = true) (l : List Mi) : chB l n = l.all (miB n) := by unfold chB; rw [h]; rfl
theorem all_take_next {l : List Mi} {n : Int} {k : Nat} {x : Mi} (h : (l.take k).all (miB n) = true) (hx : l[k]? = some x) (hb : miB n x = true) : (l.take (k + 1)).all (miB n) = true := by
  rw [take_next hx, List.all_append, h]; simp [hb]
theorem all_fail {l : List Mi} {n : Int} {k : Nat} {x : Mi} (hx : l[k]? = some x) (hb : miB n x = false) : l.all (miB n) = false := by
  rw [List.all_eq_false]; exact ⟨x, List.mem_of_getElem? hx, by simp [hb]⟩

/-- One is done; all of them, one behind the other. -/
def doM (m : Mm) (x : Mi) : Mm := if x.k = 1 then putM m x.a x.v else fenM (fluM m x.a)
def runM (m : Mm) (l : List Mi) : Mm := l.foldl doM m
theorem doM_one {m : Mm} {x : Mi} (h : x.k = 1) : doM m x = putM m x.a x.v := by unfold doM; rw [if_pos h]
theorem doM_two {m : Mm} {x : Mi} (h : x.k = 2) : doM m x = fenM (fluM m x.a) := by unfold doM; rw [if_neg (by omega)]
theorem runM_next {m : Mm} {l : List Mi} {k : Nat} {x : Mi} (h : l[k]? = some x) : runM m (l.take (k + 1)) = doM (runM m (l.take k)) x := by
  rw [take_next h]; unfold runM; rw [List.foldl_append]; rfl
theorem runM_append (m : Mm) (a b : List Mi) : runM m (a ++ b) = runM (runM m a) b := List.foldl_append

theorem fen_len (m : Mm) : (fenM m).vol.length = m.vol.length ∧ (fenM m).per.length = m.per.length ∧ (fenM m).pend.length ≤ m.pend.length := by
  unfold fenM
  split
  · refine ⟨rfl, kPer_length _ _, Nat.le_trans (kPend_length _) ?_⟩
    rw [List.length_zip]; omega
  · exact ⟨rfl, rfl, Nat.le_refl _⟩
theorem flu_len (m : Mm) (n : Int) : (fluM m n).vol.length = m.vol.length ∧ (fluM m n).per.length = m.per.length ∧ (fluM m n).pend.length = m.pend.length := by
  unfold fluM
  split
  · exact ⟨rfl, rfl, List.length_map _⟩
  · exact ⟨rfl, rfl, rfl⟩
theorem putM_per (m : Mm) (i v : Int) : (putM m i v).per.length = m.per.length := by unfold putM; split <;> rfl
theorem do_len (m : Mm) (x : Mi) : (doM m x).vol.length = m.vol.length ∧ (doM m x).per.length = m.per.length ∧ (doM m x).pend.length ≤ m.pend.length + 1 := by
  unfold doM
  split
  · exact ⟨putM_len m _ _, putM_per m _ _, putM_pend m _ _⟩
  · obtain ⟨a, b, c⟩ := fen_len (fluM m x.a)
    obtain ⟨d, e, f⟩ := flu_len m x.a
    exact ⟨a.trans d, b.trans e, by omega⟩
theorem run_len (m : Mm) (l : List Mi) : (runM m l).vol.length = m.vol.length ∧ (runM m l).per.length = m.per.length ∧ (runM m l).pend.length ≤ m.pend.length + l.length := by
  induction l generalizing m with
  | nil => exact ⟨rfl, rfl, Nat.le_refl _⟩
  | cons x l ih =>
    obtain ⟨a, b, c⟩ := do_len m x
    obtain ⟨d, e, f⟩ := ih (doM m x)
    refine ⟨d.trans a, e.trans b, ?_⟩
    show (runM (doM m x) l).pend.length ≤ _
    rw [List.length_cons]; omega
theorem ok_do {m : Mm} (h : Ok m) (x : Mi) : Ok (doM m x) := by
  unfold doM
  split
  · exact ok_putM h _ _
  · exact ok_fen (ok_flu h _)
theorem ok_run {m : Mm} (h : Ok m) (l : List Mi) : Ok (runM m l) := by
  induction l generalizing m with
  | nil => exact h
  | cons x l ih => exact ih (ok_do h x)

/-- Both may be; what is made of it, and the error. -/
def mrB (m : Mm) (l : List Mi) : Bool := ok m && chB l (m.vol.length : Int)
def ruM (m : Mm) (l : List Mi) : Mm := if mrB m l then runM m l else m
def ruE (m : Mm) (l : List Mi) : Int := if mrB m l then 0 else 40
def tkN (n : Int) (len : Nat) : Nat := (min n (len : Int)).toNat
def csP (m : Mm) (l : List Mi) (n : Int) (keep : List Int) : List Int := if mrB m l then crP (runM m (l.take (tkN n l.length))) keep else []
theorem mrB_out {m : Mm} {l : List Mi} (h : mrB m l = true) : Ok m ∧ chB l (m.vol.length : Int) = true := by
  unfold mrB at h
  simp only [Bool.and_eq_true] at h
  exact ⟨ok_out h.1, h.2⟩
theorem chB_all {l : List Mi} {n : Int} (h : chB l n = true) : woB n = true ∧ ∀ x ∈ l, miB n x = true := by
  unfold chB at h
  simp only [Bool.and_eq_true, List.all_eq_true] at h
  exact h
theorem miB_kind {n : Int} {x : Mi} (h : miB n x = true) : x.k = 1 ∨ x.k = 2 := by
  unfold miB at h
  by_cases h1 : x.k = 1
  · exact .inl h1
  · rw [if_neg h1] at h
    by_cases h2 : x.k = 2
    · exact .inr h2
    · rw [if_neg h2] at h; cases h
theorem mrB_kinds {m : Mm} {l : List Mi} (h : mrB m l = true) : ∀ x ∈ l, x.k = 1 ∨ x.k = 2 := fun x hx => miB_kind ((chB_all (mrB_out h).2).2 x hx)
theorem ruM_yes {m : Mm} {l : List Mi} (h : mrB m l = true) : ruM m l = runM m l := by unfold ruM; rw [h]; rfl
theorem ruM_no {m : Mm} {l : List Mi} (h : mrB m l = false) : ruM m l = m := by unfold ruM; rw [h]; rfl
theorem ruE_yes {m : Mm} {l : List Mi} (h : mrB m l = true) : ruE m l = 0 := by unfold ruE; rw [h]; rfl
theorem ruE_no {m : Mm} {l : List Mi} (h : mrB m l = false) : ruE m l = 40 := by unfold ruE; rw [h]; rfl
theorem csP_yes {m : Mm} {l : List Mi} (h : mrB m l = true) (n : Int) (keep : List Int) : csP m l n keep = crP (runM m (l.take (tkN n l.length))) keep := by unfold csP; rw [h]; rfl
theorem csP_no {m : Mm} {l : List Mi} (h : mrB m l = false) (n : Int) (keep : List Int) : csP m l n keep = [] := by unfold csP; rw [h]; rfl
theorem okE_yes {m : Mm} (h : Ok m) : okE m = 0 := by unfold okE; rw [ok_true h]; rfl
theorem tkN_le (n : Int) (len : Nat) : tkN n len ≤ len := by unfold tkN; omega
theorem ru_len (m : Mm) (l : List Mi) : (ruM m l).vol.length = m.vol.length ∧ (ruM m l).per.length = m.per.length ∧ (ruM m l).pend.length ≤ m.pend.length + l.length := by
  cases h : mrB m l
  · rw [ruM_no h]; exact ⟨rfl, rfl, by omega⟩
  · rw [ruM_yes h]; exact run_len m l
end Go.Proofs.Ytmhojhpfkieioaa
