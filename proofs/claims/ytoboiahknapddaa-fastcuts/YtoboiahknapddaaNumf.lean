/- What a crash keeps, line by line: no program. -/
import Derived.Test.YtoboiahknapddaaNume
namespace Go.Proofs.Ytoboiahknapddaa

/-- Of a line's, as many are kept as x says. -/
def crG (x : Int) (l : List Int) : List Pd → List Int
  | [] => l
  | p :: ps => if 0 < x then crG (x - 1) (put1 l p) ps else crG x l ps
theorem crG_cons (x : Int) (l : List Int) (p : Pd) (ps : List Pd) : crG x l (p :: ps) = if 0 < x then crG (x - 1) (put1 l p) ps else crG x l ps := rfl
def lin (t : Nat) (ps : List Pd) : List Pd := ps.filter fun p => decide (lnN p = t)
theorem crG_length (x : Int) (l : List Int) (ps : List Pd) : (crG x l ps).length = l.length := by
  induction ps generalizing x l with
  | nil => rfl
  | cons p ps ih =>
    unfold crG
    split
    · rw [ih, put1_length]
    · exact ih x l
theorem put1_congr {l l' : List Int} {i : Nat} (hl : l.length = l'.length) (h : l[i]? = l'[i]?) (p : Pd) : (put1 l p)[i]? = (put1 l' p)[i]? := by
  unfold put1
  rw [List.getElem?_set, List.getElem?_set, hl, h]
theorem crG_congr {l l' : List Int} {i : Nat} (hl : l.length = l'.length) (h : l[i]? = l'[i]?) (x : Int) (ps : List Pd) : (crG x l ps)[i]? = (crG x l' ps)[i]? := by
  induction ps generalizing x l l' with
  | nil => exact h
  | cons p ps ih =>
    unfold crG
    split
    · exact ih (by rw [put1_length, put1_length, hl]) (put1_congr hl h p) _
    · exact ih hl h _
theorem put1_far {l : List Int} {p : Pd} {i : Nat} (h : p.a.toNat ≠ i) : (put1 l p)[i]? = l[i]? := List.getElem?_set_ne h
theorem lnN_ne {p : Pd} {i : Nat} (h0 : 0 ≤ p.a) (h : lnN p ≠ i / 8) : p.a.toNat ≠ i := by
  intro e
  apply h
  unfold lnN
  omega
theorem crG_none (l : List Int) (ps : List Pd) (x : Int) (hx : x ≤ 0) : crG x l ps = l := by
  induction ps with
  | nil => rfl
  | cons p ps ih => unfold crG; rw [if_neg (by omega)]; exact ih
theorem crG_all (l : List Int) (ps : List Pd) (x : Int) (h : (ps.length : Int) ≤ x) : crG x l ps = putAll l ps := by
  induction ps generalizing l x with
  | nil => rfl
  | cons p ps ih =>
    unfold crG
    rw [if_pos (by simp at h; omega)]
    exact ih (put1 l p) (x - 1) (by simp at h; omega)
theorem crStep_same {L : List Int} {p : Pd} (h : lnN p < L.length) : (crStep L p).getD (lnN p) 0 = if 0 < L.getD (lnN p) 0 then L.getD (lnN p) 0 - 1 else L.getD (lnN p) 0 := by
  unfold crStep crSet
  split
  · rw [List.getD_eq_getElem?_getD, List.getElem?_set_self h]; rfl
  · rfl
theorem crStep_other {L : List Int} {p : Pd} {t : Nat} (h : lnN p ≠ t) : (crStep L p).getD t 0 = L.getD t 0 := by
  unfold crStep crSet
  split
  · rw [List.getD_eq_getElem?_getD, List.getElem?_set_ne h, ← List.getD_eq_getElem?_getD]
  · rfl
theorem cr_line {L l : List Int} {ps : List Pd} {i : Nat} (hI : ∀ p ∈ ps, 0 ≤ p.a) (hL : i / 8 < L.length) : (kPer l (ps.zip (crB L ps)))[i]? = (crG (L.getD (i / 8) 0) l (lin (i / 8) ps))[i]? := by
  induction ps generalizing L l with
  | nil => rfl
  | cons p ps ih =>
    have hp := hI p (by simp)
    have ih := fun L' l' hL' => ih (L := L') (l := l') (fun q hq => hI q (by simp [hq])) hL'
    show (kPer (kStep l (p, crBit (L.getD (lnN p) 0))) (ps.zip (crB (crStep L p) ps)))[i]? = _
    rw [ih _ _ (by unfold crStep; rw [crSet_length]; exact hL)]
    by_cases h : lnN p = i / 8
    · have e : lin (i / 8) (p :: ps) = p :: lin (i / 8) ps := by unfold lin; rw [List.filter_cons_of_pos (by simpa using h)]
      rw [e]
      have hs := crStep_same (L := L) (p := p) (by rw [h]; exact hL)
      rw [h] at hs
      rw [hs, h, crG_cons]
      generalize L.getD (i / 8) 0 = x
      by_cases hx : 0 < x
      · rw [if_pos hx, if_pos hx]
        have : kStep l (p, crBit x) = put1 l p := by unfold kStep crBit; rw [decide_eq_true hx]; rfl
        rw [this]
      · rw [if_neg hx, if_neg hx]
        have : kStep l (p, crBit x) = l := by unfold kStep crBit; rw [decide_eq_false hx]; rfl
        rw [this]
    · have e : lin (i / 8) (p :: ps) = lin (i / 8) ps := by unfold lin; rw [List.filter_cons_of_neg (by simpa using h)]
      rw [e, crStep_other h]
      refine crG_congr ?_ ?_ _ _
      · unfold kStep; split
        · exact put1_length _ _
        · rfl
      · unfold kStep; split
        · exact put1_far (lnN_ne hp h)
        · rfl
theorem putAll_line {l : List Int} {ps : List Pd} {i : Nat} (hI : ∀ p ∈ ps, 0 ≤ p.a) : (putAll l ps)[i]? = (putAll l (lin (i / 8) ps))[i]? := by
  induction ps generalizing l with
  | nil => rfl
  | cons p ps ih =>
    have ih := fun l' => ih (l := l') (fun q hq => hI q (by simp [hq]))
    show (putAll (put1 l p) ps)[i]? = _
    rw [ih]
    by_cases h : lnN p = i / 8
    · have e : lin (i / 8) (p :: ps) = p :: lin (i / 8) ps := by unfold lin; rw [List.filter_cons_of_pos (by simpa using h)]
      rw [e]; rfl
    · have e : lin (i / 8) (p :: ps) = lin (i / 8) ps := by unfold lin; rw [List.filter_cons_of_neg (by simpa using h)]
      rw [e, ← crG_all _ _ (((lin (i / 8) ps).length : Int)) (by omega), ← crG_all _ _ (((lin (i / 8) ps).length : Int)) (by omega)]
      exact crG_congr (put1_length _ _) (put1_far (lnN_ne (hI p (by simp)) h)) _ _
theorem lin_none {ps : List Pd} {t : Nat} (h : ∀ p ∈ ps, lnN p ≠ t) : lin t ps = [] := by
  unfold lin
  rw [List.filter_eq_nil_iff]
  intro p hp
  simpa using h p hp
/-- What is left by a crash, at one place. -/
theorem crP_at {m : Mm} (h : Ok m) (keep : List Int) {i : Nat} (hi : i < m.vol.length) : (crP m keep)[i]? = (crG (keep.getD (i / 8) 0) m.per (lin (i / 8) m.pend))[i]? := by
  unfold crP
  rw [ok_true h, if_pos rfl]
  have h8 := h.2.2.1
  have hL : i / 8 < m.vol.length / 8 := by omega
  show (kPer m.per (m.pend.zip (crB (leftL keep (m.vol.length / 8)) m.pend)))[i]? = _
  rw [cr_line (fun p hp => (h.2.2.2.1 p hp).1) (by rw [leftL_length]; exact hL), leftL_get _ _ _ hL]
theorem crP_length {m : Mm} (h : Ok m) (keep : List Int) : (crP m keep).length = m.vol.length := by
  unfold crP
  rw [ok_true h, if_pos rfl]
  show (kPer _ _).length = _
  rw [kPer_length]
  exact h.1
/-- A line with nothing pending is kept as it is seen. -/
theorem kept_seen {m : Mm} (h : Ok m) {i : Nat} (hn : ∀ p ∈ m.pend, lnN p ≠ i / 8) : m.per[i]? = m.vol[i]? := by
  have := putAll_line (l := m.per) (i := i) (fun p hp => (h.2.2.2.1 p hp).1)
  rw [h.2.2.2.2.2, lin_none hn] at this
  exact this.symm
theorem crash_seen {m : Mm} (h : Ok m) (keep : List Int) {i : Nat} (hi : i < m.vol.length) (hn : ∀ p ∈ m.pend, lnN p ≠ i / 8) : (crP m keep)[i]? = m.vol[i]? := by
  rw [crP_at h keep hi, lin_none hn]
  exact kept_seen h hn
theorem zip_map_filter (ps : List Pd) (f : Pd → Bool) : kPend (ps.zip (ps.map f)) = ps.filter fun p => !f p := by
  induction ps with
  | nil => rfl
  | cons p ps ih =>
    show kPend ((p, f p) :: ps.zip (ps.map f)) = _
    cases h : f p
    · have : kPend ((p, false) :: ps.zip (ps.map f)) = p :: kPend (ps.zip (ps.map f)) := by simp [kPend]
      rw [this, ih, List.filter_cons_of_pos (by simp [h])]
    · have : kPend ((p, true) :: ps.zip (ps.map f)) = kPend (ps.zip (ps.map f)) := by simp [kPend]
      rw [this, ih, List.filter_cons_of_neg (by simp [h])]
theorem evi_pend {m : Mm} {n : Int} (h : lnB m n = true) : (eviM m n).pend = m.pend.filter fun p => !decide (p.a / 8 = n) := by
  unfold eviM
  rw [h]
  exact zip_map_filter _ _
theorem evi_none {m : Mm} {n : Int} (h : lnB m n = true) (hk : Ok m) {t : Nat} (ht : n = (t : Int)) : ∀ p ∈ (eviM m n).pend, lnN p ≠ t := by
  intro p hp
  rw [evi_pend h] at hp
  have := (List.mem_filter.1 hp).2
  have h0 := (hk.2.2.2.1 p (List.mem_filter.1 hp).1).1
  simp at this
  unfold lnN
  omega
theorem ff_none {m : Mm} {n : Int} (h : lnB m n = true) (hk : Ok m) {t : Nat} (ht : n = (t : Int)) : ∀ p ∈ (fenM (fluM m n)).pend, lnN p ≠ t := by
  intro p hp
  have hf := ok_flu hk n
  unfold fenM at hp
  rw [ok_true hf, if_pos rfl] at hp
  have hp : p ∈ kPend ((fluM m n).pend.zip ((fluM m n).pend.map (·.f))) := hp
  rw [zip_map_filter] at hp
  obtain ⟨h1, h2⟩ := List.mem_filter.1 hp
  have e : (fluM m n).pend = m.pend.map (fluP n) := by unfold fluM; rw [h]; rfl
  rw [e] at h1
  obtain ⟨q, hq, rfl⟩ := List.mem_map.1 h1
  have hq0 := (hk.2.2.2.1 q hq).1
  rw [fluP_f] at h2
  simp at h2
  unfold lnN
  rw [fluP_a]
  omega
theorem kPer_far {l : List Int} {zs : List (Pd × Bool)} {i : Nat} (h : ∀ x ∈ zs, x.2 = true → x.1.a.toNat ≠ i) : (kPer l zs)[i]? = l[i]? := by
  induction zs generalizing l with
  | nil => rfl
  | cons x zs ih =>
    show (kPer (kStep l x) zs)[i]? = _
    rw [ih (fun y hy => h y (by simp [hy]))]
    unfold kStep
    split
    · exact put1_far (h x (by simp) (by assumption))
    · rfl
theorem mem_zip_map {ps : List Pd} {f : Pd → Bool} {x : Pd × Bool} (h : x ∈ ps.zip (ps.map f)) : x.1 ∈ ps ∧ x.2 = f x.1 := by
  induction ps with
  | nil => simp at h
  | cons p ps ih =>
    simp at h
    rcases h with rfl | h
    · simp
    · have := ih h
      exact ⟨by simp [this.1], this.2⟩
theorem evi_per {m : Mm} {n : Int} (hk : Ok m) {i : Nat} (hi : (i : Int) / 8 ≠ n) : (eviM m n).per[i]? = m.per[i]? := by
  unfold eviM
  split
  · refine kPer_far fun x hx hx2 => ?_
    obtain ⟨h1, h2⟩ := mem_zip_map hx
    rw [h2] at hx2
    have h3 := of_decide_eq_true hx2
    have h0 := (hk.2.2.2.1 x.1 h1).1
    intro e
    omega
  · rfl
theorem evi_len {m : Mm} (n : Int) : (eviM m n).per.length = m.per.length ∧ (eviM m n).pend.length ≤ m.pend.length := by
  unfold eviM
  split
  · exact ⟨kPer_length _ _, Nat.le_trans (kPend_length _) (by rw [List.length_zip]; omega)⟩
  · exact ⟨rfl, Nat.le_refl _⟩
theorem evi_crash {m : Mm} {n : Int} (hk : Ok m) (hl : lnB m n = true) (keep : List Int) {i : Nat} (hi : i < m.vol.length) (hn : (i : Int) / 8 ≠ n) : (crP (eviM m n) keep)[i]? = (crP m keep)[i]? := by
  rw [crP_at hk keep hi, crP_at (ok_evi hk n) keep (by rw [vol_evi]; exact hi)]
  have e : lin (i / 8) (eviM m n).pend = lin (i / 8) m.pend := by
    rw [evi_pend hl]
    unfold lin
    rw [List.filter_filter]
    refine List.filter_congr fun p hp => ?_
    have h0 := (hk.2.2.2.1 p hp).1
    by_cases h : lnN p = i / 8
    · have : ¬ p.a / 8 = n := by unfold lnN at h; omega
      simp [h, this]
    · simp [h]
  rw [e]
  exact crG_congr (evi_len n).1 (evi_per hk hn) _ _
end Go.Proofs.Ytoboiahknapddaa
