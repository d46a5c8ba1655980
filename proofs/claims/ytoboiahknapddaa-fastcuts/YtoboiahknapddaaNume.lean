/- What is kept, and what stays: no program. -/
import Derived.Test.YtoboiahknapddaaNumd
namespace Go.Proofs.Ytoboiahknapddaa

/-- Of one line what is kept stands ahead of what is not. -/
def PrefZ (zs : List (Pd × Bool)) : Prop := zs.Pairwise fun x y => y.2 = true → x.1.a / 8 = y.1.a / 8 → x.2 = true
theorem prefZ_snoc {zs : List (Pd × Bool)} {x : Pd × Bool} : PrefZ (zs ++ [x]) ↔ PrefZ zs ∧ ∀ y ∈ zs, x.2 = true → y.1.a / 8 = x.1.a / 8 → y.2 = true := by
  unfold PrefZ
  rw [List.pairwise_append]
  simp
theorem put1_comm {l : List Int} {p q : Pd} (h : p.a.toNat ≠ q.a.toNat) : put1 (put1 l p) q = put1 (put1 l q) p := List.set_comm _ _ h
theorem putAll_comm {l : List Int} {ps : List Pd} {p : Pd} (h : ∀ q ∈ ps, q.a.toNat ≠ p.a.toNat) : putAll (put1 l p) ps = put1 (putAll l ps) p := by
  induction ps generalizing l with
  | nil => rfl
  | cons q ps ih =>
    show putAll (put1 (put1 l p) q) ps = put1 (putAll (put1 l q) ps) p
    rw [put1_comm (fun e => h q (by simp) e.symm), ih (fun r hr => h r (by simp [hr]))]
theorem kPend_mem {zs : List (Pd × Bool)} {p : Pd} (h : p ∈ kPend zs) : (p, false) ∈ zs := by
  unfold kPend at h
  obtain ⟨x, hx, rfl⟩ := List.mem_map.1 h
  obtain ⟨h1, h2⟩ := List.mem_filter.1 hx
  obtain ⟨a, b⟩ := x
  have : b = false := by simpa using h2
  subst this
  exact h1
theorem keep_vol (l : List Int) (zs : List (Pd × Bool)) (hI : ∀ x ∈ zs, 0 ≤ x.1.a) (hP : PrefZ zs) : putAll (kPer l zs) (kPend zs) = putAll l (zs.map (·.1)) := by
  induction zs using snoc_ind with
  | h0 => rfl
  | h1 zs x ih =>
    obtain ⟨hP, hx⟩ := prefZ_snoc.1 hP
    have ih := ih (fun y hy => hI y (by simp [hy])) hP
    obtain ⟨p, b⟩ := x
    have e1 : (zs ++ [(p, b)]).map (·.1) = zs.map (·.1) ++ [p] := by simp
    rw [e1, putAll_append]
    cases b
    · have e2 : kPend (zs ++ [(p, false)]) = kPend zs ++ [p] := congrArg Mm.pend (kM_no ⟨[], [], []⟩ zs p)
      have e3 : kPer l (zs ++ [(p, false)]) = kPer l zs := congrArg Mm.per (kM_no ⟨[], l, []⟩ zs p)
      rw [e2, e3, putAll_append, ih]
    · have e2 : kPend (zs ++ [(p, true)]) = kPend zs := congrArg Mm.pend (kM_yes ⟨[], [], []⟩ zs p)
      have e3 : kPer l (zs ++ [(p, true)]) = put1 (kPer l zs) p := congrArg Mm.per (kM_yes ⟨[], l, []⟩ zs p)
      rw [e2, e3, putAll_comm, ih]
      · rfl
      · intro q hq e
        have hq' := kPend_mem hq
        have h0 := hI (q, false) (by simp [hq'])
        have h1 := hI (p, true) (by simp)
        have : (false : Bool) = true := hx (q, false) hq' rfl (by show q.a / 8 = p.a / 8; have h0 : 0 ≤ q.a := h0; have h1 : 0 ≤ p.a := h1; have : q.a = p.a := by omega
                                                                  rw [this])
        cases this
theorem kPend_sub (zs : List (Pd × Bool)) : (kPend zs).Sublist (zs.map (·.1)) := by
  unfold kPend
  exact List.Sublist.map _ List.filter_sublist
theorem zip_fst {ps : List Pd} {bs : List Bool} (h : bs.length = ps.length) : (ps.zip bs).map (·.1) = ps := List.map_fst_zip (by omega)
theorem ok_kM {m : Mm} {bs : List Bool} (h : Ok m) (hl : bs.length = m.pend.length) (hP : PrefZ (m.pend.zip bs)) : Ok (kM m (m.pend.zip bs)) := by
  obtain ⟨k1, k2, k3, k4, k5, k6⟩ := h
  have hf := zip_fst hl
  have hs := kPend_sub (m.pend.zip bs)
  rw [hf] at hs
  refine ⟨by show (kPer _ _).length = _; rw [kPer_length]; exact k1, k2, k3, fun p hp => k4 p (hs.subset hp), List.Pairwise.sublist hs k5, ?_⟩
  show putAll (kPer m.per _) (kPend _) = m.vol
  rw [keep_vol _ _ (fun x hx => (k4 x.1 (by rw [← hf]; exact List.mem_map_of_mem hx)).1) hP, hf, k6]
theorem pref_of {ps : List Pd} {f : Pd → Bool} (h : ps.Pairwise fun p q => f q = true → p.a / 8 = q.a / 8 → f p = true) : PrefZ (ps.zip (ps.map f)) := by
  unfold PrefZ
  have e : ps.zip (ps.map f) = ps.map fun p => (p, f p) := by
    clear h
    induction ps with
    | nil => rfl
    | cons p ps ih => simp [ih]
  rw [e, List.pairwise_map]
  exact h
theorem ok_fen {m : Mm} (h : Ok m) : Ok (fenM m) := by
  unfold fenM
  rw [ok_true h]
  exact ok_kM h (by simp) (pref_of h.2.2.2.2.1)
theorem ok_syn {m : Mm} (h : Ok m) : Ok (synM m) := by
  unfold synM
  rw [ok_true h]
  exact ok_kM h (by simp) (pref_of (List.pairwise_of_forall fun _ _ _ _ => rfl))
theorem ok_evi {m : Mm} (h : Ok m) (n : Int) : Ok (eviM m n) := by
  unfold eviM
  cases lnB m n
  · exact h
  · refine ok_kM h (by simp) (pref_of (List.pairwise_of_forall fun p q hq e => ?_))
    have hq := of_decide_eq_true hq
    exact decide_eq_true (by rw [e]; exact hq)
theorem fluP_a (n : Int) (p : Pd) : (fluP n p).a = p.a := by unfold fluP; split <;> rfl
theorem fluP_v (n : Int) (p : Pd) : (fluP n p).v = p.v := by unfold fluP; split <;> rfl
theorem fluP_f (n : Int) (p : Pd) : (fluP n p).f = (p.f || decide (p.a / 8 = n)) := by unfold fluP; split <;> simp_all
theorem putAll_flu (l : List Int) (n : Int) (ps : List Pd) : putAll l (ps.map (fluP n)) = putAll l ps := by
  induction ps generalizing l with
  | nil => rfl
  | cons p ps ih =>
    have : put1 l (fluP n p) = put1 l p := by unfold put1; rw [fluP_a, fluP_v]
    show putAll (put1 l (fluP n p)) _ = putAll (put1 l p) ps
    rw [this, ih]
theorem ok_flu {m : Mm} (h : Ok m) (n : Int) : Ok (fluM m n) := by
  unfold fluM
  cases lnB m n
  · exact h
  · obtain ⟨k1, k2, k3, k4, k5, k6⟩ := h
    refine ⟨k1, k2, k3, ?_, ?_, ?_⟩
    · intro p hp
      obtain ⟨q, hq, rfl⟩ := List.mem_map.1 hp
      rw [fluP_a]
      exact k4 q hq
    · show (m.pend.map (fluP n)).Pairwise Fit
      rw [List.pairwise_map]
      refine List.Pairwise.imp ?_ k5
      intro p q hpq hf e
      rw [fluP_a, fluP_a] at e
      rw [fluP_f] at hf ⊢
      rw [Bool.or_eq_true] at hf ⊢
      rcases hf with hf | hf
      · exact .inl (hpq hf e)
      · exact .inr (decide_eq_true (by rw [e]; exact of_decide_eq_true hf))
    · show putAll m.per (m.pend.map (fluP n)) = m.vol
      rw [putAll_flu, k6]
theorem vol_flu (m : Mm) (n : Int) : (fluM m n).vol = m.vol := by unfold fluM; split <;> rfl
theorem vol_fen (m : Mm) : (fenM m).vol = m.vol := by unfold fenM; split <;> rfl
theorem vol_evi (m : Mm) (n : Int) : (eviM m n).vol = m.vol := by unfold eviM; split <;> rfl
theorem vol_syn (m : Mm) : (synM m).vol = m.vol := by unfold synM; split <;> rfl
theorem all_true (ps : List Pd) (l : List Int) : kPend (ps.zip (ps.map fun _ => true)) = [] ∧ kPer l (ps.zip (ps.map fun _ => true)) = putAll l ps := by
  induction ps generalizing l with
  | nil => exact ⟨rfl, rfl⟩
  | cons p ps ih =>
    refine ⟨?_, ?_⟩
    · have := (ih []).1
      simp [kPend] at this ⊢
      exact this
    · exact (ih (put1 l p)).2
theorem syn_pend {m : Mm} (h : Ok m) : (synM m).pend = [] ∧ (synM m).per = m.vol := by
  unfold synM
  rw [ok_true h]
  obtain ⟨h1, h2⟩ := all_true m.pend m.per
  exact ⟨h1, by show kPer m.per _ = _; rw [h2, h.2.2.2.2.2]⟩
theorem ok_putM {m : Mm} (h : Ok m) (i v : Int) : Ok (putM m i v) := by
  cases hb : putB m i
  · rw [putM_no hb]; exact h
  · exact ok_put hb
end Go.Proofs.Ytoboiahknapddaa
