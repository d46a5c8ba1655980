/- Memories as plain lists: no program. -/
namespace Go.Proofs.Ytmaeobdeddllaaa

/-- What is pending: where, what, and whether it is flushed. -/
structure Pd where
  a : Int
  v : Int
  f : Bool

/-- A memory. -/
structure Mm where
  vol : List Int
  per : List Int
  pend : List Pd

/-- One is put into its place; all of them, one behind the other. -/
def put1 (l : List Int) (p : Pd) : List Int := l.set p.a.toNat p.v
def putAll (l : List Int) (ps : List Pd) : List Int := ps.foldl put1 l
theorem put1_length (l : List Int) (p : Pd) : (put1 l p).length = l.length := by simp [put1]
theorem putAll_length (l : List Int) (ps : List Pd) : (putAll l ps).length = l.length := by
  induction ps generalizing l with
  | nil => rfl
  | cons p ps ih => exact (ih _).trans (put1_length l p)
theorem putAll_append (l : List Int) (ps qs : List Pd) : putAll l (ps ++ qs) = putAll (putAll l ps) qs := List.foldl_append
theorem putAll_take (l : List Int) (ps : List Pd) (k : Nat) (h : k < ps.length) : putAll l (ps.take (k + 1)) = put1 (putAll l (ps.take k)) (ps[k]'h) := by
  rw [List.take_succ_eq_append_getElem h, putAll_append]; rfl

/-- Each is at one of n places. -/
def InPl (n : Nat) (ps : List Pd) : Prop := ∀ p ∈ ps, 0 ≤ p.a ∧ p.a < (n : Int)
/-- Of one line what is flushed stands ahead of what is not. -/
def Fit (p q : Pd) : Prop := q.f = true → p.a / 8 = q.a / 8 → p.f = true
def Fit.dec (p q : Pd) : Decidable (Fit p q) := by unfold Fit; exact inferInstance
def Ahead (ps : List Pd) : Prop := ps.Pairwise Fit
def InPl.dec (n : Nat) (ps : List Pd) : Decidable (InPl n ps) := by unfold InPl; exact inferInstance
def Ahead.dec (ps : List Pd) : Decidable (Ahead ps) := by unfold Ahead; have : DecidableRel Fit := Fit.dec; exact inferInstance
/-- A memory may be. -/
def Ok (m : Mm) : Prop := m.per.length = m.vol.length ∧ m.vol.length ≤ 4096 ∧ m.vol.length % 8 = 0 ∧ InPl m.vol.length m.pend ∧ Ahead m.pend ∧ putAll m.per m.pend = m.vol
def Ok.dec (m : Mm) : Decidable (Ok m) := by unfold Ok; have := InPl.dec m.vol.length m.pend; have := Ahead.dec m.pend; exact inferInstance
def ok (m : Mm) : Bool := @decide (Ok m) (Ok.dec m)
theorem ok_true {m : Mm} (h : Ok m) : ok m = true := by unfold ok; exact @decide_eq_true _ (Ok.dec m) h
theorem ok_false {m : Mm} (h : ¬ Ok m) : ok m = false := by unfold ok; exact @decide_eq_false _ (Ok.dec m) h
theorem ok_iff {m : Mm} : ok m = true ↔ Ok m := by unfold ok; exact @decide_eq_true_iff _ (Ok.dec m)

theorem snoc_ind {α : Type} {P : List α → Prop} (h0 : P []) (h1 : ∀ l a, P l → P (l ++ [a])) (l : List α) : P l := by
  rw [← List.reverse_reverse l]
  induction l.reverse with
  | nil => exact h0
  | cons a t ih => rw [List.reverse_cons]; exact h1 _ _ ih
theorem take_next {α : Type} {l : List α} {k : Nat} {p : α} (h : l[k]? = some p) : l.take (k + 1) = l.take k ++ [p] := by
  rw [List.take_add_one, h]; rfl
theorem inPl_snoc {n : Nat} {l : List Pd} {p : Pd} : InPl n (l ++ [p]) ↔ InPl n l ∧ (0 ≤ p.a ∧ p.a < (n : Int)) := by
  unfold InPl
  constructor
  · exact fun h => ⟨fun q hq => h q (by simp [hq]), h p (by simp)⟩
  · rintro ⟨h, hp⟩ q hq
    rcases List.mem_append.1 hq with hq | hq
    · exact h q hq
    · rw [List.mem_singleton.1 hq]; exact hp
theorem ahead_snoc {l : List Pd} {p : Pd} : Ahead (l ++ [p]) ↔ Ahead l ∧ ∀ q ∈ l, Fit q p := by
  unfold Ahead
  rw [List.pairwise_append]
  simp
theorem inPl_take {n : Nat} {l : List Pd} (h : InPl n l) (k : Nat) : InPl n (l.take k) := fun q hq => h q (List.mem_of_mem_take hq)
theorem ahead_take {l : List Pd} (h : Ahead l) (k : Nat) : Ahead (l.take k) := List.Pairwise.sublist (List.take_sublist k l) h
/-- Lines of which something is not flushed, as the loop finds them. -/
def opStep (l : List Bool) (p : Pd) : List Bool := l.set (p.a / 8).toNat (!p.f)
def opL (ps : List Pd) : List Bool := ps.foldl opStep (List.replicate 512 false)
theorem opL_snoc (l : List Pd) (p : Pd) : opL (l ++ [p]) = opStep (opL l) p := by unfold opL; rw [List.foldl_append]; rfl
theorem opL_length (l : List Pd) : (opL l).length = 512 := by
  induction l using snoc_ind with
  | h0 => exact List.length_replicate
  | h1 l p ih => rw [opL_snoc]; simp [opStep, ih]
def someU (l : List Pd) (q : Nat) : Bool := l.any fun p => decide (p.a / 8 = (q : Int)) && !p.f
theorem opL_get {n : Nat} (hn : n ≤ 4096) (l : List Pd) (hI : InPl n l) (hA : Ahead l) (q : Nat) (hq : q < 512) : (opL l)[q]? = some (someU l q) := by
  induction l using snoc_ind with
  | h0 => show (List.replicate 512 false)[q]? = _; rw [List.getElem?_replicate, if_pos hq]; rfl
  | h1 l p ih =>
    obtain ⟨hI, hp0, hp1⟩ := inPl_snoc.1 hI
    obtain ⟨hA, hF⟩ := ahead_snoc.1 hA
    rw [opL_snoc, opStep]
    have e : someU (l ++ [p]) q = (someU l q || (decide (p.a / 8 = (q : Int)) && !p.f)) := by simp [someU]
    rw [e]
    by_cases h : (p.a / 8).toNat = q
    · have h' : p.a / 8 = (q : Int) := by omega
      rw [h, List.getElem?_set_self (by rw [opL_length]; exact hq)]
      simp only [h', decide_true, Bool.true_and]
      cases hf : p.f
      · simp
      · have : someU l q = false := by
          unfold someU
          rw [List.any_eq_false]
          intro x hx
          have := hF x hx hf
          simp only [Bool.and_eq_true, decide_eq_true_eq, Bool.not_eq_true', not_and, Bool.not_eq_false]
          intro hx'
          exact this (by rw [hx', h'])
        rw [this]
        rfl
    · have h' : ¬ p.a / 8 = (q : Int) := by omega
      rw [List.getElem?_set_ne h, ih hI hA]
      simp [h']
theorem fit_all {l : List Pd} {p : Pd} {q : Nat} (hq : p.a / 8 = (q : Int)) (hf : p.f = true) : (∀ x ∈ l, Fit x p) ↔ someU l q = false := by
  unfold someU
  rw [List.any_eq_false]
  constructor
  · intro h x hx
    have := h x hx hf
    simp only [Bool.and_eq_true, decide_eq_true_eq, Bool.not_eq_true', not_and, Bool.not_eq_false]
    intro e
    exact this (by rw [e, hq])
  · intro h x hx _ e
    have := h x hx
    simp only [Bool.and_eq_true, decide_eq_true_eq, Bool.not_eq_true', not_and, Bool.not_eq_false] at this
    exact this (by rw [e, hq])
theorem fit_bare {l : List Pd} {p : Pd} (hf : p.f = false) : ∀ x ∈ l, Fit x p := fun x _ h => by rw [hf] at h; cases h
/-- What inOrder tells. -/
def Ord.dec (n : Nat) (ps : List Pd) : Decidable (InPl n ps ∧ Ahead ps) := by have := InPl.dec n ps; have := Ahead.dec ps; exact inferInstance
def ordB (n : Nat) (ps : List Pd) : Bool := @decide (InPl n ps ∧ Ahead ps) (Ord.dec n ps)
theorem ordB_true {n : Nat} {ps : List Pd} (h : InPl n ps ∧ Ahead ps) : ordB n ps = true := by unfold ordB; exact @decide_eq_true _ (Ord.dec n ps) h
theorem ordB_false {n : Nat} {ps : List Pd} (h : ¬ (InPl n ps ∧ Ahead ps)) : ordB n ps = false := by unfold ordB; exact @decide_eq_false _ (Ord.dec n ps) h
theorem ok_len {m : Mm} (h : m.per.length ≠ m.vol.length) : ok m = false := ok_false fun k => h k.1
theorem ok_may {m : Mm} (h : ¬ (m.vol.length ≤ 4096 ∧ m.vol.length % 8 = 0)) : ok m = false := ok_false fun k => h ⟨k.2.1, k.2.2.1⟩
theorem ok_ord {m : Mm} (h : ordB m.vol.length m.pend = false) : ok m = false := ok_false fun k => by
  have := ordB_true ⟨k.2.2.2.1, k.2.2.2.2.1⟩
  rw [h] at this
  cases this
theorem ok_rest {m : Mm} (h1 : m.per.length = m.vol.length) (h2 : m.vol.length ≤ 4096 ∧ m.vol.length % 8 = 0) (h3 : ordB m.vol.length m.pend = true) : ok m = decide (putAll m.per m.pend = m.vol) := by
  unfold ordB at h3
  have h3 := @of_decide_eq_true _ (Ord.dec _ _) h3
  by_cases h : putAll m.per m.pend = m.vol
  · rw [ok_true ⟨h1, h2.1, h2.2, h3.1, h3.2, h⟩, decide_eq_true h]
  · rw [ok_false fun k => h k.2.2.2.2.2, decide_eq_false h]
/-- A word is stored. -/
def putB (m : Mm) (i : Int) : Bool := ok m && decide (0 ≤ i ∧ i < (m.vol.length : Int))
def putM (m : Mm) (i v : Int) : Mm := if putB m i then ⟨m.vol.set i.toNat v, m.per, m.pend ++ [⟨i, v, false⟩]⟩ else m
def putE (m : Mm) (i : Int) : Int := if putB m i then 0 else 40
theorem putB_no {m : Mm} {i : Int} (h : ¬ (ok m = true ∧ 0 ≤ i ∧ i < (m.vol.length : Int))) : putB m i = false := by
  unfold putB
  cases e : ok m
  · rfl
  · exact decide_eq_false fun k => h ⟨e, k⟩
theorem putB_yes {m : Mm} {i : Int} (h : ok m = true) (h0 : 0 ≤ i) (h1 : i < (m.vol.length : Int)) : putB m i = true := by
  unfold putB; rw [h]; exact decide_eq_true ⟨h0, h1⟩
theorem putM_no {m : Mm} {i v : Int} (h : putB m i = false) : putM m i v = m := by unfold putM; rw [h]; rfl
theorem putM_yes {m : Mm} {i v : Int} (h : putB m i = true) : putM m i v = ⟨m.vol.set i.toNat v, m.per, m.pend ++ [⟨i, v, false⟩]⟩ := by unfold putM; rw [h]; rfl
theorem putE_no {m : Mm} {i : Int} (h : putB m i = false) : putE m i = 40 := by unfold putE; rw [h]; rfl
theorem putE_yes {m : Mm} {i : Int} (h : putB m i = true) : putE m i = 0 := by unfold putE; rw [h]; rfl
/-- Some are kept: those of which it is said. -/
def kStep (l : List Int) (x : Pd × Bool) : List Int := if x.2 then put1 l x.1 else l
def kPer (l : List Int) (zs : List (Pd × Bool)) : List Int := zs.foldl kStep l
def kPend (zs : List (Pd × Bool)) : List Pd := (zs.filter fun x => !x.2).map (·.1)
def kM (m : Mm) (zs : List (Pd × Bool)) : Mm := ⟨m.vol, kPer m.per zs, kPend zs⟩
theorem kPer_length (l : List Int) (zs : List (Pd × Bool)) : (kPer l zs).length = l.length := by
  induction zs generalizing l with
  | nil => rfl
  | cons x zs ih =>
    refine (ih (kStep l x)).trans ?_
    unfold kStep
    split
    · exact put1_length _ _
    · rfl
theorem kPend_length (zs : List (Pd × Bool)) : (kPend zs).length ≤ zs.length := by
  unfold kPend
  rw [List.length_map]
  exact List.length_filter_le _ _
theorem kM_yes (m : Mm) (zs : List (Pd × Bool)) (p : Pd) : kM m (zs ++ [(p, true)]) = ⟨m.vol, put1 (kPer m.per zs) p, kPend zs⟩ := by
  unfold kM kPer kPend
  rw [List.foldl_append, List.filter_append, List.map_append]
  simp [kStep]
theorem kM_no (m : Mm) (zs : List (Pd × Bool)) (p : Pd) : kM m (zs ++ [(p, false)]) = ⟨m.vol, kPer m.per zs, kPend zs ++ [p]⟩ := by
  unfold kM kPer kPend
  rw [List.foldl_append, List.filter_append, List.map_append]
  simp [kStep]
theorem zip_get {ps : List Pd} {bs : List Bool} {k : Nat} {p : Pd} {b : Bool} (hp : ps[k]? = some p) (hb : bs[k]? = some b) : (ps.zip bs)[k]? = some (p, b) := by
  rw [List.getElem?_zip_eq_some]; exact ⟨hp, hb⟩
/-- All that is flushed is kept; all of a line; all. -/
def okE (m : Mm) : Int := if ok m then 0 else 40
def fenM (m : Mm) : Mm := if ok m then kM m (m.pend.zip (m.pend.map (·.f))) else m
def synM (m : Mm) : Mm := if ok m then kM m (m.pend.zip (m.pend.map fun _ => true)) else m
def lnB (m : Mm) (n : Int) : Bool := ok m && decide (0 ≤ n ∧ n < (m.vol.length : Int) / 8)
def lnE (m : Mm) (n : Int) : Int := if lnB m n then 0 else 40
def eviM (m : Mm) (n : Int) : Mm := if lnB m n then kM m (m.pend.zip (m.pend.map fun p => decide (p.a / 8 = n))) else m
def fluP (n : Int) (p : Pd) : Pd := if p.a / 8 = n then ⟨p.a, p.v, true⟩ else p
def fluM (m : Mm) (n : Int) : Mm := if lnB m n then ⟨m.vol, m.per, m.pend.map (fluP n)⟩ else m
theorem lnB_no1 {m : Mm} {n : Int} (h : ok m = false) : lnB m n = false := by unfold lnB; rw [h]; rfl
theorem lnB_no2 {m : Mm} {n : Int} (h : decide (0 ≤ n ∧ n < (m.vol.length : Int) / 8) = false) : lnB m n = false := by unfold lnB; rw [h]; simp
theorem lnB_yes {m : Mm} {n : Int} (h : ok m = true) (h' : decide (0 ≤ n ∧ n < (m.vol.length : Int) / 8) = true) : lnB m n = true := by unfold lnB; rw [h, h']; rfl
theorem ok_out {m : Mm} (h : ok m = true) : Ok m := ok_iff.1 h
theorem ok_in {m : Mm} (h : ok m = true) : InPl m.per.length m.pend := by
  have := ok_out h
  rw [this.1]
  exact this.2.2.2.1
end Go.Proofs.Ytmaeobdeddllaaa
