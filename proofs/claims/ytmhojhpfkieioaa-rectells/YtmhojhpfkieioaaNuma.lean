/- Memories as plain lists: no program. · What a crash keeps, as plain lists: no program. · What is pending, some of it flushed: no program. · What may be stays so: no program. -/

namespace Go.Proofs.Ytmhojhpfkieioaa

/-- What is pending: where, what, and whether it is flushed. -/
structure Pd where
  a : Int
  v : Int
  f : Bool

/-- A memory. -/
structure Mm where
  vol : List Int
  per : List Int
  pend : List Pd

/-- One is put into its place; all of them, one behind the other. -/
def put1 (l : List Int) (p : Pd) : List Int := l.set p.a.toNat p.v
def putAll (l : List Int) (ps : List Pd) : List Int := ps.foldl put1 l
theorem put1_length (l : List Int) (p : Pd) : (put1 l p).length = l.length := by simp [put1]
theorem putAll_length (l : List Int) (ps : List Pd) : (putAll l ps).length = l.length := by
  induction ps generalizing l with
  | nil => rfl
  | cons p ps ih => exact (ih _).trans (put1_length l p)
theorem putAll_append (l : List Int) (ps qs : List Pd) : putAll l (ps ++ qs) = putAll (putAll l ps) qs := List.foldl_append
theorem putAll_take (l : List Int) (ps : List Pd) (k : Nat) (h : k < ps.length) : putAll l (ps.take (k + 1)) = put1 (putAll l (ps.take k)) (ps[k]'h) := by
  rw [List.take_succ_eq_append_getElem h, putAll_append]; rfl

/-- Each is at one of n places. -/
def InPl (n : Nat) (ps : List Pd) : Prop := ∀ p ∈ ps, 0 ≤ p.a ∧ p.a < (n : Int)
/-- Of one line what is flushed stands ahead of what is not. -/
def Fit (p q : Pd) : Prop := q.f = true → p.a / 8 = q.a / 8 → p.f = true
def Fit.dec (p q : Pd) : Decidable (Fit p q) := by unfold Fit; exact inferInstance
def Ahead (ps : List Pd) : Prop := ps.Pairwise Fit
def InPl.dec (n : Nat) (ps : List Pd) : Decidable (InPl n ps) := by unfold InPl; exact inferInstance
def Ahead.dec (ps : List Pd) : Decidable (Ahead ps) := by unfold Ahead; have : DecidableRel Fit := Fit.dec; exact inferInstance
/-- A memory may be. -/
def Ok (m : Mm) : Prop := m.per.length = m.vol.length ∧ m.vol.length ≤ 4096 ∧ m.vol.length % 8 = 0 ∧ InPl m.vol.length m.pend ∧ Ahead m.pend ∧ putAll m.per m.pend = m.vol
def Ok.dec (m : Mm) : Decidable (Ok m) := by unfold Ok; have := InPl.dec m.vol.length m.pend; have := Ahead.dec m.pend; exact inferInstance
def ok (m : Mm) : Bool := @decide (Ok m) (Ok.dec m)
theorem ok_true {m : Mm} (h : Ok m) : ok m = true := by unfold ok; exact @decide_eq_true _ (Ok.dec m) h
theorem ok_false {m : Mm} (h : ¬ Ok m) : ok m = false := by unfold ok; exact @decide_eq_false _ (Ok.dec m) h
theorem ok_iff {m : Mm} : ok m = true ↔ Ok m := by unfold ok; exact @decide_eq_true_iff _ (Ok.dec m)

theorem snoc_ind {α : Type} {P : List α → Prop} (h0 : P []) (h1 : ∀ l a, P l → P (l ++ [a])) (l : List α) : P l := by
  rw [← List.reverse_reverse l]
  induction l.reverse with
  | nil => exact h0
  | cons a t ih => rw [List.reverse_cons]; exact h1 _ _ ih
theorem take_next {α : Type} {l : List α} {k : Nat} {p : α} (h : l[k]? = some p) : l.take (k + 1) = l.take k ++ [p] := by
  rw [List.take_add_one, h]; rfl
theorem inPl_snoc {n : Nat} {l : List Pd} {p : Pd} : InPl n (l ++ [p]) ↔ InPl n l ∧ (0 ≤ p.a ∧ p.a < (n : Int)) := by
  unfold InPl
  constructor
  · exact fun h => ⟨fun q hq => h q (by simp [hq]), h p (by simp)⟩
  · rintro ⟨h, hp⟩ q hq
    rcases List.mem_append.1 hq with hq | hq
    · exact h q hq
    · rw [List.mem_singleton.1 hq]; exact hp
theorem ahead_snoc {l : List Pd} {p : Pd} : Ahead (l ++ [p]) ↔ Ahead l ∧ ∀ q ∈ l, Fit q p := by
  unfold Ahead
  rw [List.pairwise_append]
  simp
theorem inPl_take {n : Nat} {l : List Pd} (h : InPl n l) (k : Nat) : InPl n (l.take k) := fun q hq => h q (List.mem_of_mem_take hq)
theorem ahead_take {l : List Pd} (h : Ahead l) (k : Nat) : Ahead (l.take k) := List.Pairwise.sublist (List.take_sublist k l) h
/-- Lines of which something is not flushed, as the loop finds them. -/
def opStep (l : List Bool) (p : Pd) : List Bool := l.set (p.a / 8).toNat (!p.f)
def opL (ps : List Pd) : List Bool := ps.foldl opStep (List.replicate 512 false)
theorem opL_snoc (l : List Pd) (p : Pd) : opL (l ++ [p]) = opStep (opL l) p := by unfold opL; rw [List.foldl_append]; rfl
theorem opL_length (l : List Pd) : (opL l).length = 512 := by
  induction l using snoc_ind with
  | h0 => exact List.length_replicate
  | h1 l p ih => rw [opL_snoc]; simp [opStep, ih]
def someU (l : List Pd) (q : Nat) : Bool := l.any fun p => decide (p.a / 8 = (q : Int)) && !p.f
theorem opL_get {n : Nat} (hn : n ≤ 4096) (l : List Pd) (hI : InPl n l) (hA : Ahead l) (q : Nat) (hq : q < 512) : (opL l)[q]? = some (someU l q) := by
  induction l using snoc_ind with
  | h0 => show (List.replicate 512 false)[q]? = _; rw [List.getElem?_replicate, if_pos hq]; rfl
  | h1 l p ih =>
    obtain ⟨hI, hp0, hp1⟩ := inPl_snoc.1 hI
    obtain ⟨hA, hF⟩ := ahead_snoc.1 hA
    rw [opL_snoc, opStep]
    have e : someU (l ++ [p]) q = (someU l q || (decide (p.a / 8 = (q : Int)) && !p.f)) := by simp [someU]
    rw [e]
    by_cases h : (p.a / 8).toNat = q
    · have h' : p.a / 8 = (q : Int) := by omega
      rw [h, List.getElem?_set_self (by rw [opL_length]; exact hq)]
      simp only [h', decide_true, Bool.true_and]
      cases hf : p.f
      · simp
      · have : someU l q = false := by
          unfold someU
          rw [List.any_eq_false]
          intro x hx
          have := hF x hx hf
          simp only [Bool.and_eq_true, decide_eq_true_eq, Bool.not_eq_true', not_and, Bool.not_eq_false]
          intro hx'
          exact this (by rw [hx', h'])
        rw [this]
        rfl
    · have h' : ¬ p.a / 8 = (q : Int) := by omega
      rw [List.getElem?_set_ne h, ih hI hA]
      simp [h']
theorem fit_all {l : List Pd} {p : Pd} {q : Nat} (hq : p.a / 8 = (q : Int)) (hf : p.f = true) : (∀ x ∈ l, Fit x p) ↔ someU l q = false := by
  unfold someU
  rw [List.any_eq_false]
  constructor
  · intro h x hx
    have := h x hx hf
    simp only [Bool.and_eq_true, decide_eq_true_eq, Bool.not_eq_true', not_and, Bool.not_eq_false]
    intro e
    exact this (by rw [e, hq])
  · intro h x hx _ e
    have := h x hx
    simp only [Bool.and_eq_true, decide_eq_true_eq, Bool.not_eq_true', not_and, Bool.not_eq_false] at this
    exact this (by rw [e, hq])
theorem fit_bare {l : List Pd} {p : Pd} (hf : p.f = false) : ∀ x ∈ l, Fit x p := fun x _ h => by rw [hf] at h; cases h
/-- What inOrder tells. -/
def Ord.dec (n : Nat) (ps : List Pd) : Decidable (InPl n ps ∧ Ahead ps) := by have := InPl.dec n ps; have := Ahead.dec ps; exact inferInstance
def ordB (n : Nat) (ps : List Pd) : Bool := @decide (InPl n ps ∧ Ahead ps) (Ord.dec n ps)
theorem ordB_true {n : Nat} {ps : List Pd} (h : InPl n ps ∧ Ahead ps) : ordB n ps = true := by unfold ordB; exact @decide_eq_true _ (Ord.dec n ps) h
theorem ordB_false {n : Nat} {ps : List Pd} (h : ¬ (InPl n ps ∧ Ahead ps)) : ordB n ps = false := by unfold ordB; exact @decide_eq_false _ (Ord.dec n ps) h
theorem ok_len {m : Mm} (h : m.per.length ≠ m.vol.length) : ok m = false := ok_false fun k => h k.1
theorem ok_may {m : Mm} (h : ¬ (m.vol.length ≤ 4096 ∧ m.vol.length % 8 = 0)) : ok m = false := ok_false fun k => h ⟨k.2.1, k.2.2.1⟩
theorem ok_ord {m : Mm} (h : ordB m.vol.length m.pend = false) : ok m = false := ok_false fun k => by
  have := ordB_true ⟨k.2.2.2.1, k.2.2.2.2.1⟩
  rw [h] at this
  cases this
theorem ok_rest {m : Mm} (h1 : m.per.length = m.vol.length) (h2 : m.vol.length ≤ 4096 ∧ m.vol.length % 8 = 0) (h3 : ordB m.vol.length m.pend = true) : ok m = decide (putAll m.per m.pend = m.vol) := by
  unfold ordB at h3
  have h3 := @of_decide_eq_true _ (Ord.dec _ _) h3
  by_cases h : putAll m.per m.pend = m.vol
  · rw [ok_true ⟨h1, h2.1, h2.2, h3.1, h3.2, h⟩, decide_eq_true h]
  · rw [ok_false fun k => h k.2.2.2.2.2, decide_eq_false h]
/-- A word is stored. -/
def putB (m : Mm) (i : Int) : Bool := ok m && decide (0 ≤ i ∧ i < (m.vol.length : Int))
def putM (m : Mm) (i v : Int) : Mm := if putB m i then ⟨m.vol.set i.toNat v, m.per, m.pend ++ [⟨i, v, false⟩]⟩ else m
def putE (m : Mm) (i : Int) : Int := if putB m i then 0 else 40
theorem putB_no {m : Mm} {i : Int} (h : ¬ (ok m = true ∧ 0 ≤ i ∧ i < (m.vol.length : Int))) : putB m i = false := by
  unfold putB
  cases e : ok m
  · rfl
  · exact decide_eq_false fun k => h ⟨e, k⟩
theorem putB_yes {m : Mm} {i : Int} (h : ok m = true) (h0 : 0 ≤ i) (h1 : i < (m.vol.length : Int)) : putB m i = true := by
  unfold putB; rw [h]; exact decide_eq_true ⟨h0, h1⟩
theorem putM_no {m : Mm} {i v : Int} (h : putB m i = false) : putM m i v = m := by unfold putM; rw [h]; rfl
theorem putM_yes {m : Mm} {i v : Int} (h : putB m i = true) : putM m i v = ⟨m.vol.set i.toNat v, m.per, m.pend ++ [⟨i, v, false⟩]⟩ := by unfold putM; rw [h]; rfl
theorem putE_no {m : Mm} {i : Int} (h : putB m i = false) : putE m i = 40 := by unfold putE; rw [h]; rfl
theorem putE_yes {m : Mm} {i : Int} (h : putB m i = true) : putE m i = 0 := by unfold putE; rw [h]; rfl
/-- Some are kept: those of which it is said. -/
def kStep (l : List Int) (x : Pd × Bool) : List Int := if x.2 then put1 l x.1 else l
def kPer (l : List Int) (zs : List (Pd × Bool)) : List Int := zs.foldl kStep l
def kPend (zs : List (Pd × Bool)) : List Pd := (zs.filter fun x => !x.2).map (·.1)
def kM (m : Mm) (zs : List (Pd × Bool)) : Mm := ⟨m.vol, kPer m.per zs, kPend zs⟩
theorem kPer_length (l : List Int) (zs : List (Pd × Bool)) : (kPer l zs).length = l.length := by
  induction zs generalizing l with
  | nil => rfl
  | cons x zs ih =>
    refine (ih (kStep l x)).trans ?_
    unfold kStep
    split
    · exact put1_length _ _
    · rfl
theorem kPend_length (zs : List (Pd × Bool)) : (kPend zs).length ≤ zs.length := by
  unfold kPend
  rw [List.length_map]
  exact List.length_filter_le _ _
theorem kM_yes (m : Mm) (zs : List (Pd × Bool)) (p : Pd) : kM m (zs ++ [(p, true)]) = ⟨m.vol, put1 (kPer m.per zs) p, kPend zs⟩ := by
  unfold kM kPer kPend
  rw [List.foldl_append, List.filter_append, List.map_append]
  simp [kStep]
theorem kM_no (m : Mm) (zs : List (Pd × Bool)) (p : Pd) : kM m (zs ++ [(p, false)]) = ⟨m.vol, kPer m.per zs, kPend zs ++ [p]⟩ := by
  unfold kM kPer kPend
  rw [List.foldl_append, List.filter_append, List.map_append]
  simp [kStep]
theorem zip_get {ps : List Pd} {bs : List Bool} {k : Nat} {p : Pd} {b : Bool} (hp : ps[k]? = some p) (hb : bs[k]? = some b) : (ps.zip bs)[k]? = some (p, b) := by
  rw [List.getElem?_zip_eq_some]; exact ⟨hp, hb⟩
/-- All that is flushed is kept; all of a line; all. -/
def okE (m : Mm) : Int := if ok m then 0 else 40
def fenM (m : Mm) : Mm := if ok m then kM m (m.pend.zip (m.pend.map (·.f))) else m
def synM (m : Mm) : Mm := if ok m then kM m (m.pend.zip (m.pend.map fun _ => true)) else m
def lnB (m : Mm) (n : Int) : Bool := ok m && decide (0 ≤ n ∧ n < (m.vol.length : Int) / 8)
def lnE (m : Mm) (n : Int) : Int := if lnB m n then 0 else 40
def eviM (m : Mm) (n : Int) : Mm := if lnB m n then kM m (m.pend.zip (m.pend.map fun p => decide (p.a / 8 = n))) else m
def fluP (n : Int) (p : Pd) : Pd := if p.a / 8 = n then ⟨p.a, p.v, true⟩ else p
def fluM (m : Mm) (n : Int) : Mm := if lnB m n then ⟨m.vol, m.per, m.pend.map (fluP n)⟩ else m
theorem lnB_no1 {m : Mm} {n : Int} (h : ok m = false) : lnB m n = false := by unfold lnB; rw [h]; rfl
theorem lnB_no2 {m : Mm} {n : Int} (h : decide (0 ≤ n ∧ n < (m.vol.length : Int) / 8) = false) : lnB m n = false := by unfold lnB; rw [h]; simp
theorem lnB_yes {m : Mm} {n : Int} (h : ok m = true) (h' : decide (0 ≤ n ∧ n < (m.vol.length : Int) / 8) = true) : lnB m n = true := by unfold lnB; rw [h, h']; rfl
theorem ok_out {m : Mm} (h : ok m = true) : Ok m := ok_iff.1 h
theorem ok_in {m : Mm} (h : ok m = true) : InPl m.per.length m.pend := by
  have := ok_out h
  rw [this.1]
  exact this.2.2.2.1
end Go.Proofs.Ytmhojhpfkieioaa
namespace Go.Proofs.Ytmhojhpfkieioaa

/-- Whether one more is kept of a line, and what is left behind it. -/
def crBit (x : Int) : Bool := decide (0 < x)
def crSet (L : List Int) (l : Nat) (x : Int) : List Int := if 0 < x then L.set l (x - 1) else L
def lnN (p : Pd) : Nat := (p.a / 8).toNat
def crStep (L : List Int) (p : Pd) : List Int := crSet L (lnN p) (L.getD (lnN p) 0)
def crL (L : List Int) (ps : List Pd) : List Int := ps.foldl crStep L
def crB (L : List Int) : List Pd → List Bool
  | [] => []
  | p :: ps => crBit (L.getD (lnN p) 0) :: crB (crStep L p) ps
theorem crSet_length (L : List Int) (l : Nat) (x : Int) : (crSet L l x).length = L.length := by unfold crSet; split <;> simp
theorem crL_length (L : List Int) (ps : List Pd) : (crL L ps).length = L.length := by
  induction ps generalizing L with
  | nil => rfl
  | cons p ps ih => exact (ih (crStep L p)).trans (crSet_length _ _ _)
theorem crL_snoc (L : List Int) (ps : List Pd) (p : Pd) : crL L (ps ++ [p]) = crStep (crL L ps) p := by unfold crL; rw [List.foldl_append]; rfl
theorem crB_length (L : List Int) (ps : List Pd) : (crB L ps).length = ps.length := by
  induction ps generalizing L with
  | nil => rfl
  | cons p ps ih => simp [crB, ih]
theorem crB_get (L : List Int) (ps : List Pd) (k : Nat) (p : Pd) (h : ps[k]? = some p) : (crB L ps)[k]? = some (crBit ((crL L (ps.take k)).getD (lnN p) 0)) := by
  induction ps generalizing L k with
  | nil => simp at h
  | cons x ps ih =>
    cases k with
    | zero =>
      have : x = p := by simpa using h
      subst this
      rfl
    | succ k => exact ih (crStep L x) k (by simpa using h)
def Bd (L : List Int) : Prop := ∀ x ∈ L, -9223372036854775808 ≤ x ∧ x < 9223372036854775808
theorem bd_get {L : List Int} (h : Bd L) (l : Nat) : -9223372036854775808 ≤ L.getD l 0 ∧ L.getD l 0 < 9223372036854775808 := by
  rw [List.getD_eq_getElem?_getD]
  cases e : L[l]? with
  | none => simp
  | some x => exact h x (List.mem_of_getElem? e)
theorem bd_step {L : List Int} (h : Bd L) (p : Pd) : Bd (crStep L p) := by
  unfold crStep crSet
  have := bd_get h (lnN p)
  split
  · intro x hx
    rcases List.mem_or_eq_of_mem_set hx with hx | rfl
    · exact h x hx
    · omega
  · exact h
theorem bd_all {L : List Int} (h : Bd L) (ps : List Pd) : Bd (crL L ps) := by
  induction ps generalizing L with
  | nil => exact h
  | cons p ps ih => exact ih (bd_step h p)
/-- What is left to be kept of each line, at the beginning. -/
def leftL (zs : List Int) (n : Nat) : List Int := zs.take n ++ List.replicate (n - (zs.take n).length) 0
theorem leftL_length (zs : List Int) (n : Nat) : (leftL zs n).length = n := by unfold leftL; simp; omega
theorem leftL_get (zs : List Int) (n i : Nat) (h : i < n) : (leftL zs n).getD i 0 = zs.getD i 0 := by
  unfold leftL
  rw [List.getD_eq_getElem?_getD, List.getD_eq_getElem?_getD]
  by_cases hi : i < zs.length
  · rw [List.getElem?_append_left (by simp; omega), List.getElem?_take, if_pos h]
  · rw [List.getElem?_append_right (by simp; omega), List.getElem?_replicate, List.getElem?_eq_none (by omega)]
    split <;> rfl
theorem bd_left {zs : List Int} (h : Bd zs) (n : Nat) : Bd (leftL zs n) := by
  intro x hx
  rcases List.mem_append.1 hx with hx | hx
  · exact h x (List.mem_of_mem_take hx)
  · rw [(List.mem_replicate.1 hx).2]; omega
/-- What a crash leaves. -/
def crM (m : Mm) (keep : List Int) : Mm := kM m (m.pend.zip (crB (leftL keep (m.vol.length / 8)) m.pend))
def crP (m : Mm) (keep : List Int) : List Int := if ok m then (crM m keep).per else []
end Go.Proofs.Ytmhojhpfkieioaa
namespace Go.Proofs.Ytmhojhpfkieioaa

def flPre (ps : List Pd) (pre : List (Fin ps.length)) : List Pd := ps.mapIdx fun j p => if pre.any (fun x => x.1 == j) then ⟨p.a, p.v, true⟩ else p
theorem flPre_length (ps : List Pd) (pre : List (Fin ps.length)) : (flPre ps pre).length = ps.length := by simp [flPre]
theorem flPre_nil (ps : List Pd) : flPre ps [] = ps := by
  apply List.ext_getElem?
  intro j
  simp [flPre]
theorem flPre_get (ps : List Pd) (pre : List (Fin ps.length)) (j : Nat) : (flPre ps pre)[j]? = (ps[j]?).map fun p => if pre.any (fun x => x.1 == j) then ⟨p.a, p.v, true⟩ else p := by simp [flPre]
theorem flPre_at (ps : List Pd) (pre : List (Fin ps.length)) (x : Fin ps.length) : ∃ p, (flPre ps pre)[x.1]? = some p ∧ (flPre ps pre).set x.1 ⟨p.a, p.v, true⟩ = flPre ps (pre ++ [x]) := by
  have hx : ps[x.1]? = some (ps[x.1]'x.2) := List.getElem?_eq_getElem x.2
  have hg := flPre_get ps pre x.1
  rw [hx] at hg
  refine ⟨_, hg, ?_⟩
  apply List.ext_getElem?
  intro j
  rw [flPre_get]
  by_cases h : x.1 = j
  · subst h
    rw [List.getElem?_set_self (by rw [flPre_length]; exact x.2), hx]
    simp only [List.any_append, List.any_cons, List.any_nil, Bool.or_false, beq_self_eq_true, Bool.or_true, if_true, Option.map_some]
    split <;> rfl
  · rw [List.getElem?_set_ne h, flPre_get]
    have : (x.1 == j) = false := by simpa using h
    simp [List.any_append, this]
theorem flPre_all (ps : List Pd) (xs : List (Fin ps.length)) (line : Int) (h : ∀ j : Fin ps.length, j ∈ xs ↔ (ps[j.1]'j.2).a / 8 = line) : flPre ps xs = ps.map (fluP line) := by
  apply List.ext_getElem?
  intro j
  rw [flPre_get, List.getElem?_map]
  by_cases hj : j < ps.length
  · rw [List.getElem?_eq_getElem hj]
    simp only [Option.map_some]
    have hm := h ⟨j, hj⟩
    by_cases hl : (ps[j]'hj).a / 8 = line
    · have : xs.any (fun x => x.1 == j) = true := by
        rw [List.any_eq_true]
        exact ⟨⟨j, hj⟩, hm.2 hl, by simp⟩
      rw [this]
      simp [fluP, hl]
    · have : xs.any (fun x => x.1 == j) = false := by
        rw [List.any_eq_false]
        intro x hx
        simp only [beq_iff_eq]
        intro e
        subst e
        exact hl (hm.1 hx)
      rw [this]
      simp [fluP, hl]
  · rw [List.getElem?_eq_none (by omega)]
    rfl
end Go.Proofs.Ytmhojhpfkieioaa
namespace Go.Proofs.Ytmhojhpfkieioaa

theorem putB_out {m : Mm} {i : Int} (h : putB m i = true) : Ok m ∧ 0 ≤ i ∧ i < (m.vol.length : Int) := by
  unfold putB at h
  rw [Bool.and_eq_true] at h
  exact ⟨ok_iff.1 h.1, of_decide_eq_true h.2⟩
theorem ok_put {m : Mm} {i v : Int} (h : putB m i = true) : Ok (putM m i v) := by
  obtain ⟨hk, h0, h1⟩ := putB_out h
  rw [putM_yes h]
  obtain ⟨k1, k2, k3, k4, k5, k6⟩ := hk
  have e : (m.vol.set i.toNat v).length = m.vol.length := List.length_set
  refine ⟨by show m.per.length = (m.vol.set i.toNat v).length; rw [e]; exact k1, by show (m.vol.set i.toNat v).length ≤ _; rw [e]; exact k2, by show (m.vol.set i.toNat v).length % 8 = 0; rw [e]; exact k3, ?_, ?_, ?_⟩
  · show InPl (m.vol.set i.toNat v).length _
    rw [e]
    exact inPl_snoc.2 ⟨k4, h0, h1⟩
  · exact ahead_snoc.2 ⟨k5, fit_bare rfl⟩
  · show putAll m.per (m.pend ++ [_]) = _
    rw [putAll_append, k6]
    rfl
theorem putM_len (m : Mm) (i v : Int) : (putM m i v).vol.length = m.vol.length := by
  cases h : putB m i
  · rw [putM_no h]
  · rw [putM_yes h]; exact List.length_set
theorem putM_pend (m : Mm) (i v : Int) : (putM m i v).pend.length ≤ m.pend.length + 1 := by
  cases h : putB m i
  · rw [putM_no h]; omega
  · rw [putM_yes h]; simp
theorem putB_range {m : Mm} {i : Int} (h : ¬ (0 ≤ i ∧ i < (m.vol.length : Int))) : putB m i = false := putB_no fun k => h k.2
theorem turn_codes (m : Mm) (i j x y : Int) :
    (putE m i = 40 ∧ putE (putM m i x) j = 40 ∧ putE m j = 40 ∧ putE (putM m j y) i = 40) ∨ (putE m i = 40 ∧ putE (putM m i x) j = 0 ∧ putE m j = 0 ∧ putE (putM m j y) i = 40) ∨
    (putE m i = 0 ∧ putE (putM m i x) j = 40 ∧ putE m j = 40 ∧ putE (putM m j y) i = 0) ∨ (putB m i = true ∧ putB m j = true ∧ putE m i = 0 ∧ putE (putM m i x) j = 0 ∧ putE m j = 0 ∧ putE (putM m j y) i = 0) := by
  cases hi : putB m i <;> cases hj : putB m j
  · left
    have e1 : putM m i x = m := putM_no hi
    have e2 : putM m j y = m := putM_no hj
    rw [e1, e2]
    exact ⟨putE_no hi, putE_no hj, putE_no hj, putE_no hi⟩
  · right; left
    have e1 : putM m i x = m := putM_no hi
    rw [e1]
    refine ⟨putE_no hi, putE_yes hj, putE_yes hj, putE_no (putB_range ?_)⟩
    rw [putM_len]
    intro h
    have := putB_yes (ok_iff.2 (putB_out hj).1) h.1 h.2
    rw [hi] at this
    cases this
  · right; right; left
    have e2 : putM m j y = m := putM_no hj
    rw [e2]
    refine ⟨putE_yes hi, putE_no (putB_range ?_), putE_no hj, putE_yes hi⟩
    rw [putM_len]
    intro h
    have := putB_yes (ok_iff.2 (putB_out hi).1) h.1 h.2
    rw [hj] at this
    cases this
  · right; right; right
    refine ⟨rfl, rfl, putE_yes hi, putE_yes (putB_yes (ok_iff.2 (ok_put hi)) (putB_out hj).2.1 ?_), putE_yes hj, putE_yes (putB_yes (ok_iff.2 (ok_put hj)) (putB_out hi).2.1 ?_)⟩
    · rw [putM_len]; exact (putB_out hj).2.2
    · rw [putM_len]; exact (putB_out hi).2.2
/-- Two stores, both good. -/
theorem put_two {m : Mm} {i j x y : Int} (hi : putB m i = true) (hj : putB m j = true) : putM (putM m i x) j y = ⟨(m.vol.set i.toNat x).set j.toNat y, m.per, m.pend ++ [⟨i, x, false⟩] ++ [⟨j, y, false⟩]⟩ := by
  have : putB (putM m i x) j = true := putB_yes (ok_iff.2 (ok_put hi)) (putB_out hj).2.1 (by rw [putM_len]; exact (putB_out hj).2.2)
  rw [putM_yes this, putM_yes hi]
end Go.Proofs.Ytmhojhpfkieioaa
