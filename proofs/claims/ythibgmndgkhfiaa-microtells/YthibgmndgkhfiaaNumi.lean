/- Small steps as plain lists: no program. -/
import Derived.Test.YthibgmndgkhfiaaNume
import Derived.Test.YthibgmndgkhfiaaNumf
namespace Go.Proofs.Ythibgmndgkhfiaa

/-- A small step: its kind, where, what. -/
structure Mi where
  k : Int
  a : Int
  v : Int

/-- It may be, as a store; as a persist; as either; so many words may be; all of them may be. -/
def stB (n : Int) (x : Mi) : Bool := decide (0 ≤ x.a ∧ x.a < n)
def peB (n : Int) (x : Mi) : Bool := decide (0 ≤ x.a ∧ x.a < n / 8 ∧ x.v = 0)
def miB (n : Int) (x : Mi) : Bool := if x.k = 1 then stB n x else if x.k = 2 then peB n x else false
def woB (n : Int) : Bool := decide (0 ≤ n ∧ n ≤ 4096 ∧ n % 8 = 0)
def chB (l : List Mi) (n : Int) : Bool := woB n && l.all (miB n)
theorem miB_one {n : Int} {x : Mi} (h : x.k = 1) : miB n x = stB n x := by unfold miB; rw [if_pos h]
theorem miB_two {n : Int} {x : Mi} (h : x.k = 2) : miB n x = peB n x := by unfold miB; rw [if_neg (by omega), if_pos h]
theorem miB_other {n : Int} {x : Mi} (h1 : x.k ≠ 1) (h2 : x.k ≠ 2) : miB n x = false := by unfold miB; rw [if_neg h1, if_neg h2]
theorem woB_out {n : Int} (h : woB n = true) : 0 ≤ n ∧ n ≤ 4096 ∧ n % 8 = 0 := of_decide_eq_true h
theorem woB_no {n : Int} (h : ¬ (0 ≤ n ∧ n ≤ 4096 ∧ n % 8 = 0)) (l : List Mi) : chB l n = false := by
  unfold chB woB; rw [decide_eq_false h]; rfl
theorem chB_wo {n : Int} (h : woB n = true) (l : List Mi) : chB l n = l.all (miB n) := by unfold chB; rw [h]; rfl
theorem all_take_next {l : List Mi} {n : Int} {k : Nat} {x : Mi} (h : (l.take k).all (miB n) = true) (hx : l[k]? = some x) (hb : miB n x = true) : (l.take (k + 1)).all (miB n) = true := by
  rw [take_next hx, List.all_append, h]; simp [hb]
theorem all_fail {l : List Mi} {n : Int} {k : Nat} {x : Mi} (hx : l[k]? = some x) (hb : miB n x = false) : l.all (miB n) = false := by
  rw [List.all_eq_false]; exact ⟨x, List.mem_of_getElem? hx, by simp [hb]⟩

/-- One is done; all of them, one behind the other. -/
def doM (m : Mm) (x : Mi) : Mm := if x.k = 1 then putM m x.a x.v else fenM (fluM m x.a)
def runM (m : Mm) (l : List Mi) : Mm := l.foldl doM m
theorem doM_one {m : Mm} {x : Mi} (h : x.k = 1) : doM m x = putM m x.a x.v := by unfold doM; rw [if_pos h]
theorem doM_two {m : Mm} {x : Mi} (h : x.k = 2) : doM m x = fenM (fluM m x.a) := by unfold doM; rw [if_neg (by omega)]
theorem runM_next {m : Mm} {l : List Mi} {k : Nat} {x : Mi} (h : l[k]? = some x) : runM m (l.take (k + 1)) = doM (runM m (l.take k)) x := by
  rw [take_next h]; unfold runM; rw [List.foldl_append]; rfl
theorem runM_append (m : Mm) (a b : List Mi) : runM m (a ++ b) = runM (runM m a) b := List.foldl_append

theorem fen_len (m : Mm) : (fenM m).vol.length = m.vol.length ∧ (fenM m).per.length = m.per.length ∧ (fenM m).pend.length ≤ m.pend.length := by
  unfold fenM
  split
  · refine ⟨rfl, kPer_length _ _, Nat.le_trans (kPend_length _) ?_⟩
    rw [List.length_zip]; omega
  · exact ⟨rfl, rfl, Nat.le_refl _⟩
theorem flu_len (m : Mm) (n : Int) : (fluM m n).vol.length = m.vol.length ∧ (fluM m n).per.length = m.per.length ∧ (fluM m n).pend.length = m.pend.length := by
  unfold fluM
  split
  · exact ⟨rfl, rfl, List.length_map _⟩
  · exact ⟨rfl, rfl, rfl⟩
theorem putM_per (m : Mm) (i v : Int) : (putM m i v).per.length = m.per.length := by unfold putM; split <;> rfl
theorem do_len (m : Mm) (x : Mi) : (doM m x).vol.length = m.vol.length ∧ (doM m x).per.length = m.per.length ∧ (doM m x).pend.length ≤ m.pend.length + 1 := by
  unfold doM
  split
  · exact ⟨putM_len m _ _, putM_per m _ _, putM_pend m _ _⟩
  · obtain ⟨a, b, c⟩ := fen_len (fluM m x.a)
    obtain ⟨d, e, f⟩ := flu_len m x.a
    exact ⟨a.trans d, b.trans e, by omega⟩
theorem run_len (m : Mm) (l : List Mi) : (runM m l).vol.length = m.vol.length ∧ (runM m l).per.length = m.per.length ∧ (runM m l).pend.length ≤ m.pend.length + l.length := by
  induction l generalizing m with
  | nil => exact ⟨rfl, rfl, Nat.le_refl _⟩
  | cons x l ih =>
    obtain ⟨a, b, c⟩ := do_len m x
    obtain ⟨d, e, f⟩ := ih (doM m x)
    refine ⟨d.trans a, e.trans b, ?_⟩
    show (runM (doM m x) l).pend.length ≤ _
    rw [List.length_cons]; omega
theorem ok_do {m : Mm} (h : Ok m) (x : Mi) : Ok (doM m x) := by
  unfold doM
  split
  · exact ok_putM h _ _
  · exact ok_fen (ok_flu h _)
theorem ok_run {m : Mm} (h : Ok m) (l : List Mi) : Ok (runM m l) := by
  induction l generalizing m with
  | nil => exact h
  | cons x l ih => exact ih (ok_do h x)

/-- Both may be; what is made of it, and the error. -/
def mrB (m : Mm) (l : List Mi) : Bool := ok m && chB l (m.vol.length : Int)
def ruM (m : Mm) (l : List Mi) : Mm := if mrB m l then runM m l else m
def ruE (m : Mm) (l : List Mi) : Int := if mrB m l then 0 else 40
def tkN (n : Int) (len : Nat) : Nat := (min n (len : Int)).toNat
def csP (m : Mm) (l : List Mi) (n : Int) (keep : List Int) : List Int := if mrB m l then crP (runM m (l.take (tkN n l.length))) keep else []
theorem mrB_out {m : Mm} {l : List Mi} (h : mrB m l = true) : Ok m ∧ chB l (m.vol.length : Int) = true := by
  unfold mrB at h
  simp only [Bool.and_eq_true] at h
  exact ⟨ok_out h.1, h.2⟩
theorem chB_all {l : List Mi} {n : Int} (h : chB l n = true) : woB n = true ∧ ∀ x ∈ l, miB n x = true := by
  unfold chB at h
  simp only [Bool.and_eq_true, List.all_eq_true] at h
  exact h
theorem miB_kind {n : Int} {x : Mi} (h : miB n x = true) : x.k = 1 ∨ x.k = 2 := by
  unfold miB at h
  by_cases h1 : x.k = 1
  · exact .inl h1
  · rw [if_neg h1] at h
    by_cases h2 : x.k = 2
    · exact .inr h2
    · rw [if_neg h2] at h; cases h
theorem mrB_kinds {m : Mm} {l : List Mi} (h : mrB m l = true) : ∀ x ∈ l, x.k = 1 ∨ x.k = 2 := fun x hx => miB_kind ((chB_all (mrB_out h).2).2 x hx)
theorem ruM_yes {m : Mm} {l : List Mi} (h : mrB m l = true) : ruM m l = runM m l := by unfold ruM; rw [h]; rfl
theorem ruM_no {m : Mm} {l : List Mi} (h : mrB m l = false) : ruM m l = m := by unfold ruM; rw [h]; rfl
theorem ruE_yes {m : Mm} {l : List Mi} (h : mrB m l = true) : ruE m l = 0 := by unfold ruE; rw [h]; rfl
theorem ruE_no {m : Mm} {l : List Mi} (h : mrB m l = false) : ruE m l = 40 := by unfold ruE; rw [h]; rfl
theorem csP_yes {m : Mm} {l : List Mi} (h : mrB m l = true) (n : Int) (keep : List Int) : csP m l n keep = crP (runM m (l.take (tkN n l.length))) keep := by unfold csP; rw [h]; rfl
theorem csP_no {m : Mm} {l : List Mi} (h : mrB m l = false) (n : Int) (keep : List Int) : csP m l n keep = [] := by unfold csP; rw [h]; rfl
theorem okE_yes {m : Mm} (h : Ok m) : okE m = 0 := by unfold okE; rw [ok_true h]; rfl
theorem tkN_le (n : Int) (len : Nat) : tkN n len ≤ len := by unfold tkN; omega
theorem ru_len (m : Mm) (l : List Mi) : (ruM m l).vol.length = m.vol.length ∧ (ruM m l).per.length = m.per.length ∧ (ruM m l).pend.length ≤ m.pend.length + l.length := by
  cases h : mrB m l
  · rw [ruM_no h]; exact ⟨rfl, rfl, by omega⟩
  · rw [ruM_yes h]; exact run_len m l
end Go.Proofs.Ythibgmndgkhfiaa
