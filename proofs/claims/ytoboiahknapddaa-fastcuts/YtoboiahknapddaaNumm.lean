/- Slots as plain lists: what the stores of an insert, a delete, a cut and a swap leave, step by step. No program. -/
import Derived.Test.YtoboiahknapddaaNuml
namespace Go.Proofs.Ytoboiahknapddaa

/-- A node's slots; slots without what stands twice. -/
def slN (ws : List Int) (b : Int) : List Int := if ndB b && decide (b + 16 ≤ (ws.length : Int)) then ((ws.drop (b.toNat + 3)).take 13).takeWhile (fun x => decide (0 < x)) else []
def plN : List Int → List Int
  | [] => []
  | x :: r => if r.head? = some x then plN r else x :: plN r
theorem plN_cons (x : Int) (r : List Int) : plN (x :: r) = if r.head? = some x then plN r else x :: plN r := rfl
theorem plN_one (x : Int) : plN [x] = [x] := rfl
theorem plN_nodup {l : List Int} (h : l.Nodup) : plN l = l := by
  induction l with
  | nil => rfl
  | cons x r ih =>
    obtain ⟨h1, h2⟩ := List.nodup_cons.1 h
    rw [plN_cons, if_neg, ih h2]
    intro e
    exact h1 (List.mem_of_head? e)
theorem plN_twice (a : List Int) (x : Int) (b : List Int) : plN (a ++ x :: x :: b) = plN (a ++ x :: b) := by
  induction a with
  | nil => rw [List.nil_append, plN_cons, if_pos (show (x :: b).head? = some x from rfl)]; rfl
  | cons y a ih =>
    rw [List.cons_append, List.cons_append, plN_cons, plN_cons, ih]
    have : (a ++ x :: x :: b).head? = (a ++ x :: b).head? := by cases a <;> rfl
    rw [this]
theorem plN_next (a : List Int) (x y : Int) (h : x ≠ y) : plN (a ++ [x, y]) = plN (a ++ [x]) ++ [y] := by
  induction a with
  | nil => rw [List.nil_append, plN_cons, if_neg (by intro e; exact h (by simpa using e.symm))]; rfl
  | cons z a ih =>
    rw [List.cons_append, List.cons_append, plN_cons, plN_cons, ih]
    have : (a ++ [x, y]).head? = (a ++ [x]).head? := by cases a <;> rfl
    rw [this]
    split <;> rfl
theorem plN_length (l : List Int) : (plN l).length ≤ l.length := by
  induction l with
  | nil => exact Nat.le_refl _
  | cons x r ih =>
    rw [plN_cons]
    split
    · exact Nat.le_trans ih (Nat.le_succ _)
    · exact Nat.succ_le_succ ih

/-- Two nodes' words, of which the second one has such slots. -/
def laidW (L : List Int) : List Int := List.replicate 19 0 ++ (L ++ List.replicate (13 - L.length) 0)
theorem laidW_length {L : List Int} (h : L.length ≤ 13) : (laidW L).length = 32 := by
  unfold laidW; simp; omega
theorem laidW_at {L : List Int} (h : L.length ≤ 13) (q : Nat) : (laidW L)[q]? = if q < 19 then some 0 else if q < 32 then some (L.getD (q - 19) 0) else none := by
  unfold laidW
  rw [List.getElem?_append, List.length_replicate, List.getElem?_replicate]
  by_cases h1 : q < 19
  · rw [if_pos h1, if_pos h1, if_pos h1]
  · rw [if_neg h1, if_neg h1, List.getElem?_append, List.getElem?_replicate, List.getD_eq_getElem?_getD]
    by_cases h2 : q - 19 < L.length
    · rw [if_pos h2, if_pos (by omega), List.getElem?_eq_getElem h2]; rfl
    · rw [if_neg h2, List.getElem?_eq_none (l := L) (by omega)]
      by_cases h3 : q < 32
      · rw [if_pos h3, if_pos (by omega)]; rfl
      · rw [if_neg h3, if_neg (by omega)]
theorem laidW_set {L L' : List Int} {i : Nat} {v : Int} (h : L.length ≤ 13) (h' : L'.length ≤ 13) (hi : i < 13) (hv : ∀ q, q < 13 → L'.getD q 0 = if q = i then v else L.getD q 0) : (laidW L).set (19 + i) v = laidW L' := by
  refine List.ext_getElem? fun q => ?_
  rw [List.getElem?_set, laidW_length h, laidW_at h, laidW_at h']
  by_cases e : 19 + i = q
  · rw [if_pos e, if_pos (by omega), if_neg (by omega), if_pos (by omega), hv (q - 19) (by omega), if_pos (by omega)]
  · rw [if_neg e]
    by_cases h1 : q < 19
    · rw [if_pos h1, if_pos h1]
    · rw [if_neg h1, if_neg h1]
      by_cases h3 : q < 32
      · rw [if_pos h3, if_pos h3, hv (q - 19) (by omega), if_neg (by omega)]
      · rw [if_neg h3, if_neg h3]
theorem laidW_slots {L : List Int} (h : L.length ≤ 13) (hp : ∀ x ∈ L, 0 < x) : slN (laidW L) 16 = L := by
  unfold slN
  rw [laidW_length h]
  have e : (ndB 16 && decide ((16 : Int) + 16 ≤ ((32 : Nat) : Int))) = true := by decide
  rw [e]
  show List.takeWhile _ (((laidW L).drop 19).take 13) = L
  unfold laidW
  rw [List.drop_append_of_le_length (by simp), List.drop_of_length_le (by simp), List.nil_append, List.take_of_length_le (by simp; omega), List.takeWhile_append_of_pos (fun x hx => decide_eq_true (hp x hx))]
  have : List.takeWhile (fun x => decide (0 < x)) (List.replicate (13 - L.length) (0 : Int)) = [] := by
    cases 13 - L.length
    · rfl
    · rw [List.replicate_succ, List.takeWhile_cons]; rfl
  rw [this, List.append_nil]

/-- Its stores, of the node that begins at word 16. -/
theorem put_slot {W : List Int} {f : Fl} {i : Nat} (hf : f.s = (i : Int)) (hi : i ≤ 12) : put1 W (pdF 16 f) = W.set (19 + i) f.v := by
  unfold put1 pdF
  show W.set (plc 16 f.s).toNat f.v = _
  rw [plc_yes (by decide) (by omega) (by omega), hf, show ((16 : Int) + 3 + (i : Int)).toNat = 19 + i from by omega]
theorem putAll_next {W : List Int} {fs : List Fl} {j : Nat} {f : Fl} (h : fs[j]? = some f) : putAll W ((fs.map (pdF 16)).take (j + 1)) = put1 (putAll W ((fs.map (pdF 16)).take j)) (pdF 16 f) := by
  rw [take_next (p := pdF 16 f) (by rw [List.getElem?_map, h]; rfl), putAll_append]; rfl

/-- What is stored by an insert, a delete, a cut. -/
def insF (l : List Int) (p : Nat) (r : Int) : List Fl := (List.range (l.length - p)).map (fun i => ⟨((l.length - i : Nat) : Int), l.getD (l.length - i - 1) 0⟩) ++ [⟨(p : Int), r⟩]
def delF (l : List Int) (p : Nat) : List Fl := (List.range (l.length - p)).map (fun i => ⟨((p + i : Nat) : Int), l.getD (p + i + 1) 0⟩)
def cutF (l : List Int) (c : Nat) : List Fl := (List.range (l.length - c)).map (fun i => ⟨((l.length - 1 - i : Nat) : Int), 0⟩)
theorem insF_length (l : List Int) (p : Nat) (r : Int) : (insF l p r).length = l.length - p + 1 := by simp [insF]
theorem delF_length (l : List Int) (p : Nat) : (delF l p).length = l.length - p := by simp [delF]
theorem cutF_length (l : List Int) (c : Nat) : (cutF l c).length = l.length - c := by simp [cutF]
theorem insF_slots {l : List Int} {p : Nat} {r : Int} (h : l.length ≤ 12) (hp : p ≤ l.length) : ∀ f ∈ insF l p r, 0 ≤ f.s ∧ f.s ≤ 12 := by
  intro f hf
  rcases List.mem_append.1 hf with hf | hf
  · obtain ⟨i, hi, rfl⟩ := List.mem_map.1 hf
    have := List.mem_range.1 hi
    exact ⟨by show (0 : Int) ≤ ((l.length - i : Nat) : Int); omega, by show ((l.length - i : Nat) : Int) ≤ 12; omega⟩
  · rw [List.mem_singleton.1 hf]
    exact ⟨by show (0 : Int) ≤ (p : Int); omega, by show (p : Int) ≤ 12; omega⟩
theorem delF_slots {l : List Int} {p : Nat} (h : l.length ≤ 13) : ∀ f ∈ delF l p, 0 ≤ f.s ∧ f.s ≤ 12 := by
  intro f hf
  obtain ⟨i, hi, rfl⟩ := List.mem_map.1 hf
  have := List.mem_range.1 hi
  exact ⟨by show (0 : Int) ≤ ((p + i : Nat) : Int); omega, by show ((p + i : Nat) : Int) ≤ 12; omega⟩
theorem cutF_slots {l : List Int} {c : Nat} (h : l.length ≤ 13) : ∀ f ∈ cutF l c, 0 ≤ f.s ∧ f.s ≤ 12 := by
  intro f hf
  obtain ⟨i, hi, rfl⟩ := List.mem_map.1 hf
  have := List.mem_range.1 hi
  exact ⟨by show (0 : Int) ≤ ((l.length - 1 - i : Nat) : Int); omega, by show ((l.length - 1 - i : Nat) : Int) ≤ 12; omega⟩

/-- What they leave, behind so many stores. -/
def insL (l : List Int) (j : Nat) : List Int := l.take (l.length - j + 1) ++ l.drop (l.length - j)
def delL (l : List Int) (p j : Nat) : List Int := l.take p ++ ((l.drop (p + 1)).take j ++ l.drop (p + j))
def wiL (l : List Int) (p : Nat) (r : Int) : List Int := l.take p ++ r :: l.drop p
def woL (l : List Int) (p : Nat) : List Int := l.take p ++ l.drop (p + 1)
theorem getD_far {l : List Int} {i : Nat} (h : l.length ≤ i) : l.getD i 0 = 0 := by rw [List.getD_eq_getElem?_getD, List.getElem?_eq_none h]; rfl
theorem getD_append {a b : List Int} (i : Nat) : (a ++ b).getD i 0 = if i < a.length then a.getD i 0 else b.getD (i - a.length) 0 := by
  simp only [List.getD_eq_getElem?_getD, List.getElem?_append]; split <;> rfl
theorem getD_take {l : List Int} (n i : Nat) : (l.take n).getD i 0 = if i < n then l.getD i 0 else 0 := by
  simp only [List.getD_eq_getElem?_getD, List.getElem?_take]; split <;> rfl
theorem getD_drop {l : List Int} (n i : Nat) : (l.drop n).getD i 0 = l.getD (n + i) 0 := by
  simp only [List.getD_eq_getElem?_getD, List.getElem?_drop]
theorem insL_at {l : List Int} {j : Nat} (hj : j ≤ l.length) (i : Nat) : (insL l j).getD i 0 = if i + j ≤ l.length then l.getD i 0 else if i ≤ l.length then l.getD (i - 1) 0 else 0 := by
  unfold insL
  rw [getD_append, getD_take, getD_drop, List.length_take]
  by_cases h0 : j = 0
  · subst h0
    by_cases h1 : i < l.length
    · rw [if_pos (by omega), if_pos (by omega), if_pos (by omega)]
    · rw [if_neg (by omega), getD_far (by omega)]
      by_cases h2 : i + 0 ≤ l.length
      · rw [if_pos h2, getD_far (by omega)]
      · rw [if_neg h2, if_neg (by omega)]
  · by_cases h1 : i + j ≤ l.length
    · rw [if_pos (by omega), if_pos (by omega), if_pos h1]
    · rw [if_neg (by omega), if_neg h1]
      by_cases h2 : i ≤ l.length
      · rw [if_pos h2, show l.length - j + (i - min (l.length - j + 1) l.length) = i - 1 from by omega]
      · rw [if_neg h2, getD_far (by omega)]
theorem delL_at {l : List Int} {p j : Nat} (hp : p < l.length) (hj : j ≤ l.length - p) (i : Nat) : (delL l p j).getD i 0 = if i < p then l.getD i 0 else if i < p + j then l.getD (i + 1) 0 else l.getD i 0 := by
  unfold delL
  rw [getD_append, getD_append, getD_take, getD_take, getD_drop, getD_drop, List.length_take, List.length_take, List.length_drop]
  by_cases h1 : i < p
  · rw [if_pos (by omega), if_pos h1, if_pos h1]
  · rw [if_neg (by omega), if_neg h1]
    by_cases h2 : i < p + j
    · rw [if_pos h2]
      by_cases h3 : i - min p l.length < min j (l.length - (p + 1))
      · rw [if_pos h3, if_pos (by omega), show p + 1 + (i - min p l.length) = i + 1 from by omega]
      · rw [if_neg h3, getD_far (by omega), getD_far (by omega)]
    · rw [if_neg h2, if_neg (by omega)]
      by_cases h4 : j = l.length - p
      · rw [getD_far (by omega), getD_far (by omega)]
      · rw [show p + j + (i - min p l.length - min j (l.length - (p + 1))) = i from by omega]
theorem wiL_at {l : List Int} {p : Nat} {r : Int} (hp : p ≤ l.length) (i : Nat) : (wiL l p r).getD i 0 = if i = p then r else if i < p then l.getD i 0 else l.getD (i - 1) 0 := by
  unfold wiL
  rw [getD_append, getD_take, List.length_take]
  by_cases h1 : i < p
  · rw [if_pos (by omega), if_pos h1, if_neg (by omega), if_pos h1]
  · rw [if_neg (by omega)]
    by_cases h2 : i = p
    · rw [if_pos h2, show i - min p l.length = 0 from by omega]; rfl
    · rw [if_neg h2, if_neg h1, show i - min p l.length = (i - 1 - p) + 1 from by omega]
      show (l.drop p).getD (i - 1 - p) 0 = _
      rw [getD_drop, show p + (i - 1 - p) = i - 1 from by omega]
theorem insL_length {l : List Int} {j : Nat} (hj : j ≤ l.length) : (insL l j).length ≤ l.length + 1 := by
  unfold insL; simp; omega
theorem delL_length {l : List Int} {p j : Nat} (hp : p < l.length) : (delL l p j).length ≤ l.length := by
  unfold delL; simp; omega
theorem wiL_length {l : List Int} {p : Nat} {r : Int} (hp : p ≤ l.length) : (wiL l p r).length = l.length + 1 := by
  unfold wiL; simp; omega
theorem woL_length {l : List Int} {p : Nat} (hp : p < l.length) : (woL l p).length = l.length - 1 := by
  unfold woL; simp; omega
theorem insL_zero (l : List Int) : insL l 0 = l := by unfold insL; rw [List.take_of_length_le (by omega), Nat.sub_zero, List.drop_length, List.append_nil]
theorem delL_zero (l : List Int) (p : Nat) : delL l p 0 = l := by unfold delL; simp
theorem delL_all {l : List Int} {p : Nat} (hp : p < l.length) : delL l p (l.length - p) = woL l p := by
  unfold delL woL
  rw [List.take_of_length_le (l := l.drop (p + 1)) (by simp; omega), show p + (l.length - p) = l.length from by omega, List.drop_length, List.append_nil]
theorem insF_get {l : List Int} {p j : Nat} {r : Int} (hj : j < l.length - p) : (insF l p r)[j]? = some ⟨((l.length - j : Nat) : Int), l.getD (l.length - j - 1) 0⟩ := by
  unfold insF
  rw [List.getElem?_append_left (by simp; omega), List.getElem?_map, List.getElem?_range hj]; rfl
theorem insF_last (l : List Int) (p : Nat) (r : Int) : (insF l p r)[l.length - p]? = some ⟨(p : Int), r⟩ := by
  unfold insF
  rw [List.getElem?_append_right (by simp)]; simp
theorem delF_get {l : List Int} {p j : Nat} (hj : j < l.length - p) : (delF l p)[j]? = some ⟨((p + j : Nat) : Int), l.getD (p + j + 1) 0⟩ := by
  unfold delF
  rw [List.getElem?_map, List.getElem?_range hj]; rfl
theorem cutF_get {l : List Int} {c j : Nat} (hj : j < l.length - c) : (cutF l c)[j]? = some ⟨((l.length - 1 - j : Nat) : Int), 0⟩ := by
  unfold cutF
  rw [List.getElem?_map, List.getElem?_range hj]; rfl

theorem ins_stage {l : List Int} {p : Nat} {r : Int} (h : l.length ≤ 12) (hp : p ≤ l.length) (j : Nat) (hj : j ≤ l.length - p) : putAll (laidW l) (((insF l p r).map (pdF 16)).take j) = laidW (insL l j) := by
  induction j with
  | zero => rw [insL_zero]; rfl
  | succ j ih =>
    have := insL_length (l := l) (j := j) (by omega)
    have := insL_length (l := l) (j := j + 1) (by omega)
    rw [putAll_next (insF_get (by omega)), ih (by omega), put_slot (i := l.length - j) rfl (by omega)]
    refine laidW_set (by omega) (by omega) (by omega) fun q hq => ?_
    rw [insL_at (by omega), insL_at (by omega)]
    by_cases h1 : q = l.length - j
    · rw [if_pos h1, if_neg (by omega), if_pos (by omega), h1]
    · rw [if_neg h1]
      by_cases h2 : q + j ≤ l.length
      · rw [if_pos h2, if_pos (by omega)]
      · rw [if_neg h2, if_neg (by omega)]
theorem ins_end {l : List Int} {p : Nat} {r : Int} (h : l.length ≤ 12) (hp : p ≤ l.length) : putAll (laidW l) ((insF l p r).map (pdF 16)) = laidW (wiL l p r) := by
  have e : ((insF l p r).map (pdF 16)) = ((insF l p r).map (pdF 16)).take (l.length - p + 1) := by rw [List.take_of_length_le (by simp [insF_length])]
  have := insL_length (l := l) (j := l.length - p) (by omega)
  have := wiL_length (l := l) (r := r) hp
  rw [e, putAll_next (insF_last l p r), ins_stage h hp _ (Nat.le_refl _), put_slot (i := p) rfl (by omega)]
  refine laidW_set (by omega) (by omega) (by omega) fun q hq => ?_
  rw [insL_at (by omega), wiL_at hp]
  by_cases h1 : q = p
  · rw [if_pos h1, if_pos h1]
  · rw [if_neg h1, if_neg h1]
    by_cases h2 : q < p
    · rw [if_pos h2, if_pos (by omega)]
    · rw [if_neg h2, if_neg (by omega)]
      by_cases h3 : q ≤ l.length
      · rw [if_pos h3]
      · rw [if_neg h3, getD_far (by omega)]
theorem del_stage {l : List Int} {p : Nat} (h : l.length ≤ 13) (hp : p < l.length) (j : Nat) (hj : j ≤ l.length - p) : putAll (laidW l) (((delF l p).map (pdF 16)).take j) = laidW (delL l p j) := by
  induction j with
  | zero => rw [delL_zero]; rfl
  | succ j ih =>
    have := delL_length (l := l) (p := p) (j := j) (by omega)
    have := delL_length (l := l) (p := p) (j := j + 1) (by omega)
    rw [putAll_next (delF_get (by omega)), ih (by omega), put_slot (i := p + j) rfl (by omega)]
    refine laidW_set (by omega) (by omega) (by omega) fun q hq => ?_
    rw [delL_at hp (by omega), delL_at hp (by omega)]
    by_cases h1 : q = p + j
    · rw [if_pos h1, if_neg (by omega), if_pos (by omega), h1]
    · rw [if_neg h1]
      by_cases h2 : q < p
      · rw [if_pos h2, if_pos h2]
      · rw [if_neg h2, if_neg h2]
        by_cases h3 : q < p + j
        · rw [if_pos h3, if_pos (by omega)]
        · rw [if_neg h3, if_neg (by omega)]
theorem del_end {l : List Int} {p : Nat} (h : l.length ≤ 13) (hp : p < l.length) : putAll (laidW l) ((delF l p).map (pdF 16)) = laidW (woL l p) := by
  have e : ((delF l p).map (pdF 16)) = ((delF l p).map (pdF 16)).take (l.length - p) := by rw [List.take_of_length_le (by simp [delF_length])]
  rw [e, del_stage h hp _ (Nat.le_refl _), delL_all hp]
theorem cut_stage {l : List Int} {c : Nat} (h : l.length ≤ 13) (j : Nat) (hj : j ≤ l.length - c) : putAll (laidW l) (((cutF l c).map (pdF 16)).take j) = laidW (l.take (l.length - j)) := by
  induction j with
  | zero => rw [Nat.sub_zero, List.take_length]; rfl
  | succ j ih =>
    rw [putAll_next (cutF_get (by omega)), ih (by omega), put_slot (i := l.length - 1 - j) rfl (by omega)]
    refine laidW_set (by simp; omega) (by simp; omega) (by omega) fun q hq => ?_
    rw [getD_take, getD_take]
    by_cases h1 : q = l.length - 1 - j
    · rw [if_pos h1, if_neg (by omega)]
    · rw [if_neg h1]
      by_cases h2 : q < l.length - j
      · rw [if_pos h2, if_pos (by omega)]
      · rw [if_neg h2, if_neg (by omega)]
theorem swp_end {l : List Int} {p : Nat} {r : Int} (h : l.length ≤ 13) (hp : p < l.length) : putAll (laidW l) ([(⟨(p : Int), r⟩ : Fl)].map (pdF 16)) = laidW (l.set p r) := by
  show put1 (laidW l) (pdF 16 ⟨(p : Int), r⟩) = _
  rw [put_slot (i := p) rfl (by omega)]
  refine laidW_set h (by simp; omega) (by omega) fun q hq => ?_
  simp only [List.getD_eq_getElem?_getD, List.getElem?_set]
  by_cases h1 : p = q
  · rw [if_pos h1, if_pos hp, if_pos h1.symm]; rfl
  · rw [if_neg h1, if_neg (fun e => h1 e.symm)]

/-- No two alike, each above 0. -/
theorem pos_ins {l : List Int} (hp : ∀ x ∈ l, 0 < x) (j : Nat) : ∀ x ∈ insL l j, 0 < x := by
  intro x hx
  rcases List.mem_append.1 hx with h | h
  · exact hp x (List.mem_of_mem_take h)
  · exact hp x (List.mem_of_mem_drop h)
theorem pos_del {l : List Int} (hp : ∀ x ∈ l, 0 < x) (p j : Nat) : ∀ x ∈ delL l p j, 0 < x := by
  intro x hx
  rcases List.mem_append.1 hx with h | h
  · exact hp x (List.mem_of_mem_take h)
  · rcases List.mem_append.1 h with h | h
    · exact hp x (List.mem_of_mem_drop (List.mem_of_mem_take h))
    · exact hp x (List.mem_of_mem_drop h)
theorem pos_wi {l : List Int} {r : Int} (hp : ∀ x ∈ l, 0 < x) (hr : 0 < r) (p : Nat) : ∀ x ∈ wiL l p r, 0 < x := by
  intro x hx
  rcases List.mem_append.1 hx with h | h
  · exact hp x (List.mem_of_mem_take h)
  · rcases List.mem_cons.1 h with rfl | h
    · exact hr
    · exact hp x (List.mem_of_mem_drop h)
theorem pos_wo {l : List Int} (hp : ∀ x ∈ l, 0 < x) (p : Nat) : ∀ x ∈ woL l p, 0 < x := by
  intro x hx
  rcases List.mem_append.1 hx with h | h
  · exact hp x (List.mem_of_mem_take h)
  · exact hp x (List.mem_of_mem_drop h)
theorem plain_ins {l : List Int} (hn : l.Nodup) (j : Nat) (hj : j ≤ l.length) : plN (insL l j) = l := by
  by_cases h0 : j = 0
  · rw [h0, insL_zero, plN_nodup hn]
  · unfold insL
    have hlt : l.length - j < l.length := by omega
    rw [List.take_succ_eq_append_getElem hlt, List.drop_eq_getElem_cons hlt, List.append_assoc, List.singleton_append, plN_twice, ← List.drop_eq_getElem_cons hlt, List.take_append_drop, plN_nodup hn]
theorem nodup_wo {l : List Int} (hn : l.Nodup) (p : Nat) : (woL l p).Nodup := by
  have : (woL l p).Sublist l := by
    unfold woL
    have h1 : (l.take p ++ l.drop (p + 1)).Sublist (l.take p ++ l.drop p) := List.Sublist.append (List.Sublist.refl _) (by rw [← List.drop_drop]; exact List.drop_sublist _ _)
    rwa [List.take_append_drop] at h1
  exact this.nodup hn
theorem nodup_wi {l : List Int} {r : Int} (hn : l.Nodup) (hr : r ∉ l) (p : Nat) : (wiL l p r).Nodup := by
  unfold wiL
  rw [List.nodup_append]
  refine ⟨(List.take_sublist _ _).nodup hn, List.nodup_cons.2 ⟨fun h => hr (List.mem_of_mem_drop h), (List.drop_sublist _ _).nodup hn⟩, ?_⟩
  intro a ha b hb e
  subst e
  rcases List.mem_cons.1 hb with rfl | hb
  · exact hr (List.mem_of_mem_take ha)
  · have : (l.take p ++ l.drop p).Nodup := by rw [List.take_append_drop]; exact hn
    exact (List.nodup_append.1 this).2.2 a ha a hb rfl
theorem plain_del {l : List Int} {p : Nat} (hn : l.Nodup) (hp : p < l.length) (j : Nat) (h0 : 0 < j) (hj : j ≤ l.length - p) : plN (delL l p j) = woL l p := by
  by_cases h1 : j = l.length - p
  · rw [h1, delL_all hp, plN_nodup (nodup_wo hn p)]
  · obtain ⟨d, rfl⟩ : ∃ d, j = d + 1 := ⟨j - 1, by omega⟩
    have hlt : p + (d + 1) < l.length := by omega
    have hlt2 : d < (l.drop (p + 1)).length := by simp; omega
    have e : (l.drop (p + 1))[d]'hlt2 = l[p + (d + 1)]'hlt := by
      rw [List.getElem_drop]
      congr 1
      omega
    have e2 : (l.drop (p + 1)).drop d = l.drop (p + (d + 1)) := by rw [List.drop_drop]; congr 1; omega
    have h2 : delL l p (d + 1) = (l.take p ++ (l.drop (p + 1)).take d) ++ l[p + (d + 1)]'hlt :: l[p + (d + 1)]'hlt :: l.drop (p + (d + 1) + 1) := by
      unfold delL
      rw [List.take_succ_eq_append_getElem hlt2, e, List.drop_eq_getElem_cons hlt]
      simp
    rw [h2, plN_twice, ← List.drop_eq_getElem_cons hlt, ← e2, List.append_assoc, List.take_append_drop]
    exact plN_nodup (nodup_wo hn p)
theorem woL_wiL {l : List Int} {p : Nat} {r : Int} (hp : p ≤ l.length) : woL (wiL l p r) p = l := by
  unfold woL wiL
  rw [List.take_append_of_le_length (by simp; omega), List.take_take, Nat.min_self, List.drop_append, List.drop_of_length_le (by simp; omega)]
  have : p + 1 - (l.take p).length = 1 := by simp; omega
  rw [this, List.nil_append]
  show l.take p ++ l.drop p = l
  rw [List.take_append_drop]
end Go.Proofs.Ytoboiahknapddaa
