/- Free blocks as plain lists: no program. -/
namespace Go.Proofs.Ytpfbnfnlbjjjoaa

/-- A block may be free. -/
def isB (x : Int) : Bool := decide (1 ≤ x ∧ x < 256)
/-- Blocks that rise behind p. -/
def ck : Int → List Int → Bool
  | _, [] => true
  | p, x :: xs => isB x && decide (p < x) && ck x xs
/-- Free blocks may be. -/
def chk (l : List Int) : Bool := ck 0 l
/-- The last one, or p. -/
def lastD : Int → List Int → Int
  | p, [] => p
  | _, x :: xs => lastD x xs
theorem ck_append (a b : List Int) (p : Int) : ck p (a ++ b) = (ck p a && ck (lastD p a) b) := by
  induction a generalizing p with
  | nil => simp [ck, lastD]
  | cons x a ih => simp [ck, lastD, ih, Bool.and_assoc]
theorem lastD_append (a : List Int) (x p : Int) : lastD p (a ++ [x]) = x := by
  induction a generalizing p with
  | nil => rfl
  | cons y a ih => simp [lastD, ih]
theorem take_next' {l : List Int} {k : Nat} {x : Int} (h : l[k]? = some x) : l.take (k + 1) = l.take k ++ [x] := by
  obtain ⟨hk, e⟩ := List.getElem?_eq_some_iff.1 h
  rw [List.take_succ_eq_append_getElem hk, e]
theorem chk_next {l : List Int} {k : Nat} {x : Int} (h : l[k]? = some x) : chk (l.take (k + 1)) = (chk (l.take k) && (isB x && decide (lastD 0 (l.take k) < x))) := by
  unfold chk
  rw [take_next' h, ck_append]
  simp [ck]
theorem last_next {l : List Int} {k : Nat} {x : Int} (h : l[k]? = some x) : lastD 0 (l.take (k + 1)) = x := by
  rw [take_next' h, lastD_append]
theorem chk_part {l : List Int} {k : Nat} (h : chk (l.take k) = false) : chk l = false := by
  unfold chk at *
  have : ck 0 l = ck 0 (l.take k ++ l.drop k) := by rw [List.take_append_drop]
  rw [this, ck_append, h]
  rfl
theorem last_at {l : List Int} {k : Nat} {x : Int} (h : l[k]? = some x) : lastD 0 (l.take (k + 1)) = x := last_next h

/-- What free blocks are. -/
def Ok (l : List Int) : Prop := l.Pairwise (· < ·) ∧ ∀ x ∈ l, 1 ≤ x ∧ x ≤ 255
theorem isB_iff {x : Int} : isB x = true ↔ 1 ≤ x ∧ x ≤ 255 := by
  unfold isB
  rw [decide_eq_true_iff]
  omega
theorem ck_iff (l : List Int) (p : Int) : ck p l = true ↔ (l.Pairwise (· < ·) ∧ ∀ x ∈ l, p < x ∧ 1 ≤ x ∧ x ≤ 255) := by
  induction l generalizing p with
  | nil => simp [ck]
  | cons y l ih =>
    simp only [ck, Bool.and_eq_true, ih, isB_iff, decide_eq_true_iff, List.pairwise_cons, List.mem_cons]
    constructor
    · rintro ⟨⟨h1, h2⟩, h3, h4⟩
      refine ⟨⟨fun x hx => (h4 x hx).1, h3⟩, ?_⟩
      rintro x (rfl | hx)
      · exact ⟨h2, h1⟩
      · have := h4 x hx
        exact ⟨by omega, this.2⟩
    · rintro ⟨⟨h1, h2⟩, h3⟩
      exact ⟨⟨(h3 y (.inl rfl)).2, (h3 y (.inl rfl)).1⟩, h2, fun x hx => ⟨h1 x hx, (h3 x (.inr hx)).2⟩⟩
theorem chk_iff {l : List Int} : chk l = true ↔ Ok l := by
  unfold chk Ok
  rw [ck_iff]
  constructor
  · rintro ⟨h1, h2⟩
    exact ⟨h1, fun x hx => (h2 x hx).2⟩
  · rintro ⟨h1, h2⟩
    exact ⟨h1, fun x hx => by have := h2 x hx; omega⟩
theorem ok_ext {a b : List Int} (ha : a.Pairwise (· < ·)) (hb : b.Pairwise (· < ·)) (h : ∀ x, x ∈ a ↔ x ∈ b) : a = b := by
  induction a generalizing b with
  | nil =>
    cases b with
    | nil => rfl
    | cons y b => exact absurd ((h y).2 (.head _)) (by simp)
  | cons x a ih =>
    cases b with
    | nil => exact absurd ((h x).1 (.head _)) (by simp)
    | cons y b =>
      rw [List.pairwise_cons] at ha hb
      have hxy : x = y := by
        have h1 := (h x).1 (.head _)
        have h2 := (h y).2 (.head _)
        rw [List.mem_cons] at h1 h2
        rcases h1 with h1 | h1
        · exact h1
        · rcases h2 with h2 | h2
          · exact h2.symm
          · have := ha.1 y h2
            have := hb.1 x h1
            omega
      subst hxy
      rw [ih ha.2 hb.2]
      intro z
      constructor
      · intro hz
        have := (h z).1 (.tail _ hz)
        rw [List.mem_cons] at this
        rcases this with rfl | h1
        · exact absurd (ha.1 z hz) (by omega)
        · exact h1
      · intro hz
        have := (h z).2 (.tail _ hz)
        rw [List.mem_cons] at this
        rcases this with rfl | h1
        · exact absurd (hb.1 z hz) (by omega)
        · exact h1
theorem ok_len_from (l : List Int) (p : Int) (h : l.Pairwise (· < ·)) (h2 : ∀ x ∈ l, p < x ∧ x ≤ 255) (hp : p ≤ 255) : (l.length : Int) ≤ 255 - p := by
  induction l generalizing p with
  | nil => simp; omega
  | cons y l ih =>
    rw [List.pairwise_cons] at h
    have h3 := h2 y (.head _)
    have := ih y h.2 (fun x hx => ⟨h.1 x hx, (h2 x (.tail _ hx)).2⟩) h3.2
    simp only [List.length_cons]
    omega
/-- There are at most 255 of them. -/
theorem ok_len {l : List Int} (h : Ok l) : l.length ≤ 255 := by
  have := ok_len_from l 0 h.1 (fun x hx => ⟨by have := h.2 x hx; omega, (h.2 x hx).2⟩) (by omega)
  omega

/-- The blocks below k that are not used. -/
def frK (used : List Int) : Nat → List Int
  | 0 => []
  | k + 1 => if isB (k : Int) && !used.contains (k : Int) then frK used k ++ [(k : Int)] else frK used k
theorem frK_mem (used : List Int) (n : Nat) (x : Int) : x ∈ frK used n ↔ 1 ≤ x ∧ x < n ∧ x < 256 ∧ x ∉ used := by
  induction n with
  | zero => simp [frK]; omega
  | succ k ih =>
    unfold frK
    by_cases h : (isB (k : Int) && !used.contains (k : Int)) = true
    · rw [if_pos h]
      simp only [Bool.and_eq_true, isB_iff, Bool.not_eq_true', List.contains_eq_mem, decide_eq_false_iff_not] at h
      rw [List.mem_append, ih, List.mem_singleton]
      constructor
      · rintro (⟨h1, h2, h3, h4⟩ | rfl)
        · exact ⟨h1, by omega, h3, h4⟩
        · exact ⟨h.1.1, by omega, by omega, h.2⟩
      · rintro ⟨h1, h2, h3, h4⟩
        by_cases hx : x = (k : Int)
        · exact .inr hx
        · exact .inl ⟨h1, by omega, h3, h4⟩
    · rw [if_neg h, ih]
      simp only [Bool.and_eq_true, isB_iff, Bool.not_eq_true', List.contains_eq_mem, decide_eq_false_iff_not] at h
      constructor
      · rintro ⟨h1, h2, h3, h4⟩
        exact ⟨h1, by omega, h3, h4⟩
      · rintro ⟨h1, h2, h3, h4⟩
        refine ⟨h1, ?_, h3, h4⟩
        by_cases hx : x = (k : Int)
        · subst hx
          exact absurd ⟨⟨h1, by omega⟩, h4⟩ h
        · omega
theorem frK_ok (used : List Int) (n : Nat) : Ok (frK used n) := by
  refine ⟨?_, fun x hx => by have := (frK_mem used n x).1 hx; omega⟩
  induction n with
  | zero => simp [frK]
  | succ k ih =>
    unfold frK
    split
    · rw [List.pairwise_append]
      refine ⟨ih, by simp, ?_⟩
      intro a ha b hb
      rw [List.mem_singleton] at hb
      subst hb
      exact ((frK_mem used k a).1 ha).2.1
    · exact ih
theorem frK_len (used : List Int) (n : Nat) : (frK used n).length ≤ 255 := ok_len (frK_ok used n)
/-- There may be so many blocks. -/
def frB (b : Int) : Bool := decide (1 ≤ b ∧ b ≤ 256)
def frL (b : Int) (used : List Int) : List Int := if frB b then frK used b.toNat else []
def frE (b : Int) : Int := if frB b then 0 else 1
theorem fr_yes {b : Int} {used : List Int} (h : frB b = true) : frL b used = frK used b.toNat ∧ frE b = 0 := by simp [frL, frE, h]
theorem fr_no {b : Int} {used : List Int} (h : frB b = false) : frL b used = [] ∧ frE b = 1 := by simp [frL, frE, h]
theorem frL_ok (b : Int) (used : List Int) : Ok (frL b used) := by
  unfold frL
  split
  · exact frK_ok _ _
  · exact ⟨by simp, by simp⟩

/-- The first n, the others, and the error. -/
def tkB (l : List Int) (n : Int) : Bool := chk l && decide (0 ≤ n)
def tkE (l : List Int) (n : Int) : Int := if tkB l n then (if n ≤ l.length then 0 else 100) else 1
def tkA (l : List Int) (n : Int) : List Int := if tkE l n = 0 then l.take n.toNat else []
def tkR (l : List Int) (n : Int) : List Int := if tkE l n = 0 then l.drop n.toNat else l
theorem tk_wrong {l : List Int} {n : Int} (h : tkB l n = false) : tkE l n = 1 ∧ tkA l n = [] ∧ tkR l n = l := by simp [tkE, tkA, tkR, h]
theorem tk_full {l : List Int} {n : Int} (h : tkB l n = true) (h2 : (l.length : Int) < n) : tkE l n = 100 ∧ tkA l n = [] ∧ tkR l n = l := by
  have : ¬ n ≤ l.length := by omega
  simp [tkE, tkA, tkR, h, this]
theorem tk_yes {l : List Int} {n : Nat} (h : chk l = true) (h2 : n ≤ l.length) : tkE l n = 0 ∧ tkA l n = l.take n ∧ tkR l n = l.drop n := by
  have h3 : (n : Int) ≤ l.length := by omega
  have h4 : tkB l n = true := by simp [tkB, h]
  have h5 : tkE l n = 0 := by unfold tkE; rw [if_pos h4, if_pos h3]
  exact ⟨h5, by unfold tkA; rw [if_pos h5]; rfl, by unfold tkR; rw [if_pos h5]; rfl⟩
theorem tkE_zero {l : List Int} {n : Int} (h : tkE l n = 0) : Ok l ∧ 0 ≤ n ∧ n ≤ l.length := by
  unfold tkE tkB at h
  split at h
  · rename_i h1
    simp only [Bool.and_eq_true, decide_eq_true_iff] at h1
    split at h
    · exact ⟨chk_iff.1 h1.1, h1.2, by assumption⟩
    · cases h
  · cases h
theorem tk_len (l : List Int) (n : Int) : (tkA l n).length ≤ l.length ∧ (tkR l n).length ≤ l.length := by
  unfold tkA tkR
  constructor <;> split <;> simp <;> omega
theorem ok_take {l : List Int} (h : Ok l) (k : Nat) : Ok (l.take k) := ⟨h.1.sublist (List.take_sublist k l), fun x hx => h.2 x (List.mem_of_mem_take hx)⟩
theorem ok_drop {l : List Int} (h : Ok l) (k : Nat) : Ok (l.drop k) := ⟨h.1.sublist (List.drop_sublist k l), fun x hx => h.2 x (List.mem_of_mem_drop hx)⟩

/-- One is given back. -/
def lows (x : Int) (l : List Int) : List Int := l.filter fun y => decide (y < x)
def highs (x : Int) (l : List Int) : List Int := l.filter fun y => decide (x < y)
def gvB (l : List Int) (x : Int) : Bool := chk l && isB x && !decide (x ∈ l)
def gvE (l : List Int) (x : Int) : Int := if gvB l x then 0 else 1
def gvL (l : List Int) (x : Int) : List Int := if gvB l x then lows x l ++ x :: highs x l else l
theorem gv_no {l : List Int} {x : Int} (h : gvB l x = false) : gvE l x = 1 ∧ gvL l x = l := by simp [gvE, gvL, h]
theorem gv_yes {l : List Int} {x : Int} (h : gvB l x = true) : gvE l x = 0 ∧ gvL l x = lows x l ++ x :: highs x l := by simp [gvE, gvL, h]
theorem gvB_iff {l : List Int} {x : Int} : gvB l x = true ↔ Ok l ∧ (1 ≤ x ∧ x ≤ 255) ∧ x ∉ l := by
  unfold gvB
  simp only [Bool.and_eq_true, chk_iff, isB_iff, Bool.not_eq_true', decide_eq_false_iff_not, and_assoc]
theorem gvE_zero {l : List Int} {x : Int} : gvE l x = 0 ↔ gvB l x = true := by
  unfold gvE
  split <;> simp_all
theorem lows_all {x : Int} {l : List Int} (h : ∀ y ∈ l, x < y) : lows x l = [] := by
  unfold lows
  rw [List.filter_eq_nil_iff]
  intro y hy
  have := h y hy
  simp; omega
theorem highs_all {x : Int} {l : List Int} (h : ∀ y ∈ l, x < y) : highs x l = l := by
  unfold highs
  rw [List.filter_eq_self]
  intro y hy
  simpa using h y hy
theorem cut_at {l : List Int} {x : Int} (h : l.Pairwise (· < ·)) (hx : x ∉ l) : l = lows x l ++ highs x l := by
  induction l with
  | nil => rfl
  | cons y l ih =>
    rw [List.pairwise_cons] at h
    have hxy : x ≠ y := fun e => hx (by rw [e]; exact .head _)
    have hxl : x ∉ l := fun e => hx (.tail _ e)
    by_cases hlt : y < x
    · have h1 : lows x (y :: l) = y :: lows x l := by simp [lows, hlt]
      have h2 : highs x (y :: l) = highs x l := by
        have : ¬ x < y := by omega
        simp [highs, this]
      rw [h1, h2, List.cons_append, ← ih h.2 hxl]
    · have h3 : ∀ z ∈ y :: l, x < z := by
        intro z hz
        rw [List.mem_cons] at hz
        rcases hz with rfl | hz
        · omega
        · have := h.1 z hz
          omega
      rw [lows_all h3, highs_all h3]
      rfl
theorem cut_take {l : List Int} {x : Int} (h : l.Pairwise (· < ·)) (hx : x ∉ l) : l.take (lows x l).length = lows x l ∧ l.drop (lows x l).length = highs x l := by
  have e := cut_at h hx
  generalize lows x l = A at e ⊢
  generalize highs x l = B at e ⊢
  subst e
  simp
theorem gv_mem {l : List Int} {x : Int} (h : gvB l x = true) (z : Int) : z ∈ gvL l x ↔ z = x ∨ z ∈ l := by
  obtain ⟨h1, h2, h3⟩ := gvB_iff.1 h
  rw [(gv_yes h).2, List.mem_append, List.mem_cons]
  have e : z ∈ l ↔ z ∈ lows x l ∨ z ∈ highs x l := by
    conv => lhs; rw [cut_at h1.1 h3]
    rw [List.mem_append]
  rw [e]
  constructor
  · rintro (h | h | h)
    · exact .inr (.inl h)
    · exact .inl h
    · exact .inr (.inr h)
  · rintro (h | h | h)
    · exact .inr (.inl h)
    · exact .inl h
    · exact .inr (.inr h)
theorem gv_ok {l : List Int} {x : Int} (h : gvB l x = true) : Ok (gvL l x) := by
  obtain ⟨h1, h2, h3⟩ := gvB_iff.1 h
  refine ⟨?_, fun z hz => ?_⟩
  · rw [(gv_yes h).2, List.pairwise_append, List.pairwise_cons]
    refine ⟨h1.1.sublist List.filter_sublist, ⟨fun y hy => ?_, h1.1.sublist List.filter_sublist⟩, ?_⟩
    · unfold highs at hy
      rw [List.mem_filter] at hy
      simpa using hy.2
    · intro a ha b hb
      unfold lows at ha
      rw [List.mem_filter] at ha
      have ha2 : a < x := by simpa using ha.2
      rw [List.mem_cons] at hb
      rcases hb with rfl | hb
      · exact ha2
      · unfold highs at hb
        rw [List.mem_filter] at hb
        have : x < b := by simpa using hb.2
        omega
  · rcases (gv_mem h z).1 hz with rfl | hz
    · exact h2
    · exact h1.2 z hz
theorem gv_len {l : List Int} {x : Int} (h : gvB l x = true) : (gvL l x).length = l.length + 1 := by
  obtain ⟨h1, h2, h3⟩ := gvB_iff.1 h
  have e := congrArg List.length (cut_at h1.1 h3)
  rw [List.length_append] at e
  rw [(gv_yes h).2, List.length_append, List.length_cons]
  omega
theorem gv_len_le (l : List Int) (x : Int) : (gvL l x).length ≤ l.length + 1 := by
  cases h : gvB l x
  · rw [(gv_no h).2]; omega
  · rw [gv_len h]; omega
end Go.Proofs.Ytpfbnfnlbjjjoaa
