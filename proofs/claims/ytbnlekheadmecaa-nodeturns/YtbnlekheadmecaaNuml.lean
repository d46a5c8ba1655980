/- Slots that are shifted, as plain lists: what is stored, in which steps; a crash keeps a beginning of it. No program. -/
import Derived.Test.YtbnlekheadmecaaNumq
namespace Go.Proofs.Ytbnlekheadmecaa

/-- A slot, and what is to be stored there. -/
structure Fl where
  s : Int
  v : Int

/-- A node may begin there; a slot's place; slots that may be; a place of a list. -/
def ndB (b : Int) : Bool := decide (0 ≤ b ∧ b ≤ 4080 ∧ b % 16 = 0)
def plB (b s : Int) : Bool := ndB b && decide (0 ≤ s ∧ s ≤ 12)
def plc (b s : Int) : Int := if plB b s then b + 3 + s else -1
def posB (l : List Int) : Bool := l.all fun x => decide (0 < x)
def mcB (b : Int) (l : List Int) : Bool := ndB b && (decide (l.length ≤ 13) && posB l)
def hpB (l : List Int) (p : Int) : Bool := decide (0 ≤ p ∧ p < (l.length : Int))
theorem ndB_out {b : Int} (h : ndB b = true) : 0 ≤ b ∧ b ≤ 4080 ∧ b % 16 = 0 := of_decide_eq_true h
theorem plc_yes {b s : Int} (h : ndB b = true) (h0 : 0 ≤ s) (h1 : s ≤ 12) : plc b s = b + 3 + s := by
  unfold plc plB
  rw [h, decide_eq_true ⟨h0, h1⟩]
  rfl
theorem mcB_out {b : Int} {l : List Int} (h : mcB b l = true) : ndB b = true ∧ l.length ≤ 13 ∧ posB l = true := by
  unfold mcB at h
  simp only [Bool.and_eq_true, decide_eq_true_eq] at h
  exact h
theorem posB_out {l : List Int} (h : posB l = true) : ∀ x ∈ l, 0 < x := by
  intro x hx
  unfold posB at h
  have := List.all_eq_true.1 h x hx
  simpa using this

/-- The steps that store each, in order. -/
def mS (b : Int) (f : Fl) : Mi := ⟨1, plc b f.s, f.v⟩
def mP (b : Int) (f : Fl) : Mi := ⟨2, plc b f.s / 8, 0⟩
def lastB (b : Int) (f : Fl) : List Fl → Bool
  | [] => true
  | g :: _ => decide (plc b g.s / 8 ≠ plc b f.s / 8)
def putS (b : Int) : List Fl → List Mi
  | [] => []
  | f :: r => mS b f :: ((if lastB b f r then [mP b f] else []) ++ putS b r)
theorem putS_cons (b : Int) (f : Fl) (r : List Fl) : putS b (f :: r) = mS b f :: ((if lastB b f r then [mP b f] else []) ++ putS b r) := rfl
theorem putS_yes {b : Int} {f : Fl} {r : List Fl} (h : lastB b f r = true) : putS b (f :: r) = mS b f :: mP b f :: putS b r := by rw [putS_cons, h]; rfl
theorem putS_no {b : Int} {f : Fl} {r : List Fl} (h : lastB b f r = false) : putS b (f :: r) = mS b f :: putS b r := by rw [putS_cons, h]; rfl
theorem putS_length (b : Int) (fs : List Fl) : (putS b fs).length ≤ 2 * fs.length := by
  induction fs with
  | nil => exact Nat.le_refl _
  | cons f r ih =>
    rw [putS_cons]
    simp only [List.length_cons, List.length_append]
    split <;> simp <;> omega
theorem putS_mem {b : Int} {fs : List Fl} {x : Mi} (h : x ∈ putS b fs) : ∃ f ∈ fs, x = mS b f ∨ x = mP b f := by
  induction fs with
  | nil => cases h
  | cons f r ih =>
    rw [putS_cons] at h
    rcases List.mem_cons.1 h with rfl | h
    · exact ⟨f, by simp, .inl rfl⟩
    · rcases List.mem_append.1 h with h | h
      · split at h
        · exact ⟨f, by simp, .inr (List.mem_singleton.1 h)⟩
        · cases h
      · obtain ⟨g, hg, e⟩ := ih h
        exact ⟨g, by simp [hg], e⟩

/-- How many of the steps are stores. -/
def cnt (l : List Mi) : Nat := l.countP fun x => decide (x.k = 1)
theorem cnt_append (a b : List Mi) : cnt (a ++ b) = cnt a + cnt b := List.countP_append
theorem cnt_mS (b : Int) (f : Fl) (l : List Mi) : cnt (mS b f :: l) = cnt l + 1 := by simp [cnt, mS]
theorem cnt_mP (b : Int) (f : Fl) (l : List Mi) : cnt (mP b f :: l) = cnt l := by simp [cnt, mP]
theorem cnt_take (l : List Mi) (k : Nat) : cnt (l.take k) ≤ cnt l := by
  have := cnt_append (l.take k) (l.drop k)
  rw [List.take_append_drop] at this
  omega
theorem cnt_putS (b : Int) (fs : List Fl) : cnt (putS b fs) = fs.length := by
  induction fs with
  | nil => rfl
  | cons f r ih =>
    cases h : lastB b f r
    · rw [putS_no h, cnt_mS, ih]; rfl
    · rw [putS_yes h, cnt_mS, cnt_mP, ih]; rfl
theorem putS_snoc (b : Int) (fs : List Fl) (f : Fl) : ∃ P, putS b (fs ++ [f]) = P ++ [mS b f, mP b f] ∧ cnt P = fs.length := by
  induction fs with
  | nil => exact ⟨[], rfl, rfl⟩
  | cons g r ih =>
    obtain ⟨P, e, hP⟩ := ih
    cases h : lastB b g (r ++ [f])
    · exact ⟨mS b g :: P, by rw [List.cons_append, putS_no h, e]; rfl, by rw [cnt_mS, hP]; rfl⟩
    · exact ⟨mS b g :: mP b g :: P, by rw [List.cons_append, putS_yes h, e]; rfl, by rw [cnt_mS, cnt_mP, hP]; rfl⟩
/-- All stores are done just if but the last step is left, or none. -/
theorem cnt_done (b : Int) (fs : List Fl) (f : Fl) (k : Nat) (h : (putS b (fs ++ [f])).length ≤ k + 1) : cnt ((putS b (fs ++ [f])).take k) = fs.length + 1 := by
  obtain ⟨P, e, hP⟩ := putS_snoc b fs f
  rw [e] at h ⊢
  simp only [List.length_append, List.length_cons, List.length_nil] at h
  rw [List.take_append, cnt_append, List.take_of_length_le (by omega), hP]
  obtain ⟨d, hd⟩ : ∃ d, k - P.length = d + 1 := ⟨k - P.length - 1, by omega⟩
  rw [hd, List.take_succ_cons, cnt_mS]
  have : cnt (List.take d [mP b f]) = 0 := by
    cases d
    · rfl
    · rw [List.take_succ_cons, cnt_mP, List.take_nil]; rfl
  omega
theorem cnt_less (b : Int) (fs : List Fl) (f : Fl) (k : Nat) (h : k + 1 < (putS b (fs ++ [f])).length) : cnt ((putS b (fs ++ [f])).take k) ≤ fs.length := by
  obtain ⟨P, e, hP⟩ := putS_snoc b fs f
  rw [e] at h ⊢
  simp only [List.length_append, List.length_cons, List.length_nil] at h
  rw [List.take_append_of_le_length (by omega), ← hP]
  exact cnt_take P k
theorem cnt_some (b : Int) (f : Fl) (r : List Fl) (k : Nat) (h : 0 < k) : 0 < cnt ((putS b (f :: r)).take k) := by
  obtain ⟨d, rfl⟩ : ∃ d, k = d + 1 := ⟨k - 1, by omega⟩
  rw [putS_cons, List.take_succ_cons, cnt_mS]
  omega

/-- What a store leaves pending. -/
def pdF (b : Int) (f : Fl) : Pd := ⟨plc b f.s, f.v, false⟩

/-- A line of which all that is pending is, is persisted. -/
theorem pers_all {m : Mm} {n : Int} (h : Ok m) (hl : lnB m n = true) (hp : ∀ p ∈ m.pend, p.a / 8 = n) : fenM (fluM m n) = ⟨m.vol, putAll m.per m.pend, []⟩ := by
  have hk : Ok (fluM m n) := ok_flu h n
  have e1 : fluM m n = ⟨m.vol, m.per, m.pend.map (fluP n)⟩ := by unfold fluM; rw [hl]; rfl
  unfold fenM
  rw [ok_true hk, e1]
  show kM _ _ = _
  have e2 : (m.pend.map (fluP n)).map (·.f) = (m.pend.map (fluP n)).map fun _ => true := by
    apply List.map_congr_left
    intro p hp'
    obtain ⟨q, hq, rfl⟩ := List.mem_map.1 hp'
    rw [fluP_f, hp q hq]
    simp
  show kM _ ((m.pend.map (fluP n)).zip ((m.pend.map (fluP n)).map (·.f))) = _
  rw [e2]
  obtain ⟨a, b⟩ := all_true (m.pend.map (fluP n)) m.per
  unfold kM
  rw [a, b, putAll_flu]

theorem run_cons (m : Mm) (x : Mi) (l : List Mi) : runM m (x :: l) = runM (doM m x) l := rfl

theorem take_more {α : Type} (a b : List α) (i : Nat) : (a ++ b).take (a.length + i) = a ++ b.take i := by
  rw [List.take_append, List.take_of_length_le (Nat.le_add_right _ _), Nat.add_sub_cancel_left]
theorem drop_more {α : Type} (a b : List α) (i : Nat) : (a ++ b).drop (a.length + i) = b.drop i := by
  rw [List.drop_append, List.drop_of_length_le (Nat.le_add_right _ _), Nat.add_sub_cancel_left, List.nil_append]

/-- However many steps are done: what is seen is a beginning of the stores, what is kept is one, and what is pending, of one line, is what is between. -/
theorem run_pre (b : Int) (hb : ndB b = true) (fs : List Fl) (m : Mm) (t : Int) (k : Nat) (hs : ∀ f ∈ fs, 0 ≤ f.s ∧ f.s ≤ 12) (hO : Ok m) (hlen : b + 16 ≤ (m.vol.length : Int))
    (hp : ∀ p ∈ m.pend, p.a / 8 = t) (hh : ∀ f r, fs = f :: r → m.pend = [] ∨ plc b f.s / 8 = t) :
    ∃ i, i ≤ m.pend.length + cnt ((putS b fs).take k) ∧
      (runM m ((putS b fs).take k)).vol = putAll m.per ((m.pend ++ fs.map (pdF b)).take (m.pend.length + cnt ((putS b fs).take k))) ∧
      (runM m ((putS b fs).take k)).per = putAll m.per ((m.pend ++ fs.map (pdF b)).take i) ∧
      (runM m ((putS b fs).take k)).pend = ((m.pend ++ fs.map (pdF b)).take (m.pend.length + cnt ((putS b fs).take k))).drop i ∧
      (∃ t', ∀ p ∈ (runM m ((putS b fs).take k)).pend, p.a / 8 = t') ∧
      ((fs ≠ [] ∨ m.pend = []) → (putS b fs).length ≤ k → (runM m ((putS b fs).take k)).pend = []) := by
  induction fs generalizing m t k with
  | nil =>
    have e : (putS b []).take k = [] := List.take_nil
    rw [e]
    refine ⟨0, Nat.zero_le _, ?_, rfl, ?_, ⟨t, hp⟩, fun h _ => h.elim (fun h => absurd rfl h) id⟩
    · show m.vol = _
      rw [← hO.2.2.2.2.2]; simp [cnt]
    · show m.pend = _
      simp [cnt]
  | cons f r ih =>
    cases k with
    | zero =>
      refine ⟨0, Nat.zero_le _, ?_, rfl, ?_, ⟨t, hp⟩, fun _ h => ?_⟩
      · show m.vol = _
        rw [← hO.2.2.2.2.2]; simp [cnt]
      · show m.pend = _
        simp [cnt]
      · rw [putS_cons] at h; simp at h
    | succ k =>
      obtain ⟨f0, f1⟩ := hs f (by simp)
      have hpl := plc_yes hb f0 f1
      obtain ⟨b0, b1, b2⟩ := ndB_out hb
      have hB : putB m (plc b f.s) = true := putB_yes (ok_true hO) (by omega) (by omega)
      have hd : doM m (mS b f) = ⟨m.vol.set (plc b f.s).toNat f.v, m.per, m.pend ++ [pdF b f]⟩ := (doM_one rfl).trans (putM_yes hB)
      have hO1 : Ok (doM m (mS b f)) := ok_do hO _
      have hl1 : (doM m (mS b f)).vol.length = m.vol.length := (do_len m _).1
      have hp1 : ∀ p ∈ (doM m (mS b f)).pend, p.a / 8 = plc b f.s / 8 := by
        rw [hd]
        intro p hp'
        rcases List.mem_append.1 hp' with h | h
        · rcases hh f r rfl with e | e
          · rw [e] at h; cases h
          · rw [e]; exact hp p h
        · rw [List.mem_singleton.1 h]; rfl
      have hq : m.pend ++ (f :: r).map (pdF b) = (doM m (mS b f)).pend ++ r.map (pdF b) := by rw [hd]; simp
      have hn : (doM m (mS b f)).pend.length = m.pend.length + 1 := by rw [hd]; simp
      have hper : (doM m (mS b f)).per = m.per := by rw [hd]
      rw [hq, ← hper]
      cases hl : lastB b f r
      · rw [putS_no hl, List.take_succ_cons, run_cons, cnt_mS, show m.pend.length + (cnt (List.take k (putS b r)) + 1) = (doM m (mS b f)).pend.length + cnt (List.take k (putS b r)) from by rw [hn]; omega]
        have hr : r ≠ [] := fun e => by rw [e] at hl; cases hl
        obtain ⟨i, h1, h2, h3, h4, h5, h6⟩ := ih (doM m (mS b f)) (plc b f.s / 8) k (fun g hg => hs g (by simp [hg])) hO1 (by rw [hl1]; exact hlen) hp1 (by
          intro g r' e
          right
          subst e
          unfold lastB at hl
          have := of_decide_eq_false hl
          omega)
        exact ⟨i, h1, h2, h3, h4, h5, fun _ hk => h6 (.inl hr) (by simp only [List.length_cons] at hk; omega)⟩
      · rw [putS_yes hl, List.take_succ_cons, run_cons, cnt_mS]
        cases k with
        | zero =>
          refine ⟨0, Nat.zero_le _, ?_, rfl, ?_, ⟨_, hp1⟩, fun _ h => by simp at h⟩
          · show (doM m (mS b f)).vol = _
            rw [← hO1.2.2.2.2.2, show m.pend.length + (cnt (List.take 0 (mP b f :: putS b r)) + 1) = (doM m (mS b f)).pend.length from by rw [hn]; rfl]
            simp
          · show (doM m (mS b f)).pend = _
            rw [show m.pend.length + (cnt (List.take 0 (mP b f :: putS b r)) + 1) = (doM m (mS b f)).pend.length from by rw [hn]; rfl]
            simp
        | succ k =>
          rw [List.take_succ_cons, run_cons, cnt_mP]
          generalize hm1 : doM m (mS b f) = m1 at *
          have hL : lnB m1 (plc b f.s / 8) = true := lnB_yes (ok_true hO1) (decide_eq_true ⟨by omega, by omega⟩)
          have hd2 : doM m1 (mP b f) = ⟨m1.vol, putAll m1.per m1.pend, []⟩ := (doM_two rfl).trans (pers_all hO1 hL hp1)
          have hO2 : Ok (doM m1 (mP b f)) := ok_do hO1 _
          obtain ⟨i, h1, h2, h3, h4, h5, h6⟩ := ih (doM m1 (mP b f)) 0 k (fun g hg => hs g (by simp [hg])) hO2 (by rw [hd2]; show _ ≤ (m1.vol.length : Int); rw [hl1]; exact hlen) (by rw [hd2]; intro p hp'; cases hp') (fun g r' _ => .inl (by rw [hd2]))
          have e2 : (doM m1 (mP b f)).pend = [] := by rw [hd2]
          have e3 : (doM m1 (mP b f)).per = putAll m1.per m1.pend := by rw [hd2]
          rw [e2] at h1 h2 h3 h4 h6
          rw [e3] at h2 h3
          simp only [List.length_nil, Nat.zero_add, List.nil_append] at h1 h2 h3 h4
          have ek : m.pend.length + (cnt (List.take k (putS b r)) + 1) = m1.pend.length + cnt (List.take k (putS b r)) := by rw [hn]; omega
          rw [ek]
          refine ⟨m1.pend.length + i, by omega, ?_, ?_, ?_, h5, fun _ hk => h6 (.inr rfl) (by simp only [List.length_cons] at hk; omega)⟩
          · rw [h2, take_more, putAll_append]
          · rw [h3, take_more, putAll_append]
          · rw [h4, take_more, drop_more]

theorem crG_take (x : Int) (l : List Int) (ps : List Pd) : crG x l ps = putAll l (ps.take x.toNat) := by
  induction ps generalizing x l with
  | nil => rw [List.take_nil]; rfl
  | cons p ps ih =>
    rw [crG_cons]
    split
    · obtain ⟨d, hd⟩ : ∃ d, x.toNat = d + 1 := ⟨x.toNat - 1, by omega⟩
      rw [ih, hd, show (x - 1).toNat = d from by omega]
      rfl
    · rw [crG_none _ _ _ (by omega), show x.toNat = 0 from by omega]
      rfl
theorem putAll_far {l : List Int} {ps : List Pd} {i : Nat} (h : ∀ p ∈ ps, p.a.toNat ≠ i) : (putAll l ps)[i]? = l[i]? := by
  induction ps generalizing l with
  | nil => rfl
  | cons p ps ih => exact (ih (l := put1 l p) fun q hq => h q (by simp [hq])).trans (put1_far (h p (by simp)))
/-- Where what is pending is of one line a crash keeps a beginning of it. -/
theorem crash_pre {m : Mm} (h : Ok m) {t : Int} (hp : ∀ p ∈ m.pend, p.a / 8 = t) (keep : List Int) : ∃ x, crP m keep = putAll m.per (m.pend.take x) := by
  by_cases ht : 0 ≤ t
  · refine ⟨(keep.getD t.toNat 0).toNat, List.ext_getElem? fun i => ?_⟩
    have hI : InPl m.vol.length m.pend := h.2.2.2.1
    by_cases hi : i < m.vol.length
    · rw [crP_at h keep hi, crG_take]
      by_cases e : i / 8 = t.toNat
      · have : lin (i / 8) m.pend = m.pend := List.filter_eq_self.2 fun p hp' => decide_eq_true (by
          have h1 := hp p hp'
          unfold lnN
          rw [h1, e])
        rw [this, e]
      · have : lin (i / 8) m.pend = [] := lin_none fun p hp' => by
          have h1 := hp p hp'
          unfold lnN
          rw [h1]
          omega
        rw [this, List.take_nil]
        symm
        refine putAll_far fun p hp' => ?_
        have h1 := hp p (List.mem_of_mem_take hp')
        have h2 := hI p (List.mem_of_mem_take hp')
        omega
    · rw [List.getElem?_eq_none (by rw [crP_length h]; omega), List.getElem?_eq_none (by rw [putAll_length, h.1]; omega)]
  · have : m.pend = [] := by
      cases e : m.pend with
      | nil => rfl
      | cons p r =>
        have h1 := hp p (by rw [e]; simp)
        have h2 := h.2.2.2.1 p (by rw [e]; simp)
        omega
    refine ⟨0, List.ext_getElem? fun i => ?_⟩
    by_cases hi : i < m.vol.length
    · rw [crP_at h keep hi, this]
      show (crG _ _ [])[i]? = _
      rfl
    · rw [List.getElem?_eq_none (by rw [crP_length h]; omega), List.getElem?_eq_none (by rw [putAll_length, h.1]; omega)]

/-- The steps may be, of so many words. -/
theorem putS_may {b : Int} {n : Int} {fs : List Fl} (hb : ndB b = true) (hs : ∀ f ∈ fs, 0 ≤ f.s ∧ f.s ≤ 12) (h1 : b + 16 ≤ n) (hw : woB n = true) : chB (putS b fs) n = true := by
  rw [chB_wo hw, List.all_eq_true]
  intro x hx
  obtain ⟨f, hf, e⟩ := putS_mem hx
  obtain ⟨f0, f1⟩ := hs f hf
  have hpl := plc_yes hb f0 f1
  obtain ⟨b0, b1, b2⟩ := ndB_out hb
  rcases e with rfl | rfl
  · rw [miB_one rfl]; exact decide_eq_true ⟨by show 0 ≤ plc b f.s; omega, by show plc b f.s < n; omega⟩
  · rw [miB_two rfl]; exact decide_eq_true ⟨by show 0 ≤ plc b f.s / 8; omega, by show plc b f.s / 8 < n / 8; have := (woB_out hw).2.2; omega, rfl⟩

/-- Words that are all kept. -/
def allM (W : List Int) : Mm := ⟨W, W, []⟩
theorem ok_allM {W : List Int} (h : W.length ≤ 4096) (h8 : W.length % 8 = 0) : Ok (allM W) := ⟨rfl, h, h8, fun p hp => (by cases hp), List.Pairwise.nil, rfl⟩
/-- However far the steps have gone, of words that are all kept: what is seen, and what a crash keeps, is a beginning of what is stored. -/
theorem far_seen {b : Int} {W : List Int} {fs : List Fl} (hb : ndB b = true) (hs : ∀ f ∈ fs, 0 ≤ f.s ∧ f.s ≤ 12) (h1 : b + 16 ≤ (W.length : Int)) (h : W.length ≤ 4096) (h8 : W.length % 8 = 0) (k : Nat) :
    (runM (allM W) ((putS b fs).take k)).vol = putAll W ((fs.map (pdF b)).take (cnt ((putS b fs).take k))) := by
  obtain ⟨i, g1, g2, g3, g4, g5, g6⟩ := run_pre b hb fs (allM W) 0 k hs (ok_allM h h8) h1 (fun p hp => by cases hp) (fun _ _ _ => .inl rfl)
  rw [g2]
  show putAll W (([] ++ _).take (0 + _)) = _
  rw [Nat.zero_add, List.nil_append]
theorem far_kept {b : Int} {W : List Int} {fs : List Fl} (hb : ndB b = true) (hs : ∀ f ∈ fs, 0 ≤ f.s ∧ f.s ≤ 12) (h1 : b + 16 ≤ (W.length : Int)) (h : W.length ≤ 4096) (h8 : W.length % 8 = 0) (k : Nat) (keep : List Int) :
    ∃ i, i ≤ cnt ((putS b fs).take k) ∧ crP (runM (allM W) ((putS b fs).take k)) keep = putAll W ((fs.map (pdF b)).take i) ∧ ((putS b fs).length ≤ k → i = fs.length) := by
  obtain ⟨i, g1, g2, g3, g4, ⟨t, g5⟩, g6⟩ := run_pre b hb fs (allM W) 0 k hs (ok_allM h h8) h1 (fun p hp => by cases hp) (fun _ _ _ => .inl rfl)
  have hO := ok_run (ok_allM h h8) ((putS b fs).take k)
  obtain ⟨x, hx⟩ := crash_pre hO g5 keep
  have g4' : (runM (allM W) ((putS b fs).take k)).pend = ((fs.map (pdF b)).take (cnt ((putS b fs).take k))).drop i := by
    rw [g4]; show (([] ++ _).take (0 + _)).drop i = _; rw [Nat.zero_add, List.nil_append]
  have g3' : (runM (allM W) ((putS b fs).take k)).per = putAll W ((fs.map (pdF b)).take i) := by rw [g3]; rfl
  have g1' : i ≤ cnt ((putS b fs).take k) := by
    have e : (allM W).pend.length + cnt ((putS b fs).take k) = cnt ((putS b fs).take k) := Nat.zero_add _
    omega
  rw [g3', ← putAll_append, g4', List.drop_take, List.take_take, ← List.take_add] at hx
  refine ⟨i + min x (cnt ((putS b fs).take k) - i), by omega, hx, fun hk => ?_⟩
  have e := g6 (.inr rfl) hk
  have ec : cnt ((putS b fs).take k) = fs.length := by rw [List.take_of_length_le hk, cnt_putS]
  rw [g4', ec] at e
  have := congrArg List.length e
  simp only [List.length_drop, List.length_take, List.length_map, List.length_nil] at this
  rw [ec] at g1' ⊢
  omega
theorem run_all {b : Int} {W : List Int} {fs : List Fl} (hb : ndB b = true) (hs : ∀ f ∈ fs, 0 ≤ f.s ∧ f.s ≤ 12) (h1 : b + 16 ≤ (W.length : Int)) (h : W.length ≤ 4096) (h8 : W.length % 8 = 0) :
    runM (allM W) (putS b fs) = allM (putAll W (fs.map (pdF b))) := by
  obtain ⟨i, g1, g2, g3, g4, ⟨t, g5⟩, g6⟩ := run_pre b hb fs (allM W) 0 (putS b fs).length hs (ok_allM h h8) h1 (fun p hp => by cases hp) (fun _ _ _ => .inl rfl)
  have e := g6 (.inr rfl) (Nat.le_refl _)
  have hO := ok_run (ok_allM h h8) ((putS b fs).take (putS b fs).length)
  rw [List.take_length] at *
  rw [cnt_putS] at g2
  have e1 : (runM (allM W) (putS b fs)).vol = putAll W (fs.map (pdF b)) := by
    rw [g2]; show putAll W (([] ++ _).take (0 + _)) = _; rw [Nat.zero_add, List.nil_append, List.take_of_length_le (by simp)]
  have e2 : (runM (allM W) (putS b fs)).per = (runM (allM W) (putS b fs)).vol := by
    have := hO.2.2.2.2.2
    rw [e] at this
    exact this
  rw [e1] at e2
  generalize runM (allM W) (putS b fs) = m at *
  cases m
  cases e1; cases e2; cases e
  rfl
end Go.Proofs.Ytbnlekheadmecaa
