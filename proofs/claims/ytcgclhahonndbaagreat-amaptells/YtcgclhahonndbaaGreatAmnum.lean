/- The document's Low, and its leaf. · Pairs as plain data: no program. -/
import Derived.Test.YtcgclhahonndbaaGreatRfa
import Derived.Test.YtcgclhahonndbaaGreatArnum
import Derived.Test.YtcgclhahonndbaaGreatRKeywalka
namespace Go.Proofs.YtcgclhahonndbaaGreat
open Go.RowKit Go.Shelf
set_option linter.unusedVariables false

set_option maxRecDepth 100000 in
set_option maxHeartbeats 4000000 in
theorem lowR_any (v : Value) (zs : List Int) (b : Int) (w : World) (hR : Rl w v zs) (hF : Fits zs) (hl : zs.length ≤ 1000) : Calls Tryz.prog 44 #[v, .int .i64 b] w fun e w' => e = .returned (.tuple #[.string (loS zs b), .int .i64 (loE zs b)]) ∧ Below w.heap.size w w' := by
  have HR : Hid (Rl w v zs) := hR
  have K48 : Hid (∀ y W, Rl W v zs → Calls Tryz.prog 48 #[v, .int .i64 y] W fun e w' => e = .returned (.tuple #[.agg #[.int .i64 (rdX zs y).k, .string (rdX zs y).key, .string (rdX zs y).val, .int .i64 (rdX zs y).ch], .int .i64 (RrdE zs y)]) ∧ Below W.heap.size W w') := fun y W h => RreadR_any v zs y W (h.rd hl) hF hl
  have k43 := fun W (h : Rl W v zs) => readR_any v zs b W (h.rd hl)
  have HX1 : Hid (rnE zs b ≠ 0 → loS zs b = ⟨#[]⟩ ∧ loE zs b = 110) := fun h => by
    unfold loS loE
    rw [if_neg (fun q => h q.1), if_neg (fun q => h q.1)]
    exact ⟨rfl, rfl⟩
  have HX2 : Hid (rnE zs b = 0 → (rnN zs b).lo = 0 → loS zs b = ⟨#[]⟩ ∧ loE zs b = 0) := fun h h0 => by
    have hk : lowK zs (rnN zs b) = true := by unfold lowK; rw [h0]; rfl
    unfold loS loE
    rw [if_pos ⟨h, hk⟩, if_pos ⟨h, hk⟩]
    unfold lowS
    rw [if_pos h0]
    exact ⟨rfl, rfl⟩
  have HX3 : Hid (rnE zs b = 0 → (rnN zs b).lo ≠ 0 → RrdE zs (rnN zs b).lo ≠ 0 → loS zs b = ⟨#[]⟩ ∧ loE zs b = 110) := fun h h0 h1 => by
    have hk : ¬ (rnE zs b = 0 ∧ lowK zs (rnN zs b) = true) := by
      rintro ⟨_, h2⟩
      unfold lowK at h2
      simp [h0, h1] at h2
    unfold loS loE
    rw [if_neg hk, if_neg hk]
    exact ⟨rfl, rfl⟩
  have HX4 : Hid (rnE zs b = 0 → (rnN zs b).lo ≠ 0 → RrdE zs (rnN zs b).lo = 0 → loS zs b = (rdX zs (rnN zs b).lo).key ∧ loE zs b = 0) := fun h h0 h1 => by
    have hk : lowK zs (rnN zs b) = true := by unfold lowK; rw [h1]; simp
    unfold loS loE
    rw [if_pos ⟨h, hk⟩, if_pos ⟨h, hk⟩]
    unfold lowS
    rw [if_neg h0]
    exact ⟨rfl, rfl⟩
  clear hR hF hl
  generalize loS zs b = S at *
  generalize loE zs b = T at *
  generalize rnE zs b = E at *
  generalize rnN zs b = n at *
  obtain ⟨lv, tu, nx, lo, sl⟩ := n
  dsimp only at k43 HX1 HX2 HX3 HX4
  have K43 : Hid (∀ W, Rl W v zs → Calls Tryz.prog 43 #[v, .int .i64 b] W fun e w' => ∃ v', e = .returned (.tuple #[.agg #[.int .i64 lv, .int .i64 tu, .int .i64 nx, .int .i64 lo, v'], .int .i64 E]) ∧ Rd w' v' sl ∧ Below W.heap.size W w') := k43
  clear k43
  by_cases hE : E = 0
  · subst hE
    by_cases h0 : lo = 0
    · subst h0
      obtain ⟨rfl, rfl⟩ := HX2.out rfl rfl
      clear HX1 HX2 HX3 HX4
      go_enter Tryz.func44, Tryz.ntmps44
      go_wp2_with (first
        | (go_at_call 43; refine (K43.out _ HR.out).mono ?_; rintro e w2 ⟨v1, rfl, r1, hb2⟩; obtain ⟨_, a1, c1, rfl⟩ := r1.form; have N2 : Hid (Nb (w2.alloc (.cells #[.int .i64 lv, .int .i64 tu, .int .i64 nx, .int .i64 0, .slice a1 sl.length c1] 43)) w2.heap.size lv tu nx 0 (.slice a1 sl.length c1)) := nb_new w2 lv tu nx 0 _; obtain ⟨n0, n1, n2, n3, n4⟩ := N2.out.c; have B2 : Hid (Below w.heap.size w (w2.alloc (.cells #[.int .i64 lv, .int .i64 tu, .int .i64 nx, .int .i64 0, .slice a1 sl.length c1] 43))) := hb2.alloc hb2.size _; clear r1 hb2))
      exact bodyPost_ret (results_tmp2 rfl _ _ _) rfl ⟨rfl, B2.out⟩
    · have hE2 : (lo == 0) = false := by simp [h0]
      by_cases h1 : RrdE zs lo = 0
      · obtain ⟨rfl, rfl⟩ := HX4.out rfl h0 h1
        have k48 := K48.out lo
        rw [h1] at k48
        clear HX1 HX2 HX3 HX4 h0 h1 K48
        generalize rdX zs lo = x at *
        have K48 : Hid (∀ W, Rl W v zs → Calls Tryz.prog 48 #[v, .int .i64 lo] W fun e w' => e = .returned (.tuple #[.agg #[.int .i64 x.k, .string x.key, .string x.val, .int .i64 x.ch], .int .i64 0]) ∧ Below W.heap.size W w') := k48
        clear k48
        go_enter Tryz.func44, Tryz.ntmps44
        go_wp2_with (first
          | (go_at_call 43; refine (K43.out _ HR.out).mono ?_; rintro e w2 ⟨v1, rfl, r1, hb2⟩; obtain ⟨_, a1, c1, rfl⟩ := r1.form; have N2 : Hid (Nb (w2.alloc (.cells #[.int .i64 lv, .int .i64 tu, .int .i64 nx, .int .i64 lo, .slice a1 sl.length c1] 43)) w2.heap.size lv tu nx lo (.slice a1 sl.length c1)) := nb_new w2 lv tu nx lo _; obtain ⟨n0, n1, n2, n3, n4⟩ := N2.out.c; have B2 : Hid (Below w.heap.size w (w2.alloc (.cells #[.int .i64 lv, .int .i64 tu, .int .i64 nx, .int .i64 lo, .slice a1 sl.length c1] 43))) := hb2.alloc hb2.size _; clear r1 hb2)
          | (go_at_call 48; refine (K48.out _ (HR.out.below B2.out)).mono ?_; rintro e w3 ⟨rfl, hb3⟩; have X3 : Hid (RcAt (w3.alloc (.cells #[.int .i64 x.k, .string x.key, .string x.val, .int .i64 x.ch] 40)) w3.heap.size x) := rc_new w3 x; obtain ⟨x0, x1, x2, x3⟩ := X3.out.c; have B3 : Hid (Below w.heap.size w (w3.alloc (.cells #[.int .i64 x.k, .string x.key, .string x.val, .int .i64 x.ch] 40))) := (bstep B2.out hb3).alloc (bstep B2.out hb3).size _; clear hb3))
        exact bodyPost_ret (results_tmp2 rfl _ _ _) rfl ⟨rfl, B3.out⟩
      · obtain ⟨rfl, rfl⟩ := HX3.out rfl h0 h1
        have k48 := K48.out lo
        have h1E : (RrdE zs lo == 0) = false := by simp [h1]
        have h1N : (RrdE zs lo != 0) = true := by simp [h1]
        clear HX1 HX2 HX3 HX4 h0 h1 K48
        generalize rdX zs lo = x at *
        generalize RrdE zs lo = y at *
        have K48 : Hid (∀ W, Rl W v zs → Calls Tryz.prog 48 #[v, .int .i64 lo] W fun e w' => e = .returned (.tuple #[.agg #[.int .i64 x.k, .string x.key, .string x.val, .int .i64 x.ch], .int .i64 y]) ∧ Below W.heap.size W w') := k48
        clear k48
        go_enter Tryz.func44, Tryz.ntmps44
        go_wp2_with (first
          | (go_at_call 43; refine (K43.out _ HR.out).mono ?_; rintro e w2 ⟨v1, rfl, r1, hb2⟩; obtain ⟨_, a1, c1, rfl⟩ := r1.form; have N2 : Hid (Nb (w2.alloc (.cells #[.int .i64 lv, .int .i64 tu, .int .i64 nx, .int .i64 lo, .slice a1 sl.length c1] 43)) w2.heap.size lv tu nx lo (.slice a1 sl.length c1)) := nb_new w2 lv tu nx lo _; obtain ⟨n0, n1, n2, n3, n4⟩ := N2.out.c; have B2 : Hid (Below w.heap.size w (w2.alloc (.cells #[.int .i64 lv, .int .i64 tu, .int .i64 nx, .int .i64 lo, .slice a1 sl.length c1] 43))) := hb2.alloc hb2.size _; clear r1 hb2)
          | (go_at_call 48; refine (K48.out _ (HR.out.below B2.out)).mono ?_; rintro e w3 ⟨rfl, hb3⟩; have B3 : Hid (Below w.heap.size w (w3.alloc (.cells #[.int .i64 x.k, .string x.key, .string x.val, .int .i64 x.ch] 40))) := (bstep B2.out hb3).alloc (bstep B2.out hb3).size _; clear hb3))
        exact bodyPost_ret (results_tmp2 rfl _ _ _) rfl ⟨rfl, B3.out⟩
  · obtain ⟨rfl, rfl⟩ := HX1.out hE
    have hEE : (E == 0) = false := by simp [hE]
    have hEN : (E != 0) = true := by simp [hE]
    clear HX1 HX2 HX3 HX4 hE
    go_enter Tryz.func44, Tryz.ntmps44
    go_wp2_with (first
      | (go_at_call 43; refine (K43.out _ HR.out).mono ?_; rintro e w2 ⟨v1, rfl, r1, hb2⟩; obtain ⟨_, a1, c1, rfl⟩ := r1.form; have B2 : Hid (Below w.heap.size w (w2.alloc (.cells #[.int .i64 lv, .int .i64 tu, .int .i64 nx, .int .i64 lo, .slice a1 sl.length c1] 43))) := hb2.alloc hb2.size _; clear r1 hb2))
    exact bodyPost_ret (results_tmp2 rfl _ _ _) rfl ⟨rfl, B2.out⟩
end Go.Proofs.YtcgclhahonndbaaGreat
namespace Go.Proofs.YtcgclhahonndbaaGreat
open Go.RowKit Go.Shelf
set_option linter.unusedVariables false

/-- A pair. -/
structure Pa where
  k : ByteArray
  v : ByteArray
theorem Pa.ext' {p q : Pa} (h1 : p.k = q.k) (h2 : p.v = q.v) : p = q := by cases p; cases q; cases h1; cases h2; rfl
/-- Whether texts are the same, and whether one stands ahead. -/
def tE (a b : ByteArray) : Bool := a.toList == b.toList
def tL (a b : ByteArray) : Bool := Op.bytesLess a.toList b.toList
theorem tE_iff {a b : ByteArray} : tE a b = true ↔ a = b := by
  unfold tE
  rw [beq_iff_eq, Lib.toList_data, Lib.toList_data]
  exact ⟨fun h => Ky.ba_ext h, fun h => by rw [h]⟩
theorem tE_self (a : ByteArray) : tE a a = true := tE_iff.2 rfl
theorem tE_no {a b : ByteArray} (h : a ≠ b) : tE a b = false := by
  cases e : tE a b with
  | false => rfl
  | true => exact absurd (tE_iff.1 e) h
theorem tL_irr (a : ByteArray) : tL a a = false := bl_irrefl _
theorem tL_tr {a b c : ByteArray} (h1 : tL a b = true) (h2 : tL b c = true) : tL a c = true := bl_trans h1 h2
theorem tL_ne {a b : ByteArray} (h : tL a b = true) : a ≠ b := by
  rintro rfl
  rw [tL_irr] at h
  cases h
theorem tL_as {a b : ByteArray} (h : tL a b = true) : tL b a = false := bl_asymm h
theorem tL_tot {a b : ByteArray} (h : tL a b = false) (hn : a ≠ b) : tL b a = true := bl_total h (fun e => hn (Ky.ba_ext (by rw [Lib.toList_data, Lib.toList_data] at e; exact e)))
/-- Not behind, and then ahead. -/
theorem tL_le_lt {a b c : ByteArray} (h1 : tL b a = false) (h2 : tL b c = true) : tL a c = true := by
  by_cases e : a = b
  · rw [e]; exact h2
  · exact tL_tr (tL_tot h1 (fun h => e h.symm)) h2
theorem tL_lt_le {a b c : ByteArray} (h1 : tL a b = true) (h2 : tL c b = false) : tL a c = true := by
  by_cases e : b = c
  · rw [← e]; exact h1
  · exact tL_tr h1 (tL_tot h2 (fun h => e h.symm))

/-- Pairs without a key; with a pair ahead of the first one that stands behind; a key's value. -/
def woP (l : List Pa) (key : ByteArray) : List Pa := l.filter fun p => !tE p.k key
def inP (x : Pa) : List Pa → List Pa
  | [] => [x]
  | q :: r => if tL x.k q.k then x :: q :: r else q :: inP x r
def wiP (l : List Pa) (key val : ByteArray) : List Pa := inP ⟨key, val⟩ (woP l key)
def geP : List Pa → ByteArray → Option ByteArray
  | [], _ => none
  | p :: r, key => if tE p.k key then some p.v else geP r key
/-- Keys rise. -/
def Ri (l : List Pa) : Prop := l.Pairwise fun p q => tL p.k q.k = true

theorem inP_len (x : Pa) : ∀ l, (inP x l).length = l.length + 1
  | [] => rfl
  | q :: r => by
    unfold inP
    split
    · rfl
    · rw [List.length_cons, inP_len x r, List.length_cons]
theorem woP_len (l : List Pa) (key : ByteArray) : (woP l key).length ≤ l.length := List.length_filter_le _ _
theorem wiP_len (l : List Pa) (key val : ByteArray) : (wiP l key val).length = (woP l key).length + 1 := inP_len _ _
theorem geP_wo_self : ∀ (l : List Pa) (key : ByteArray), geP (woP l key) key = none
  | [], _ => rfl
  | p :: r, key => by
    unfold woP
    rw [List.filter_cons]
    split
    · rename_i h
      unfold geP
      have h' : tE p.k key = false := by simpa using h
      rw [h']
      exact geP_wo_self r key
    · exact geP_wo_self r key
theorem geP_cons (p : Pa) (r : List Pa) (key : ByteArray) : geP (p :: r) key = if tE p.k key = true then some p.v else geP r key := rfl
theorem geP_wo_other : ∀ (l : List Pa) {key o : ByteArray}, o ≠ key → geP (woP l key) o = geP l o
  | [], _, _, _ => rfl
  | p :: r, key, o, h => by
    have ih := geP_wo_other r h
    unfold woP at ih ⊢
    rw [List.filter_cons, geP_cons]
    split
    · rw [geP_cons, ih]
    · rename_i h2
      have h3 : tE p.k key = true := by simpa using h2
      have h4 : tE p.k o = false := tE_no (by rw [tE_iff.1 h3]; exact fun e => h e.symm)
      rw [h4, ih]
      rfl
theorem geP_in_other {x : Pa} {o : ByteArray} (h : o ≠ x.k) : ∀ (l : List Pa), geP (inP x l) o = geP l o
  | [] => by
    unfold inP geP
    rw [tE_no (fun e => h e.symm)]
    rfl
  | q :: r => by
    unfold inP
    split
    · conv => lhs; unfold geP
      rw [tE_no (fun e => h e.symm)]
      rfl
    · unfold geP
      rw [geP_in_other h r]
theorem geP_in_self {x : Pa} : ∀ (l : List Pa), geP l x.k = none → geP (inP x l) x.k = some x.v
  | [], _ => by
    unfold inP geP
    rw [tE_self]
    rfl
  | q :: r, h => by
    unfold geP at h
    split at h
    · cases h
    · rename_i h2
      unfold inP
      split
      · unfold geP
        rw [tE_self]
        rfl
      · unfold geP
        rw [if_neg h2]
        exact geP_in_self r h
theorem geP_wi_self (l : List Pa) (key val : ByteArray) : geP (wiP l key val) key = some val := geP_in_self (x := ⟨key, val⟩) _ (geP_wo_self l key)
theorem geP_wi_other (l : List Pa) {key o : ByteArray} (val : ByteArray) (h : o ≠ key) : geP (wiP l key val) o = geP l o := by
  unfold wiP
  rw [geP_in_other (x := ⟨key, val⟩) h, geP_wo_other l h]
theorem geP_none {l : List Pa} {key : ByteArray} : geP l key = none ↔ ∀ p ∈ l, p.k ≠ key := by
  induction l with
  | nil => simp [geP]
  | cons p r ih =>
    unfold geP
    by_cases h : p.k = key
    · rw [if_pos (tE_iff.2 h)]
      simp [h]
    · rw [tE_no h]
      simp [ih, h]
theorem woP_none {l : List Pa} {key : ByteArray} (h : geP l key = none) : woP l key = l := by
  unfold woP
  rw [List.filter_eq_self]
  intro p hp
  rw [tE_no (geP_none.1 h p hp)]
  rfl
theorem inP_mem {x y : Pa} : ∀ {l : List Pa}, y ∈ inP x l ↔ y = x ∨ y ∈ l
  | [] => by simp [inP]
  | q :: r => by
    unfold inP
    split
    · simp
    · rw [List.mem_cons, inP_mem (l := r), List.mem_cons]
      constructor
      · rintro (h | h | h)
        · exact .inr (.inl h)
        · exact .inl h
        · exact .inr (.inr h)
      · rintro (h | h | h)
        · exact .inr (.inl h)
        · exact .inl h
        · exact .inr (.inr h)
theorem inP_rise {x : Pa} : ∀ {l : List Pa}, Ri l → (∀ p ∈ l, p.k ≠ x.k) → Ri (inP x l)
  | [], _, _ => by unfold inP Ri; simp
  | q :: r, h, hn => by
    unfold Ri at h
    rw [List.pairwise_cons] at h
    unfold inP
    split
    · rename_i h1
      unfold Ri
      rw [List.pairwise_cons, List.pairwise_cons]
      refine ⟨fun p hp => ?_, h⟩
      rw [List.mem_cons] at hp
      rcases hp with rfl | hp
      · exact h1
      · exact tL_tr h1 (h.1 p hp)
    · rename_i h1
      have h2 : tL q.k x.k = true := tL_tot (by simpa using h1) (fun e => hn q (.head _) e.symm)
      unfold Ri
      rw [List.pairwise_cons]
      refine ⟨fun p hp => ?_, inP_rise h.2 (fun p hp => hn p (.tail _ hp))⟩
      rw [inP_mem] at hp
      rcases hp with rfl | hp
      · exact h2
      · exact h.1 p hp
theorem woP_rise {l : List Pa} (h : Ri l) (key : ByteArray) : Ri (woP l key) := h.sublist List.filter_sublist
theorem wiP_rise {l : List Pa} (h : Ri l) (key val : ByteArray) : Ri (wiP l key val) := inP_rise (woP_rise h key) (geP_none.1 (geP_wo_self l key))
/-- Rising pairs that tell the same of each key are one. -/
theorem rise_ext : ∀ {l m : List Pa}, Ri l → Ri m → (∀ key, geP l key = geP m key) → l = m
  | [], [], _, _, _ => rfl
  | [], q :: r, _, _, h => by
    have := h q.k
    unfold geP at this
    rw [tE_self] at this
    cases this
  | p :: l, [], _, _, h => by
    have := h p.k
    unfold geP at this
    rw [tE_self] at this
    cases this
  | p :: l, q :: m, h1, h2, h => by
    unfold Ri at h1 h2
    rw [List.pairwise_cons] at h1 h2
    have none_l : ∀ key, (tL key p.k = true ∨ key = p.k) → geP l key = none := fun key hk => geP_none.2 fun x hx e => by
      have := h1.1 x hx
      rw [e] at this
      rcases hk with hk | rfl
      · rw [tL_as hk] at this; cases this
      · rw [tL_irr] at this; cases this
    have none_m : ∀ key, (tL key q.k = true ∨ key = q.k) → geP m key = none := fun key hk => geP_none.2 fun x hx e => by
      have := h2.1 x hx
      rw [e] at this
      rcases hk with hk | rfl
      · rw [tL_as hk] at this; cases this
      · rw [tL_irr] at this; cases this
    have hk : p.k = q.k := by
      by_cases e : p.k = q.k
      · exact e
      · exfalso
        cases hl : tL p.k q.k with
        | true =>
          have := h p.k
          unfold geP at this
          rw [tE_self, tE_no (fun h => e h.symm), none_m _ (.inl hl)] at this
          cases this
        | false =>
          have hl := tL_tot hl e
          have := h q.k
          unfold geP at this
          rw [tE_self, tE_no e, none_l _ (.inl hl)] at this
          cases this
    have hv : p.v = q.v := by
      have := h p.k
      unfold geP at this
      rw [tE_self, ← hk, tE_self] at this
      exact Option.some.inj this
    have hr : ∀ key, geP l key = geP m key := by
      intro key
      by_cases e : key = p.k
      · rw [none_l _ (.inr e), none_m _ (.inr (e.trans hk))]
      · have := h key
        unfold geP at this
        rw [tE_no (fun h => e h.symm), ← hk, tE_no (fun h => e h.symm)] at this
        exact this
    rw [Pa.ext' hk hv, rise_ext h1.2 h2.2 hr]
/-- Writes of unlike keys do not hang on their order; the last one of a key counts; what is taken away, and was not there, changes nothing. -/
theorem turn_two {l : List Pa} (h : Ri l) {a b u v : ByteArray} (hn : a ≠ b) : wiP (wiP l a u) b v = wiP (wiP l b v) a u := by
  refine rise_ext (wiP_rise (wiP_rise h _ _) _ _) (wiP_rise (wiP_rise h _ _) _ _) (fun key => ?_)
  by_cases e1 : key = a
  · subst e1
    rw [geP_wi_other _ _ hn, geP_wi_self, geP_wi_self]
  · by_cases e2 : key = b
    · subst e2
      rw [geP_wi_self, geP_wi_other _ _ e1, geP_wi_self]
    · rw [geP_wi_other _ _ e2, geP_wi_other _ _ e1, geP_wi_other _ _ e1, geP_wi_other _ _ e2]
theorem last_two {l : List Pa} (h : Ri l) (a u v : ByteArray) : wiP (wiP l a u) a v = wiP l a v := by
  refine rise_ext (wiP_rise (wiP_rise h _ _) _ _) (wiP_rise h _ _) (fun key => ?_)
  by_cases e1 : key = a
  · subst e1
    rw [geP_wi_self, geP_wi_self]
  · rw [geP_wi_other _ _ e1, geP_wi_other _ _ e1, geP_wi_other _ _ e1]
theorem gone_two {l : List Pa} (h : Ri l) {a : ByteArray} (v : ByteArray) (hn : geP l a = none) : woP (wiP l a v) a = l := by
  refine rise_ext (woP_rise (wiP_rise h _ _) _) h (fun key => ?_)
  by_cases e1 : key = a
  · subst e1
    rw [geP_wo_self, hn]
  · rw [geP_wo_other _ e1, geP_wi_other _ _ e1]
end Go.Proofs.YtcgclhahonndbaaGreat
