/- Steps of an insert, a delete, a cut: how many, where. No program. -/
import Derived.Test.YtoboiahknapddaaNumm
namespace Go.Proofs.Ytoboiahknapddaa

/-- Where lines are of two, and the one, once there, stays, they are persisted twice at most. -/
theorem putS_two (b S T : Int) (fs : List Fl) (h : ∀ f ∈ fs, plc b f.s / 8 = S ∨ plc b f.s / 8 = T) (hp : fs.Pairwise fun f g => plc b f.s / 8 = T → plc b g.s / 8 = T) :
    (putS b fs).length ≤ fs.length + 2 ∧ ((∀ f r, fs = f :: r → plc b f.s / 8 = T) → (putS b fs).length ≤ fs.length + 1) := by
  induction fs with
  | nil => exact ⟨by simp [putS], fun _ => by simp [putS]⟩
  | cons f r ih =>
    obtain ⟨h1, h2⟩ := List.pairwise_cons.1 hp
    obtain ⟨ih1, ih2⟩ := ih (fun g hg => h g (by simp [hg])) h2
    cases hr : r with
    | nil =>
      rw [putS_yes (by rfl)]
      exact ⟨by show 2 ≤ 1 + 2; omega, fun _ => by show 2 ≤ 1 + 1; omega⟩
    | cons g r' =>
      rw [← hr]
      have hg : g ∈ r := by rw [hr]; simp
      have hc2 : plc b g.s / 8 = T → ∀ f' r', r = f' :: r' → plc b f'.s / 8 = T := fun k f' r'' e => by rw [hr] at e; cases e; exact k
      cases hl : lastB b f r
      · have e : plc b g.s / 8 = plc b f.s / 8 := by
          rw [hr] at hl
          unfold lastB at hl
          have := of_decide_eq_false hl
          omega
        rw [putS_no hl]
        simp only [List.length_cons]
        exact ⟨by omega, fun k => by have := ih2 (hc2 (e.trans (k f r rfl))); omega⟩
      · have e : plc b g.s / 8 ≠ plc b f.s / 8 := by
          rw [hr] at hl
          unfold lastB at hl
          exact of_decide_eq_true hl
        rw [putS_yes hl]
        have hfT : ¬ plc b f.s / 8 = T := fun k => e ((h1 g hg k).trans k.symm)
        have hfS : plc b f.s / 8 = S := (h f (by simp)).resolve_right hfT
        have hgT : plc b g.s / 8 = T := by
          rcases h g (by simp [hg]) with k | k
          · exact absurd (k.trans hfS.symm) e
          · exact k
        have := ih2 (hc2 hgT)
        simp only [List.length_cons]
        exact ⟨by omega, fun k => absurd (k f r rfl) hfT⟩
theorem putS_few (b S T : Int) (fs : List Fl) (h : ∀ f ∈ fs, plc b f.s / 8 = S ∨ plc b f.s / 8 = T) (hp : fs.Pairwise fun f g => plc b f.s / 8 = T → plc b g.s / 8 = T) : (putS b fs).length ≤ fs.length + 2 := (putS_two b S T fs h hp).1
theorem line_of {b s : Int} (hb : ndB b = true) (h0 : 0 ≤ s) (h1 : s ≤ 12) : plc b s / 8 = b / 8 + (3 + s) / 8 := by
  obtain ⟨b0, b1, b2⟩ := ndB_out hb
  rw [plc_yes hb h0 h1]
  omega

/-- So many steps at most, of the node's slots and lines, the last of them a line. -/
structure Inside (b : Int) (s : List Mi) (most : Int) : Prop where
  each : ∀ x ∈ s, (x.k = 1 ∧ b + 3 ≤ x.a ∧ x.a < b + 16 ∧ 0 ≤ x.v) ∨ (x.k = 2 ∧ (x.a = b / 8 ∨ x.a = b / 8 + 1))
  node : s ≠ [] → 0 ≤ b ∧ b ≤ 4080
  few : (s.length : Int) ≤ most
  last : ∀ x, s[s.length - 1]? = some x → x.k = 2
theorem inside_nil (b : Int) {most : Int} (h : 0 ≤ most) : Inside b [] most := ⟨fun x hx => (by cases hx), fun h => absurd rfl h, h, fun x hx => by simp at hx⟩
theorem inside_put {b : Int} {fs : List Fl} {most : Int} (hb : ndB b = true) (hs : ∀ f ∈ fs, 0 ≤ f.s ∧ f.s ≤ 12) (hv : ∀ f ∈ fs, 0 ≤ f.v) (hm : ((putS b fs).length : Int) ≤ most) : Inside b (putS b fs) most := by
  obtain ⟨b0, b1, b2⟩ := ndB_out hb
  refine ⟨fun x hx => ?_, fun _ => ⟨b0, b1⟩, hm, fun x hx => ?_⟩
  · obtain ⟨f, hf, e⟩ := putS_mem hx
    obtain ⟨f0, f1⟩ := hs f hf
    have e1 := plc_yes hb f0 f1
    have e2 := line_of hb f0 f1
    rcases e with rfl | rfl
    · exact .inl ⟨rfl, by show b + 3 ≤ plc b f.s; omega, by show plc b f.s < b + 16; omega, hv f hf⟩
    · refine .inr ⟨rfl, ?_⟩
      show plc b f.s / 8 = _ ∨ plc b f.s / 8 = _
      omega
  · rcases List.eq_nil_or_concat fs with rfl | ⟨l, f, rfl⟩
    · simp [putS] at hx
    · obtain ⟨P, e, _⟩ := putS_snoc b l f
      rw [List.concat_eq_append, e] at hx
      simp only [List.length_append, List.length_cons, List.length_nil] at hx
      rw [List.getElem?_append_right (by omega), show P.length + (0 + 1 + 1) - 1 - P.length = 1 from by omega] at hx
      cases hx
      rfl
theorem range_lt (n : Nat) : (List.range n).Pairwise (· < ·) := List.pairwise_lt_range
theorem few_ins {b : Int} {l : List Int} {p : Nat} {r : Int} (hb : ndB b = true) (h : l.length ≤ 12) (hp : p ≤ l.length) : (putS b (insF l p r)).length ≤ l.length + 3 := by
  have hs := insF_slots (r := r) h hp
  have := putS_few b (b / 8 + 1) (b / 8) (insF l p r) (fun f hf => by
    obtain ⟨f0, f1⟩ := hs f hf
    rw [line_of hb f0 f1]; omega) (by
    have hd : (insF l p r).Pairwise fun f g => g.s ≤ f.s := by
      unfold insF
      rw [List.pairwise_append]
      refine ⟨List.pairwise_map.2 ((range_lt _).imp fun {a c} hac => by show ((l.length - c : Nat) : Int) ≤ ((l.length - a : Nat) : Int); omega), List.pairwise_singleton _ _, ?_⟩
      intro f hf g hg
      rw [List.mem_singleton.1 hg]
      obtain ⟨i, hi, rfl⟩ := List.mem_map.1 hf
      have := List.mem_range.1 hi
      show (p : Int) ≤ ((l.length - i : Nat) : Int)
      omega
    exact hd.imp_of_mem fun {f g} hf hg hfg k => by
      obtain ⟨f0, f1⟩ := hs f hf
      obtain ⟨g0, g1⟩ := hs g hg
      rw [line_of hb f0 f1] at k
      rw [line_of hb g0 g1]
      omega)
  rw [insF_length] at this
  omega
theorem few_del {b : Int} {l : List Int} {p : Nat} (hb : ndB b = true) (h : l.length ≤ 13) : (putS b (delF l p)).length ≤ l.length + 3 := by
  have hs := delF_slots (p := p) h
  have := putS_few b (b / 8) (b / 8 + 1) (delF l p) (fun f hf => by
    obtain ⟨f0, f1⟩ := hs f hf
    rw [line_of hb f0 f1]; omega) (by
    have hd : (delF l p).Pairwise fun f g => f.s ≤ g.s := by
      unfold delF
      exact List.pairwise_map.2 ((range_lt _).imp fun {a c} hac => by show ((p + a : Nat) : Int) ≤ ((p + c : Nat) : Int); omega)
    exact hd.imp_of_mem fun {f g} hf hg hfg k => by
      obtain ⟨f0, f1⟩ := hs f hf
      obtain ⟨g0, g1⟩ := hs g hg
      rw [line_of hb f0 f1] at k
      rw [line_of hb g0 g1]
      omega)
  rw [delF_length] at this
  omega
theorem few_cut {b : Int} {l : List Int} {c : Nat} (hb : ndB b = true) (h : l.length ≤ 13) : (putS b (cutF l c)).length ≤ l.length + 3 := by
  have hs := cutF_slots (c := c) h
  have := putS_few b (b / 8 + 1) (b / 8) (cutF l c) (fun f hf => by
    obtain ⟨f0, f1⟩ := hs f hf
    rw [line_of hb f0 f1]; omega) (by
    have hd : (cutF l c).Pairwise fun f g => g.s ≤ f.s := by
      unfold cutF
      exact List.pairwise_map.2 ((range_lt _).imp fun {a d} hac => by show ((l.length - 1 - d : Nat) : Int) ≤ ((l.length - 1 - a : Nat) : Int); omega)
    exact hd.imp_of_mem fun {f g} hf hg hfg k => by
      obtain ⟨f0, f1⟩ := hs f hf
      obtain ⟨g0, g1⟩ := hs g hg
      rw [line_of hb f0 f1] at k
      rw [line_of hb g0 g1]
      omega)
  rw [cutF_length] at this
  omega
theorem getD_nonneg {l : List Int} (h : ∀ x ∈ l, 0 < x) (i : Nat) : 0 ≤ l.getD i 0 := by
  rw [List.getD_eq_getElem?_getD]
  cases e : l[i]? with
  | none => exact Int.le_refl _
  | some x => exact Int.le_of_lt (h x (List.mem_of_getElem? e))
theorem insF_vals {l : List Int} {p : Nat} {r : Int} (h : ∀ x ∈ l, 0 < x) (hr : 0 < r) : ∀ f ∈ insF l p r, 0 ≤ f.v := by
  intro f hf
  rcases List.mem_append.1 hf with hf | hf
  · obtain ⟨i, hi, rfl⟩ := List.mem_map.1 hf
    exact getD_nonneg h _
  · rw [List.mem_singleton.1 hf]; exact Int.le_of_lt hr
theorem delF_vals {l : List Int} {p : Nat} (h : ∀ x ∈ l, 0 < x) : ∀ f ∈ delF l p, 0 ≤ f.v := by
  intro f hf
  obtain ⟨i, hi, rfl⟩ := List.mem_map.1 hf
  exact getD_nonneg h _
theorem cutF_vals {l : List Int} {c : Nat} : ∀ f ∈ cutF l c, 0 ≤ f.v := by
  intro f hf
  obtain ⟨i, hi, rfl⟩ := List.mem_map.1 hf
  exact Int.le_refl _
end Go.Proofs.Ytoboiahknapddaa
