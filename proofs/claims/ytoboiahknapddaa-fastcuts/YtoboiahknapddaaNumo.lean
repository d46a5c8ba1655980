/- What an insert, a delete, a cut and a swap leave, however far they have gone, and whatever a crash keeps. No program. -/
import Derived.Test.YtoboiahknapddaaNumn
namespace Go.Proofs.Ytoboiahknapddaa

theorem nd16 : ndB 16 = true := by decide
theorem may_all {L : List Int} {fs : List Fl} (h : L.length ≤ 13) (hs : ∀ f ∈ fs, 0 ≤ f.s ∧ f.s ≤ 12) (k : Nat) : mrB (allM (laidW L)) (putS 16 fs) = true ∧ mrB (allM (laidW L)) ((putS 16 fs).take k) = true := by
  have hl := laidW_length h
  have ho : ok (allM (laidW L)) = true := ok_true (ok_allM (by omega) (by omega))
  have hv : ((allM (laidW L)).vol.length : Int) = 32 := by show ((laidW L).length : Int) = 32; omega
  have hc : chB (putS 16 fs) 32 = true := putS_may nd16 hs (by omega) (by decide)
  have hc2 : chB ((putS 16 fs).take k) 32 = true := by
    obtain ⟨h1, h2⟩ := chB_all hc
    rw [chB_wo h1, List.all_eq_true]
    exact fun x hx => h2 x (List.mem_of_mem_take hx)
  constructor
  · unfold mrB; rw [ho, hv, hc]; rfl
  · unfold mrB; rw [ho, hv, hc2]; rfl
theorem tkN_le' {k n : Nat} (h : k ≤ n) : tkN (k : Int) n = k := by unfold tkN; omega
/-- What a crash keeps, what is seen: words that are laid, behind so many stores. -/
theorem far_both {L : List Int} {fs : List Fl} (h : L.length ≤ 13) (hs : ∀ f ∈ fs, 0 ≤ f.s ∧ f.s ≤ 12) (k : Nat) (hk : k ≤ (putS 16 fs).length) (keep : List Int) :
    ruE (allM (laidW L)) (putS 16 fs) = 0 ∧ ruE (allM (laidW L)) ((putS 16 fs).take k) = 0 ∧
    (ruM (allM (laidW L)) ((putS 16 fs).take k)).vol = putAll (laidW L) ((fs.map (pdF 16)).take (cnt ((putS 16 fs).take k))) ∧
    ∃ i, i ≤ cnt ((putS 16 fs).take k) ∧ csP (allM (laidW L)) (putS 16 fs) (k : Int) keep = putAll (laidW L) ((fs.map (pdF 16)).take i) ∧ ((putS 16 fs).length ≤ k → i = fs.length) := by
  obtain ⟨m1, m2⟩ := may_all h hs k
  have hl := laidW_length h
  obtain ⟨i, h1, h2, h3⟩ := far_kept (b := 16) (W := laidW L) nd16 hs (by omega) (by omega) (by omega) k keep
  refine ⟨ruE_yes m1, ruE_yes m2, ?_, i, h1, ?_, h3⟩
  · rw [ruM_yes m2]; exact far_seen nd16 hs (by omega) (by omega) (by omega) k
  · rw [csP_yes m1, tkN_le' hk]; exact h2

theorem ins_facts {l : List Int} {pn : Nat} {r : Int} (hpos : ∀ x ∈ l, 0 < x) (hn : l.Nodup) (hr : 0 < r) (hrl : r ∉ l) (h12 : l.length ≤ 12) (hp : pn ≤ l.length) (k : Nat) (hk : k ≤ (putS 16 (insF l pn r)).length) (keep : List Int) :
    ruE (allM (laidW l)) (putS 16 (insF l pn r)) = 0 ∧ ruE (allM (laidW l)) ((putS 16 (insF l pn r)).take k) = 0 ∧
    (plN (slN (csP (allM (laidW l)) (putS 16 (insF l pn r)) (k : Int) keep) 16) = l ∨ plN (slN (csP (allM (laidW l)) (putS 16 (insF l pn r)) (k : Int) keep) 16) = wiL l pn r) ∧
    ((putS 16 (insF l pn r)).length ≤ k + 1 → plN (slN (ruM (allM (laidW l)) ((putS 16 (insF l pn r)).take k)).vol 16) = wiL l pn r) ∧
    (k + 1 < (putS 16 (insF l pn r)).length → plN (slN (ruM (allM (laidW l)) ((putS 16 (insF l pn r)).take k)).vol 16) = l) ∧
    ((putS 16 (insF l pn r)).length ≤ k → plN (slN (csP (allM (laidW l)) (putS 16 (insF l pn r)) (k : Int) keep) 16) = wiL l pn r) := by
  have hs := insF_slots (r := r) h12 hp
  have hlen := insF_length l pn r
  obtain ⟨e1, e2, e3, i, h1, h2, h3⟩ := far_both (L := l) (by omega) hs k hk keep
  have hc := cnt_take (putS 16 (insF l pn r)) k
  rw [cnt_putS, hlen] at hc
  have hL : ∀ j, j ≤ l.length - pn → plN (slN (putAll (laidW l) (((insF l pn r).map (pdF 16)).take j)) 16) = l := by
    intro j hj
    rw [ins_stage h12 hp j hj, laidW_slots (by have := insL_length (l := l) (j := j) (by omega); omega) (pos_ins hpos j), plain_ins hn j (by omega)]
  have hW : plN (slN (putAll (laidW l) (((insF l pn r).map (pdF 16)).take (l.length - pn + 1))) 16) = wiL l pn r := by
    rw [List.take_of_length_le (by rw [List.length_map, hlen]; exact Nat.le_refl _), ins_end h12 hp, laidW_slots (by rw [wiL_length hp]; omega) (pos_wi hpos hr pn), plN_nodup (nodup_wi hn hrl pn)]
  have hF : insF l pn r = (List.range (l.length - pn)).map (fun i => (⟨((l.length - i : Nat) : Int), l.getD (l.length - i - 1) 0⟩ : Fl)) ++ [⟨(pn : Int), r⟩] := rfl
  have hA : ∀ j, j ≤ l.length - pn + 1 → plN (slN (putAll (laidW l) (((insF l pn r).map (pdF 16)).take j)) 16) = l ∨ plN (slN (putAll (laidW l) (((insF l pn r).map (pdF 16)).take j)) 16) = wiL l pn r := by
    intro j hj
    by_cases h : j ≤ l.length - pn
    · exact .inl (hL j h)
    · rw [show j = l.length - pn + 1 from by omega]; exact .inr hW
  refine ⟨e1, e2, ?_, ?_, ?_, ?_⟩
  · rw [h2]; exact hA i (by omega)
  · intro hd
    have := cnt_done 16 ((List.range (l.length - pn)).map (fun i => (⟨((l.length - i : Nat) : Int), l.getD (l.length - i - 1) 0⟩ : Fl))) ⟨(pn : Int), r⟩ k (by rw [← hF]; exact hd)
    rw [← hF, List.length_map, List.length_range] at this
    rw [e3, this]; exact hW
  · intro hd
    have := cnt_less 16 ((List.range (l.length - pn)).map (fun i => (⟨((l.length - i : Nat) : Int), l.getD (l.length - i - 1) 0⟩ : Fl))) ⟨(pn : Int), r⟩ k (by rw [← hF]; exact hd)
    rw [← hF, List.length_map, List.length_range] at this
    rw [e3]; exact hL _ this
  · intro hd
    rw [h2, h3 hd, hlen]; exact hW

theorem del_facts {l : List Int} {pn : Nat} (hpos : ∀ x ∈ l, 0 < x) (hn : l.Nodup) (h13 : l.length ≤ 13) (hp : pn < l.length) (k : Nat) (hk : k ≤ (putS 16 (delF l pn)).length) (keep : List Int) :
    ruE (allM (laidW l)) (putS 16 (delF l pn)) = 0 ∧ ruE (allM (laidW l)) ((putS 16 (delF l pn)).take k) = 0 ∧
    (plN (slN (csP (allM (laidW l)) (putS 16 (delF l pn)) (k : Int) keep) 16) = l ∨ plN (slN (csP (allM (laidW l)) (putS 16 (delF l pn)) (k : Int) keep) 16) = woL l pn) ∧
    (0 < k → plN (slN (ruM (allM (laidW l)) ((putS 16 (delF l pn)).take k)).vol 16) = woL l pn) ∧
    (k = 0 → plN (slN (ruM (allM (laidW l)) ((putS 16 (delF l pn)).take k)).vol 16) = l) ∧
    ((putS 16 (delF l pn)).length ≤ k → plN (slN (csP (allM (laidW l)) (putS 16 (delF l pn)) (k : Int) keep) 16) = woL l pn) := by
  have hs := delF_slots (p := pn) h13
  have hlen := delF_length l pn
  obtain ⟨e1, e2, e3, i, h1, h2, h3⟩ := far_both (L := l) h13 hs k hk keep
  have hc := cnt_take (putS 16 (delF l pn)) k
  rw [cnt_putS, hlen] at hc
  have hS : ∀ j, j ≤ l.length - pn → slN (putAll (laidW l) (((delF l pn).map (pdF 16)).take j)) 16 = delL l pn j := by
    intro j hj
    rw [del_stage h13 hp j hj, laidW_slots (by have := delL_length (l := l) (p := pn) (j := j) hp; omega) (pos_del hpos pn j)]
  have h0 : plN (slN (putAll (laidW l) (((delF l pn).map (pdF 16)).take 0)) 16) = l := by rw [hS 0 (by omega), delL_zero, plN_nodup hn]
  have hW : ∀ j, 0 < j → j ≤ l.length - pn → plN (slN (putAll (laidW l) (((delF l pn).map (pdF 16)).take j)) 16) = woL l pn := by
    intro j hj1 hj2
    rw [hS j hj2, plain_del hn hp j hj1 hj2]
  refine ⟨e1, e2, ?_, ?_, ?_, ?_⟩
  · rw [h2]
    by_cases h : i = 0
    · rw [h]; exact .inl h0
    · exact .inr (hW i (by omega) (by omega))
  · intro hd
    obtain ⟨f, fs, e⟩ : ∃ f fs, delF l pn = f :: fs := by
      cases e : delF l pn with
      | nil => rw [e] at hlen; simp at hlen; omega
      | cons f fs => exact ⟨f, fs, rfl⟩
    have := cnt_some 16 f fs k hd
    rw [← e] at this
    rw [e3]; exact hW _ this (by omega)
  · intro hd
    subst hd
    rw [e3]; exact h0
  · intro hd
    rw [h2, h3 hd, hlen]; exact hW _ (by omega) (Nat.le_refl _)

theorem cut_facts {l : List Int} {c : Nat} (hpos : ∀ x ∈ l, 0 < x) (h13 : l.length ≤ 13) (hc : c ≤ l.length) (k : Nat) (hk : k ≤ (putS 16 (cutF l c)).length) (keep : List Int) :
    ruE (allM (laidW l)) (putS 16 (cutF l c)) = 0 ∧ ∃ q, c ≤ q ∧ q ≤ l.length ∧ slN (csP (allM (laidW l)) (putS 16 (cutF l c)) (k : Int) keep) 16 = l.take q ∧ (k = (putS 16 (cutF l c)).length → q = c) := by
  have hs := cutF_slots (c := c) h13
  have hlen := cutF_length l c
  obtain ⟨e1, e2, e3, i, h1, h2, h3⟩ := far_both (L := l) h13 hs k hk keep
  have hcn := cnt_take (putS 16 (cutF l c)) k
  rw [cnt_putS, hlen] at hcn
  refine ⟨e1, l.length - i, by omega, by omega, ?_, fun hd => ?_⟩
  · rw [h2, cut_stage h13 i (by omega), laidW_slots (by rw [List.length_take]; omega) (fun x hx => hpos x (List.mem_of_mem_take hx))]
  · have := h3 (by omega)
    omega
theorem swp_facts {l : List Int} {p : Nat} {r : Int} (hpos : ∀ x ∈ l, 0 < x) (hr : 0 < r) (h13 : l.length ≤ 13) (hp : p < l.length) (k : Nat) (hk : k ≤ (putS 16 [⟨(p : Int), r⟩]).length) (keep : List Int) :
    ruE (allM (laidW l)) (putS 16 [⟨(p : Int), r⟩]) = 0 ∧ (slN (csP (allM (laidW l)) (putS 16 [⟨(p : Int), r⟩]) (k : Int) keep) 16 = l ∨ slN (csP (allM (laidW l)) (putS 16 [⟨(p : Int), r⟩]) (k : Int) keep) 16 = l.set p r) := by
  have hs : ∀ f ∈ [(⟨(p : Int), r⟩ : Fl)], 0 ≤ f.s ∧ f.s ≤ 12 := by
    intro f hf
    rw [List.mem_singleton.1 hf]
    exact ⟨by show (0 : Int) ≤ (p : Int); omega, by show (p : Int) ≤ 12; omega⟩
  obtain ⟨e1, e2, e3, i, h1, h2, h3⟩ := far_both (L := l) h13 hs k hk keep
  have hcn := cnt_take (putS 16 [(⟨(p : Int), r⟩ : Fl)]) k
  rw [cnt_putS] at hcn
  have hcn : cnt ((putS 16 [(⟨(p : Int), r⟩ : Fl)]).take k) ≤ 1 := hcn
  refine ⟨e1, ?_⟩
  rw [h2]
  by_cases h : i = 0
  · left
    rw [h]
    exact laidW_slots h13 hpos
  · right
    rw [List.take_of_length_le (by simp; omega), swp_end h13 hp]
    refine laidW_slots (by simp; omega) (fun x hx => ?_)
    rcases List.mem_or_eq_of_mem_set hx with h | h
    · exact hpos x h
    · rw [h]; exact hr

theorem back_facts {l : List Int} {pn : Nat} {r : Int} (h12 : l.length ≤ 12) (hp : pn ≤ l.length) :
    mrB (allM (laidW l)) (putS 16 (insF l pn r) ++ putS 16 (delF (wiL l pn r) pn)) = true ∧
    mrB (allM (laidW (wiL l pn r))) (putS 16 (delF (wiL l pn r) pn) ++ putS 16 (insF l pn r)) = true ∧
    ruM (allM (laidW l)) (putS 16 (insF l pn r) ++ putS 16 (delF (wiL l pn r) pn)) = allM (laidW l) ∧
    ruM (allM (laidW (wiL l pn r))) (putS 16 (delF (wiL l pn r) pn) ++ putS 16 (insF l pn r)) = allM (laidW (wiL l pn r)) := by
  have hwl := wiL_length (l := l) (r := r) hp
  have hs1 := insF_slots (r := r) h12 hp
  have hs2 := delF_slots (l := wiL l pn r) (p := pn) (by omega)
  have hl1 := laidW_length (L := l) (by omega)
  have hl2 := laidW_length (L := wiL l pn r) (by omega)
  have o1 : ok (allM (laidW l)) = true := ok_true (ok_allM (by omega) (by omega))
  have o2 : ok (allM (laidW (wiL l pn r))) = true := ok_true (ok_allM (by omega) (by omega))
  have v1 : ((allM (laidW l)).vol.length : Int) = 32 := by show ((laidW l).length : Int) = 32; omega
  have v2 : ((allM (laidW (wiL l pn r))).vol.length : Int) = 32 := by show ((laidW (wiL l pn r)).length : Int) = 32; omega
  have hc1 : chB (putS 16 (insF l pn r)) 32 = true := putS_may nd16 hs1 (by omega) (by decide)
  have hc2 : chB (putS 16 (delF (wiL l pn r) pn)) 32 = true := putS_may nd16 hs2 (by omega) (by decide)
  obtain ⟨w1, a1⟩ := chB_all hc1
  obtain ⟨_, a2⟩ := chB_all hc2
  have m1 : mrB (allM (laidW l)) (putS 16 (insF l pn r) ++ putS 16 (delF (wiL l pn r) pn)) = true := by
    unfold mrB
    rw [o1, v1, chB_wo w1, List.all_append, List.all_eq_true.2 a1, List.all_eq_true.2 a2]; rfl
  have m2 : mrB (allM (laidW (wiL l pn r))) (putS 16 (delF (wiL l pn r) pn) ++ putS 16 (insF l pn r)) = true := by
    unfold mrB
    rw [o2, v2, chB_wo w1, List.all_append, List.all_eq_true.2 a1, List.all_eq_true.2 a2]; rfl
  have r1 : runM (allM (laidW l)) (putS 16 (insF l pn r)) = allM (laidW (wiL l pn r)) := by
    rw [run_all nd16 hs1 (by omega) (by omega) (by omega), ins_end h12 hp]
  have r2 : runM (allM (laidW (wiL l pn r))) (putS 16 (delF (wiL l pn r) pn)) = allM (laidW l) := by
    rw [run_all nd16 hs2 (by omega) (by omega) (by omega), del_end (by omega) (by omega), woL_wiL hp]
  exact ⟨m1, m2, by rw [ruM_yes m1, runM_append, r1, r2], by rw [ruM_yes m2, runM_append, r2, r1]⟩
end Go.Proofs.Ytoboiahknapddaa
