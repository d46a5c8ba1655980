/- Layer 12: what the leaves of a sound arena have is what is told of them. -/
import Derived.Test.YtcgclhahonndbaaPoe
namespace Go.Proofs.Ytcgclhahonndbaa
open Go.RowKit Go.Shelf
set_option linter.unusedVariables false

theorem fiG_map {α β : Type} (f : α → β) (t : β → Bool) : ∀ (l : List α), fiG t (l.map f) = fiG (fun x => t (f x)) l
  | [] => rfl
  | x :: r => by
    rw [List.map_cons]
    unfold fiG
    rw [fiG_map f t r]
theorem rise_take (c : ByteArray) : ∀ {l : List Pa}, Ri l → l.take (fiG (fun p => !tL p.k c) l) = l.filter fun p => tL p.k c
  | [], _ => rfl
  | p :: r, h => by
    have h' := h
    unfold Ri at h'
    rw [List.pairwise_cons] at h'
    unfold fiG
    cases e : tL p.k c with
    | true =>
      rw [if_neg (by simp), List.take_succ_cons, List.filter_cons, if_pos e, rise_take c h'.2]
    | false =>
      rw [if_pos (by simp), List.take_zero, List.filter_cons, if_neg (by rw [e]; decide)]
      symm
      rw [List.filter_eq_nil_iff]
      intro q hq hc
      have h2 := tL_tr (h'.1 q hq) hc
      rw [e] at h2
      cases h2
theorem slR_kv (zs : List Int) (b : Int) : (slR zs b).map prR = kvL zs b := by
  unfold slR kvL
  rw [List.map_map]
  rfl
theorem leaf_ne {zs L : List Int} (hL : lvA zs = some L) {b : Int} (hb : b ∈ L) : b ≠ 0 := by
  obtain ⟨_, _, hok, _⟩ := lvA_out hL
  obtain ⟨h0, hE, _⟩ := hok b hb
  have := (rnK_iff.1 (rn_may hE).1).1
  omega
theorem lv_few {zs L : List Int} (hL : lvA zs = some L) (hz : zs.length ≤ 1000) : L.length ≤ 62 := by
  obtain ⟨_, hn, hok, _⟩ := lvA_out hL
  refine nodup_len 62 L hn (fun b hb => ?_)
  have h3 := rnK_iff.1 (rn_may (hok b hb).2.1).1
  omega
/-- A leaf's own pairs are those ahead of the key from which on the next one is. -/
theorem ownL_at {zs L : List Int} (hL : lvA zs = some L) (hs : sndB zs = true) {i : Nat} {b : Int} (hb : L[i]? = some b) : ownL zs b = ownR zs b (L.drop (i + 1)) := by
  have hx := leaf_next hL hb
  have hr := (leaf_ri hL hs (List.mem_of_getElem? hb)).1
  unfold ownL cutR
  cases hc : L[i + 1]? with
  | none =>
    rw [hc] at hx
    have hd : L.drop (i + 1) = [] := List.drop_eq_nil_of_le (by
      have := List.getElem?_eq_none_iff.1 hc
      omega)
    rw [if_pos (show (rnN zs b).nx = 0 from hx), hd, slR_kv]
    rfl
  | some c =>
    rw [hc] at hx
    have hx : (rnN zs b).nx = c := hx
    have hn := leaf_ne hL (List.mem_of_getElem? hc)
    obtain ⟨hi, hci⟩ := List.getElem?_eq_some_iff.1 hc
    rw [hx, if_neg hn, List.drop_eq_getElem_cons hi, hci]
    show _ = (kvL zs b).filter fun p => tL p.k (loS zs c)
    rw [← rise_take (loS zs c) hr, ← slR_kv, fiG_map, List.map_take]
    rfl
theorem flat_drop {zs L : List Int} (hL : lvA zs = some L) (hs : sndB zs = true) : ∀ (n i : Nat), L.length - i = n → (L.drop i).flatMap (ownL zs) = prsR zs (L.drop i)
  | 0, i, h => by rw [List.drop_eq_nil_of_le (by omega)]; rfl
  | n + 1, i, h => by
    have hi : i < L.length := by omega
    have hb : L[i]? = some L[i] := List.getElem?_eq_getElem hi
    rw [List.drop_eq_getElem_cons hi, List.flatMap_cons, ownL_at hL hs hb, flat_drop hL hs n (i + 1) (by omega)]
    rfl
/-- All pairs. -/
theorem flat_prs {zs L : List Int} (hL : lvA zs = some L) (hs : sndB zs = true) : L.flatMap (ownL zs) = prsR zs L := by
  have := flat_drop hL hs L.length 0 rfl
  rwa [List.drop_zero] at this
theorem flat_ri {zs L : List Int} (hL : lvA zs = some L) (hs : sndB zs = true) : Ri (L.flatMap (ownL zs)) := by
  rw [flat_prs hL hs]
  exact (prs_ri (gd_of hL hs)).1
theorem own_low {zs L : List Int} (hL : lvA zs = some L) (hs : sndB zs = true) {i : Nat} {b : Int} (hb : L[i]? = some b) : ∀ p ∈ ownL zs b, tL p.k (loS zs b) = false := by
  rw [ownL_at hL hs hb]
  intro p hp
  exact (leaf_ri hL hs (List.mem_of_getElem? hb)).2 p (own_sub p hp)
/-- A key is got from all pairs just as from the own ones of the leaf that may have it. -/
theorem get_leaf {zs L : List Int} (hL : lvA zs = some L) (hs : sndB zs = true) {j : Nat} {b : Int} {key : ByteArray} (hb : L[j]? = some b) (h1 : tL key (loS zs b) = false) (h2 : ∀ (i : Nat) c, j < i → L[i]? = some c → tL key (loS zs c) = true) :
    geP (L.flatMap (ownL zs)) key = geP (ownL zs b) key := by
  obtain ⟨hj, hbj⟩ := List.getElem?_eq_some_iff.1 hb
  have hsp : L = L.take j ++ b :: L.drop (j + 1) := by
    rw [← hbj, ← List.drop_eq_getElem_cons hj, List.take_append_drop]
  rw [flat_prs hL hs, ownL_at hL hs hb]
  have hg := gd_of hL hs
  rw [hsp] at hg
  have := get_at (key := key) h1 (fun c hc => by
    obtain ⟨i, hi⟩ := List.getElem?_of_mem hc
    rw [List.getElem?_drop] at hi
    exact h2 _ c (by omega) hi) hg
  rwa [← hsp] at this
end Go.Proofs.Ytcgclhahonndbaa
