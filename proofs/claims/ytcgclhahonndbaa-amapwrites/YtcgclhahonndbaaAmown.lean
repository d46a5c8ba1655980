/- Pairs of an arena as plain data: no program. -/
import Derived.Test.YtcgclhahonndbaaArv
import Derived.Test.YtcgclhahonndbaaAmnum
namespace Go.Proofs.Ytcgclhahonndbaa
open Go.RowKit Go.Shelf
set_option linter.unusedVariables false

/-- The pair of a record, those of a leaf's slots, a leaf's own ones, and all. -/
def rcP (zs : List Int) (s : Int) : Pa := ⟨(rdX zs s).key, (rdX zs s).val⟩
def kvL (zs : List Int) (b : Int) : List Pa := (plN (rnN zs b).sl).map (rcP zs)
def ownR (zs : List Int) (b : Int) : List Int → List Pa
  | [] => kvL zs b
  | c :: _ => (kvL zs b).filter fun p => tL p.k (loS zs c)
def prsR (zs : List Int) : List Int → List Pa
  | [] => []
  | b :: r => ownR zs b r ++ prsR zs r
/-- Leaves whose keys rise, none ahead of the key from which on they are, which rise too. -/
def Gd (zs : List Int) : List Int → Prop
  | [] => True
  | b :: r => (Ri (kvL zs b) ∧ ∀ p ∈ kvL zs b, tL p.k (loS zs b) = false) ∧ (∀ c ∈ r, tL (loS zs b) (loS zs c) = true) ∧ Gd zs r
theorem rcA_key {zs : List Int} {s k : Int} {key : List UInt8} (h : rcA zs s = some (k, key)) : key = (rcP zs s).k.toList := by
  unfold rcA at h
  split at h
  · cases h; rfl
  · cases h
theorem lfN_ri {zs : List Int} : ∀ {l : List Int} {last : List UInt8}, lfN (rcA zs) last l = true → Ri (l.map (rcP zs))
  | [], _, _ => by unfold Ri; simp
  | t :: r, last, h => by
    unfold lfN at h
    cases e : rcA zs t with
    | none => rw [e] at h; cases h
    | some x =>
      obtain ⟨k, key⟩ := x
      rw [e] at h
      simp only [Bool.and_eq_true, decide_eq_true_iff] at h
      have hk := rcA_key e
      unfold Ri
      rw [List.map_cons, List.pairwise_cons]
      refine ⟨fun p hp => ?_, lfN_ri h.2⟩
      obtain ⟨s, hs, rfl⟩ := List.mem_map.1 hp
      obtain ⟨key2, e2, h2⟩ := lfN_mem h.2 s hs
      unfold tL
      rw [← hk, ← rcA_key e2]
      exact h2
theorem lfB_ri {zs : List Int} {l : List Int} {low : List UInt8} (h : lfB (rcA zs) low l = true) : Ri (l.map (rcP zs)) ∧ ∀ p ∈ l.map (rcP zs), Op.bytesLess p.k.toList low = false := by
  refine ⟨?_, fun p hp => ?_⟩
  · cases l with
    | nil => unfold Ri; simp
    | cons t r =>
      unfold lfB at h
      dsimp only at h
      cases e : rcA zs t with
      | none => rw [e] at h; cases h
      | some x =>
        obtain ⟨k, key⟩ := x
        rw [e] at h
        simp only [Bool.and_eq_true, decide_eq_true_iff] at h
        have hk := rcA_key e
        unfold Ri
        rw [List.map_cons, List.pairwise_cons]
        refine ⟨fun p hp => ?_, lfN_ri h.2⟩
        obtain ⟨s, hs, rfl⟩ := List.mem_map.1 hp
        obtain ⟨key2, e2, h2⟩ := lfN_mem h.2 s hs
        unfold tL
        rw [← hk, ← rcA_key e2]
        exact h2
  · obtain ⟨s, hs, rfl⟩ := List.mem_map.1 hp
    obtain ⟨key2, e2, h2⟩ := lfB_mem h s hs
    rw [← rcA_key e2]
    exact h2
theorem sdN_lf {nd : Int → Option Nd} {rc : Int → Option (Int × List UInt8)} {pl : List Int → List Int} : ∀ {L : List Int} {last : List UInt8}, sdN nd rc pl last L = true → ∀ b ∈ L, ∃ n low, nd b = some n ∧ loK rc n = some low ∧ lfB rc low (pl n.sl) = true
  | [], _, _, b, hb => by cases hb
  | c :: r, last, h, b, hb => by
    unfold sdN at h
    cases e : nd c with
    | none => rw [e] at h; cases h
    | some n =>
      rw [e] at h
      simp only at h
      cases el : loK rc n with
      | none => rw [el] at h; cases h
      | some low =>
        rw [el] at h
        simp only [Bool.and_eq_true] at h
        rw [List.mem_cons] at hb
        rcases hb with rfl | hb
        · exact ⟨n, low, e, el, h.1.2⟩
        · exact sdN_lf h.2 b hb
theorem sdB_lf {nd : Int → Option Nd} {rc : Int → Option (Int × List UInt8)} {pl : List Int → List Int} {L : List Int} (h : sdB nd rc pl L = true) : ∀ b ∈ L, ∃ n low, nd b = some n ∧ loK rc n = some low ∧ lfB rc low (pl n.sl) = true := by
  intro b hb
  cases L with
  | nil => cases hb
  | cons c r =>
    unfold sdB at h
    dsimp only at h
    cases e : nd c with
    | none => rw [e] at h; cases h
    | some n =>
      rw [e] at h
      simp only [Bool.and_eq_true, decide_eq_true_iff] at h
      rw [List.mem_cons] at hb
      rcases hb with rfl | hb
      · exact ⟨n, [], e, by unfold loK; rw [if_pos h.1.1], h.1.2⟩
      · exact sdN_lf h.2 b hb
/-- A leaf of a sound arena: its keys rise, and none stands ahead of the key from which on it is. -/
theorem leaf_ri {zs L : List Int} (hL : lvA zs = some L) (hs : sndB zs = true) {b : Int} (hb : b ∈ L) : Ri (kvL zs b) ∧ ∀ p ∈ kvL zs b, tL p.k (loS zs b) = false := by
  have hs' := hs
  rw [snd_of hL] at hs'
  obtain ⟨n, low, h1, h2, h3⟩ := sdB_lf hs' b hb
  obtain ⟨hE, rfl⟩ := nd_out h1
  have hK : lowK zs (rnN zs b) = true := by
    cases e : lowK zs (rnN zs b) with
    | true => rfl
    | false => rw [low_no e] at h2; cases h2
  have hl : low = (loS zs b).toList := by
    rw [low_yes hK] at h2
    unfold loS
    rw [if_pos ⟨hE, hK⟩]
    exact (Option.some.inj h2).symm
  obtain ⟨g1, g2⟩ := lfB_ri h3
  refine ⟨g1, fun p hp => ?_⟩
  unfold tL
  rw [← hl]
  exact g2 p hp
theorem rise_at {zs L : List Int} (hL : lvA zs = some L) (hs : sndB zs = true) : ∀ (n i : Nat) {b c : Int}, L[i]? = some b → L[i + (n + 1)]? = some c → tL (loS zs b) (loS zs c) = true
  | 0, i, b, c, hb, hc => (low_get hL hs hc).2.2 i b rfl hb
  | n + 1, i, b, c, hb, hc => by
    obtain ⟨d, hd⟩ : ∃ d, L[i + (n + 1)]? = some d := ⟨_, List.getElem?_eq_getElem (by have := (List.getElem?_eq_some_iff.1 hc).1; omega)⟩
    exact tL_tr (rise_at hL hs n i hb hd) ((low_get hL hs hc).2.2 (i + (n + 1)) d (by omega) hd)
theorem gd_drop {zs L : List Int} (hL : lvA zs = some L) (hs : sndB zs = true) : ∀ (n : Nat) (i : Nat), L.length - i = n → Gd zs (L.drop i)
  | 0, i, h => by rw [List.drop_eq_nil_of_le (by omega)]; trivial
  | n + 1, i, h => by
    have hi : i < L.length := by omega
    rw [List.drop_eq_getElem_cons hi]
    have hb : L[i]? = some L[i] := List.getElem?_eq_getElem hi
    refine ⟨leaf_ri hL hs (List.getElem_mem hi), fun c hc => ?_, gd_drop hL hs n (i + 1) (by omega)⟩
    obtain ⟨j, hj⟩ := List.getElem?_of_mem hc
    rw [List.getElem?_drop] at hj
    exact rise_at hL hs j i hb (by rw [show i + (j + 1) = i + 1 + j by omega]; exact hj)
theorem gd_of {zs L : List Int} (hL : lvA zs = some L) (hs : sndB zs = true) : Gd zs L := by
  have := gd_drop hL hs L.length 0 rfl
  rwa [List.drop_zero] at this
theorem own_sub {zs : List Int} {b : Int} {r : List Int} : ∀ p ∈ ownR zs b r, p ∈ kvL zs b := by
  intro p hp
  cases r with
  | nil => exact hp
  | cons c r => exact (List.mem_filter.1 hp).1
theorem own_ri {zs : List Int} {b : Int} {r : List Int} (h : Ri (kvL zs b)) : Ri (ownR zs b r) := by
  cases r with
  | nil => exact h
  | cons c r => exact h.sublist List.filter_sublist
/-- All pairs rise, and none stands ahead of the key from which on the first leaf is. -/
theorem prs_ri {zs : List Int} : ∀ {L : List Int}, Gd zs L → Ri (prsR zs L) ∧ ∀ p ∈ prsR zs L, ∀ b, L.head? = some b → tL p.k (loS zs b) = false
  | [], _ => ⟨by unfold Ri prsR; simp, fun p hp => by cases hp⟩
  | b :: r, h => by
    obtain ⟨⟨h1, h2⟩, h3, h4⟩ := h
    obtain ⟨g1, g2⟩ := prs_ri h4
    refine ⟨?_, fun p hp c hc => ?_⟩
    · unfold prsR Ri
      rw [List.pairwise_append]
      refine ⟨own_ri h1, g1, fun p hp q hq => ?_⟩
      cases r with
      | nil => cases hq
      | cons c r => exact tL_lt_le (List.mem_filter.1 hp).2 (g2 q hq c rfl)
    · have hc : b = c := by simpa using hc
      subst hc
      unfold prsR at hp
      rw [List.mem_append] at hp
      rcases hp with hp | hp
      · exact h2 p (own_sub p hp)
      · cases r with
        | nil => cases hp
        | cons c r => exact tL_as (tL_lt_le (h3 c (.head _)) (g2 p hp c rfl))
theorem geP_append : ∀ (l m : List Pa) (key : ByteArray), geP (l ++ m) key = (geP l key).or (geP m key)
  | [], m, key => by simp [geP]
  | p :: l, m, key => by
    rw [List.cons_append, geP_cons, geP_cons]
    split
    · rfl
    · exact geP_append l m key
/-- A key is got from all pairs just as from the own ones of the leaf that may have it. -/
theorem get_at {zs : List Int} {key : ByteArray} {b : Int} {r : List Int} (hb : tL key (loS zs b) = false) (hr : ∀ c ∈ r, tL key (loS zs c) = true) : ∀ {A : List Int}, Gd zs (A ++ b :: r) → geP (prsR zs (A ++ b :: r)) key = geP (ownR zs b r) key
  | [], h => by
    obtain ⟨_, _, h4⟩ := h
    rw [List.nil_append]
    unfold prsR
    rw [geP_append]
    have : geP (prsR zs r) key = none := geP_none.2 fun p hp e => by
      cases r with
      | nil => cases hp
      | cons c r =>
        have := (prs_ri h4).2 p hp c rfl
        rw [e, hr c (.head _)] at this
        cases this
    rw [this, Option.or_none]
  | a :: A, h => by
    obtain ⟨_, h3, h4⟩ := h
    rw [List.cons_append]
    unfold prsR
    rw [geP_append]
    have : geP (ownR zs a (A ++ b :: r)) key = none := geP_none.2 fun p hp e => by
      cases A with
      | nil =>
        have h5 : tL p.k (loS zs b) = true := (List.mem_filter.1 hp).2
        rw [e, hb] at h5
        cases h5
      | cons c A =>
        have h5 : tL p.k (loS zs c) = true := (List.mem_filter.1 hp).2
        have h6 : tL (loS zs c) (loS zs b) = true := h4.2.1 b (by simp)
        have h7 := tL_tr h5 h6
        rw [e, hb] at h7
        cases h7
    rw [this, Option.none_or]
    exact get_at hb hr h4
/-- Each leaf's Next is the next leaf, or 0. -/
def Chn (nd : Int → Option Nd) : Int → List Int → Prop
  | x, [] => x = 0
  | x, b :: r => x = b ∧ b ≠ 0 ∧ ∃ n, nd b = some n ∧ Chn nd n.nx r
theorem lvF_chn {nd : Int → Option Nd} : ∀ {f : Nat} {out : List Int} {x : Int} {L : List Int}, lvF nd f out x = some L → ∃ M, L = out ++ M ∧ Chn nd x M
  | f, out, x, L, h => by
    by_cases h0 : x = 0
    · subst h0
      rw [lvF_end] at h
      cases h
      exact ⟨[], by simp, rfl⟩
    · cases f with
      | zero => simp [lvF, h0] at h
      | succ f =>
        cases e : nd x with
        | none => rw [lvF_bad h0 (by rw [e]; simp)] at h; cases h
        | some n =>
          by_cases hl : n.lv = 0
          · by_cases hn : x ∈ out
            · rw [lvF_bad h0 (fun _ _ _ => hn)] at h; cases h
            · rw [lvF_step h0 e hl hn] at h
              obtain ⟨M, h1, h2⟩ := lvF_chn h
              exact ⟨x :: M, by rw [h1]; simp, rfl, h0, n, e, h2⟩
          · rw [lvF_bad h0 (fun m hm h => absurd h (by rw [e] at hm; cases hm; exact hl))] at h; cases h
theorem chn_at {nd : Int → Option Nd} : ∀ {M : List Int} {x : Int}, Chn nd x M → ∀ (i : Nat) b, M[i]? = some b → ∃ n, nd b = some n ∧ n.nx = (M[i + 1]?).getD 0
  | [], _, _, i, b, hb => by simp at hb
  | c :: r, x, h, 0, b, hb => by
    cases hb
    obtain ⟨_, _, n, h1, h2⟩ := h
    refine ⟨n, h1, ?_⟩
    cases r with
    | nil => exact h2
    | cons d r => exact h2.1
  | c :: r, x, h, i + 1, b, hb => by
    obtain ⟨_, _, n, _, h2⟩ := h
    obtain ⟨m, h3, h4⟩ := chn_at h2 i b (by simpa using hb)
    exact ⟨m, h3, by simpa using h4⟩
theorem leaf_next {zs L : List Int} (hL : lvA zs = some L) {i : Nat} {b : Int} (hb : L[i]? = some b) : (rnN zs b).nx = (L[i + 1]?).getD 0 := by
  unfold lvA at hL
  split at hL
  · obtain ⟨M, rfl, h⟩ := lvF_chn hL
    try rw [List.nil_append] at hb ⊢
    obtain ⟨n, h1, h2⟩ := chn_at h i b hb
    rw [← h2, (nd_out h1).2]
  · cases hL
end Go.Proofs.Ytcgclhahonndbaa
