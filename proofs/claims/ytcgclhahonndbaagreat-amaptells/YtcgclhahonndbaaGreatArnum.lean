/- Set over from a lower layer: Arnum. -/
import Derived.Test.YtcgclhahonndbaaGreatNNumz
import Derived.Test.YtcgclhahonndbaaGreatRRech
import Derived.Test.YtcgclhahonndbaaGreatSSumz
namespace Go.Proofs.YtcgclhahonndbaaGreat
/-- Texts stand in one order. -/
theorem bl_irrefl (a : List UInt8) : Op.bytesLess a a = false := by
  induction a with
  | nil => rfl
  | cons c a ih =>
    have e : Op.bytesLess (c :: a) (c :: a) = (decide (c < c) || (c == c && Op.bytesLess a a)) := rfl
    rw [e, ih]
    simp
theorem bl_cons (c d : UInt8) (a b : List UInt8) : Op.bytesLess (c :: a) (d :: b) = (decide (c < d) || (c == d && Op.bytesLess a b)) := rfl
theorem bl_nil (a : List UInt8) : Op.bytesLess a [] = false := by cases a <;> rfl
theorem bl_first (c : UInt8) (a : List UInt8) : Op.bytesLess [] (c :: a) = true := rfl
theorem bl_trans : ∀ {a b c : List UInt8}, Op.bytesLess a b = true → Op.bytesLess b c = true → Op.bytesLess a c = true
  | _, [], _, h, _ => by rw [bl_nil] at h; cases h
  | _, _ :: _, [], _, h => by rw [bl_nil] at h; cases h
  | [], _ :: _, _ :: _, _, _ => rfl
  | x :: a, y :: b, z :: c, h1, h2 => by
    rw [bl_cons, Bool.or_eq_true, Bool.and_eq_true, decide_eq_true_iff, beq_iff_eq] at h1 h2 ⊢
    rcases h1 with h1 | ⟨rfl, h1⟩
    · rcases h2 with h2 | ⟨rfl, h2⟩
      · exact .inl (UInt8.lt_trans h1 h2)
      · exact .inl h1
    · rcases h2 with h2 | ⟨rfl, h2⟩
      · exact .inl h2
      · exact .inr ⟨rfl, bl_trans h1 h2⟩
theorem bl_total : ∀ {a b : List UInt8}, Op.bytesLess a b = false → a ≠ b → Op.bytesLess b a = true
  | [], [], _, h => absurd rfl h
  | [], _ :: _, h, _ => by rw [bl_first] at h; cases h
  | _ :: _, [], _, _ => rfl
  | x :: a, y :: b, h, hn => by
    rw [bl_cons, Bool.or_eq_false_iff, Bool.and_eq_false_iff, decide_eq_false_iff_not] at h
    rw [bl_cons, Bool.or_eq_true, Bool.and_eq_true, decide_eq_true_iff, beq_iff_eq]
    by_cases e : x = y
    · subst e
      refine .inr ⟨rfl, bl_total ?_ (fun e => hn (by rw [e]))⟩
      rcases h.2 with h | h
      · simp at h
      · exact h
    · left
      have h1 := h.1
      rw [UInt8.lt_iff_toNat_lt] at h1 ⊢
      have : x.toNat ≠ y.toNat := fun h => e (UInt8.toNat_inj.1 h)
      omega
theorem bl_ne {a b : List UInt8} (h : Op.bytesLess a b = true) : a ≠ b := by
  rintro rfl
  rw [bl_irrefl] at h
  cases h
theorem bl_asymm {a b : List UInt8} (h : Op.bytesLess a b = true) : Op.bytesLess b a = false := by
  cases h2 : Op.bytesLess b a with
  | false => rfl
  | true => have := bl_trans h h2; rw [bl_irrefl] at this; cases this
/-- The leaves from one on, behind those that were there: what there is in so many steps. -/
def lvF (nd : Int → Option Nd) : Nat → List Int → Int → Option (List Int)
  | f, out, at' => if at' = 0 then some out else
    match f with
    | 0 => none
    | f + 1 => match nd at' with
      | none => none
      | some n => if n.lv ≠ 0 then none else if out.contains at' then none else lvF nd f (out ++ [at']) n.nx
theorem lvF_end (nd : Int → Option Nd) (f : Nat) (out : List Int) : lvF nd f out 0 = some out := by
  cases f <;> simp [lvF]
theorem lvF_step {nd : Int → Option Nd} {f : Nat} {out : List Int} {at' : Int} {n : Nd} (h0 : at' ≠ 0) (h : nd at' = some n) (hl : n.lv = 0) (hn : at' ∉ out) : lvF nd (f + 1) out at' = lvF nd f (out ++ [at']) n.nx := by
  conv => lhs; unfold lvF
  rw [if_neg h0]
  simp [h, hl, hn]
theorem lvF_bad {nd : Int → Option Nd} {f : Nat} {out : List Int} {at' : Int} (h0 : at' ≠ 0) (h : ∀ n, nd at' = some n → n.lv = 0 → at' ∈ out) : lvF nd f out at' = none := by
  cases f with
  | zero => simp [lvF, h0]
  | succ f =>
    unfold lvF
    rw [if_neg h0]
    cases e : nd at' with
    | none => simp
    | some n =>
      by_cases hl : n.lv = 0
      · have := h n e hl
        simp [hl, this]
      · simp [hl]
/-- What comes out goes on from what was there, holds nothing twice, and all that is new are leaves. -/
theorem lvF_out {nd : Int → Option Nd} : ∀ {f : Nat} {out : List Int} {at' : Int} {L : List Int}, lvF nd f out at' = some L → out.Nodup → ∃ M, L = out ++ M ∧ L.Nodup ∧ (∀ b ∈ M, b ≠ 0 ∧ ∃ n, nd b = some n ∧ n.lv = 0) ∧ (at' ≠ 0 → M.head? = some at')
  | f, out, at', L, h, hd => by
    by_cases h0 : at' = 0
    · subst h0
      rw [lvF_end] at h
      cases h
      exact ⟨[], by simp, hd, by simp, fun h => absurd rfl h⟩
    · cases f with
      | zero => simp [lvF, h0] at h
      | succ f =>
        cases e : nd at' with
        | none => rw [lvF_bad h0 (by rw [e]; simp)] at h; cases h
        | some n =>
          by_cases hl : n.lv = 0
          · by_cases hn : at' ∈ out
            · rw [lvF_bad h0 (fun _ _ _ => hn)] at h; cases h
            · rw [lvF_step h0 e hl hn] at h
              have hd2 : (out ++ [at']).Nodup := by
                rw [List.nodup_append]
                exact ⟨hd, by simp, fun a ha b hb => by rw [List.mem_singleton] at hb; subst hb; exact fun e => hn (e ▸ ha)⟩
              obtain ⟨M, h1, h2, h3, _⟩ := lvF_out h hd2
              refine ⟨at' :: M, by rw [h1]; simp, h2, ?_, fun _ => rfl⟩
              intro b hb
              rw [List.mem_cons] at hb
              rcases hb with rfl | hb
              · exact ⟨h0, n, e, hl⟩
              · exact h3 b hb
          · rw [lvF_bad h0 (fun m hm h => absurd h (by rw [e] at hm; cases hm; exact hl))] at h; cases h
/-- Blocks below n, none twice: at most n of them. -/
theorem nodup_len : ∀ (n : Nat) (l : List Int), l.Nodup → (∀ b ∈ l, 0 ≤ b ∧ b < (n : Int)) → l.length ≤ n
  | 0, l, _, h => by
    cases l with
    | nil => simp
    | cons b l => have := h b (.head _); omega
  | n + 1, l, hd, h => by
    have h1 := nodup_len n (l.filter fun b => decide (b ≠ (n : Int))) (hd.sublist List.filter_sublist) (fun b hb => by
      rw [List.mem_filter] at hb
      have := h b hb.1
      have h2 : b ≠ (n : Int) := by simpa using hb.2
      omega)
    have h2 : l.length ≤ (l.filter fun b => decide (b ≠ (n : Int))).length + 1 := by
      clear h1 h
      induction l with
      | nil => simp
      | cons b l ih =>
        rw [List.nodup_cons] at hd
        by_cases e : b = (n : Int)
        · subst e
          have : (l.filter fun b => decide (b ≠ (n : Int))) = l := by
            rw [List.filter_eq_self]
            intro a ha
            exact decide_eq_true (fun e => hd.1 (e ▸ ha))
          rw [List.filter_cons_of_neg (by simp), this]
          simp
        · rw [List.filter_cons_of_pos (by simpa using e)]
          have := ih hd.2
          simp only [List.length_cons]
          omega
    omega
/-- The records of slots are of the kind 1, and their keys rise behind one. -/
def lfN (rc : Int → Option (Int × List UInt8)) : List UInt8 → List Int → Bool
  | _, [] => true
  | last, s :: r => match rc s with
    | none => false
    | some (k, key) => decide (k = 1) && Op.bytesLess last key && lfN rc key r
/-- The same, from a key on that the first one may have. -/
def lfB (rc : Int → Option (Int × List UInt8)) (low : List UInt8) : List Int → Bool
  | [] => true
  | s :: r => match rc s with
    | none => false
    | some (k, key) => decide (k = 1) && !Op.bytesLess key low && lfN rc key r
theorem lfN_mem {rc : Int → Option (Int × List UInt8)} : ∀ {l : List Int} {last : List UInt8}, lfN rc last l = true → ∀ s ∈ l, ∃ key, rc s = some (1, key) ∧ Op.bytesLess last key = true
  | [], _, _, s, hs => by cases hs
  | t :: r, last, h, s, hs => by
    unfold lfN at h
    cases e : rc t with
    | none => rw [e] at h; cases h
    | some x =>
      obtain ⟨k, key⟩ := x
      rw [e] at h
      simp only [Bool.and_eq_true, decide_eq_true_iff] at h
      obtain ⟨⟨rfl, h1⟩, h2⟩ := h
      rw [List.mem_cons] at hs
      rcases hs with rfl | hs
      · exact ⟨key, e, h1⟩
      · obtain ⟨key', e', h3⟩ := lfN_mem h2 s hs
        exact ⟨key', e', bl_trans h1 h3⟩
theorem lfB_mem {rc : Int → Option (Int × List UInt8)} {l : List Int} {low : List UInt8} (h : lfB rc low l = true) : ∀ s ∈ l, ∃ key, rc s = some (1, key) ∧ Op.bytesLess key low = false := by
  intro s hs
  cases l with
  | nil => cases hs
  | cons t r =>
    unfold lfB at h
    dsimp only at h
    cases e : rc t with
    | none => rw [e] at h; cases h
    | some x =>
      obtain ⟨k, key⟩ := x
      rw [e] at h
      simp only [Bool.and_eq_true, decide_eq_true_iff, Bool.not_eq_true'] at h
      obtain ⟨⟨rfl, h1⟩, h2⟩ := h
      rw [List.mem_cons] at hs
      rcases hs with rfl | hs
      · exact ⟨key, e, h1⟩
      · obtain ⟨key', e', h3⟩ := lfN_mem h2 s hs
        refine ⟨key', e', ?_⟩
        cases h4 : Op.bytesLess key' low with
        | false => rfl
        | true => have := bl_trans h3 h4; rw [h1] at this; cases this
theorem lfB_damage {rc : Int → Option (Int × List UInt8)} {s : Int} {l : List Int} {low : List UInt8} (hs : s ∈ l) (h : rc s = none) : lfB rc low l = false := by
  cases e : lfB rc low l with
  | false => rfl
  | true => obtain ⟨key, h2, _⟩ := lfB_mem e s hs; rw [h] at h2; cases h2
/-- From which key on a node is. -/
def loK (rc : Int → Option (Int × List UInt8)) (n : Nd) : Option (List UInt8) := if n.lo = 0 then some [] else (rc n.lo).map Prod.snd
/-- Leaves behind one that is from a key on: each is from a later one on, and its slots (pl: without what stands twice) may be. -/
def sdN (nd : Int → Option Nd) (rc : Int → Option (Int × List UInt8)) (pl : List Int → List Int) : List UInt8 → List Int → Bool
  | _, [] => true
  | last, b :: r => match nd b with
    | none => false
    | some n => match loK rc n with
      | none => false
      | some low => Op.bytesLess last low && lfB rc low (pl n.sl) && sdN nd rc pl low r
/-- Nd arena of these leaves is sound. -/
def sdB (nd : Int → Option Nd) (rc : Int → Option (Int × List UInt8)) (pl : List Int → List Int) : List Int → Bool
  | [] => true
  | b :: r => match nd b with
    | none => false
    | some n => decide (n.lo = 0) && lfB rc [] (pl n.sl) && sdN nd rc pl [] r
/-- What the leaves hang on: their nodes, their Lows, their slots. -/
def reaL (nd : Int → Option Nd) (L : List Int) : List Int := L.flatMap fun b => match nd b with
  | none => [b]
  | some n => b :: (if n.lo = 0 then [] else [n.lo]) ++ n.sl
theorem sdN_damage {nd : Int → Option Nd} {rc : Int → Option (Int × List UInt8)} {pl : List Int → List Int} {s b : Int} {n : Nd} (hb : nd b = some n) (hs : s ∈ pl n.sl) (h : rc s = none) :
    ∀ {L : List Int} {last : List UInt8}, b ∈ L → sdN nd rc pl last L = false
  | c :: r, last, hc => by
    unfold sdN
    cases e : nd c with
    | none => rfl
    | some m =>
      simp only
      cases loK rc m with
      | none => rfl
      | some low =>
        simp only
        rw [List.mem_cons] at hc
        rcases hc with rfl | hc
        · rw [hb] at e
          cases e
          rw [lfB_damage hs h]
          simp
        · rw [sdN_damage hb hs h hc]
          simp
theorem sdB_damage {nd : Int → Option Nd} {rc : Int → Option (Int × List UInt8)} {pl : List Int → List Int} {s b : Int} {n : Nd} (hb : nd b = some n) (hs : s ∈ pl n.sl) (h : rc s = none) {L : List Int} (hL : b ∈ L) : sdB nd rc pl L = false := by
  cases L with
  | nil => cases hL
  | cons c r =>
    unfold sdB
    dsimp only
    cases e : nd c with
    | none => rfl
    | some m =>
      simp only
      rw [List.mem_cons] at hL
      rcases hL with rfl | hc
      · rw [hb] at e
        cases e
        rw [lfB_damage hs h]
        simp
      · rw [sdN_damage hb hs h hc]
        simp
/-- From which key on the node of a block is. -/
def lwA (nd : Int → Option Nd) (rc : Int → Option (Int × List UInt8)) (b : Int) : Option (List UInt8) := match nd b with
  | none => none
  | some n => loK rc n
/-- The keys from which on leaves are rise. -/
theorem sdN_get {nd : Int → Option Nd} {rc : Int → Option (Int × List UInt8)} {pl : List Int → List Int} : ∀ {L : List Int} {last : List UInt8}, sdN nd rc pl last L = true → ∀ (i : Nat) b, L[i]? = some b →
    ∃ low, lwA nd rc b = some low ∧ (i = 0 → Op.bytesLess last low = true) ∧ (∀ (j : Nat) c m, i = j + 1 → L[j]? = some c → lwA nd rc c = some m → Op.bytesLess m low = true)
  | [], _, _, i, b, h => by simp at h
  | c :: r, last, h, i, b, hb => by
    unfold sdN at h
    cases e : nd c with
    | none => rw [e] at h; cases h
    | some n =>
      rw [e] at h
      simp only at h
      cases el : loK rc n with
      | none => rw [el] at h; cases h
      | some low =>
        rw [el] at h
        simp only [Bool.and_eq_true] at h
        obtain ⟨⟨h1, _⟩, h3⟩ := h
        have hc : lwA nd rc c = some low := by unfold lwA; rw [e]; exact el
        match i, hb with
        | 0, hb =>
          cases hb
          exact ⟨low, hc, fun _ => h1, fun j _ _ hj => by omega⟩
        | i + 1, hb =>
          obtain ⟨lw, g1, g2, g3⟩ := sdN_get h3 i b (by simpa using hb)
          refine ⟨lw, g1, fun h => by omega, ?_⟩
          intro j d m hj hd hm
          obtain rfl : j = i := by omega
          match j, hd with
          | 0, hd =>
            cases hd
            rw [hc] at hm
            cases hm
            exact g2 rfl
          | j + 1, hd => exact g3 j d m rfl (by simpa using hd) hm
theorem sdB_get {nd : Int → Option Nd} {rc : Int → Option (Int × List UInt8)} {pl : List Int → List Int} {L : List Int} (h : sdB nd rc pl L = true) (i : Nat) (b : Int) (hb : L[i]? = some b) :
    ∃ low, lwA nd rc b = some low ∧ (low = [] ↔ i = 0) ∧ (∀ (j : Nat) c m, i = j + 1 → L[j]? = some c → lwA nd rc c = some m → Op.bytesLess m low = true) := by
  cases L with
  | nil => simp at hb
  | cons c r =>
    unfold sdB at h
    dsimp only at h
    cases e : nd c with
    | none => rw [e] at h; cases h
    | some n =>
      rw [e] at h
      simp only [Bool.and_eq_true, decide_eq_true_iff] at h
      obtain ⟨⟨h1, _⟩, h3⟩ := h
      have hc : lwA nd rc c = some [] := by unfold lwA loK; rw [e]; simp [h1]
      match i, hb with
      | 0, hb =>
        cases hb
        exact ⟨[], hc, by simp, fun j _ _ hj => by omega⟩
      | i + 1, hb =>
        obtain ⟨lw, g1, g2, g3⟩ := sdN_get h3 i b (by simpa using hb)
        have hp : ∀ (j : Nat) d m, i + 1 = j + 1 → (c :: r)[j]? = some d → lwA nd rc d = some m → Op.bytesLess m lw = true := by
          intro j d m hj hd hm
          obtain rfl : j = i := by omega
          match j, hd with
          | 0, hd =>
            cases hd
            rw [hc] at hm
            cases hm
            exact g2 rfl
          | j + 1, hd => exact g3 j d m rfl (by simpa using hd) hm
        refine ⟨lw, g1, ⟨fun hl => ?_, fun h => by omega⟩, hp⟩
        subst hl
        obtain ⟨d, hd⟩ : ∃ d, (c :: r)[i]? = some d := ⟨_, List.getElem?_eq_getElem (by have := (List.getElem?_eq_some_iff.1 hb).1; omega)⟩
        cases i with
        | zero => have := g2 rfl; rw [bl_nil] at this; cases this
        | succ i =>
          obtain ⟨m, hm, _⟩ := sdN_get h3 i d (by simpa using hd)
          have := g3 i d m rfl (by simpa using hd) hm
          rw [bl_nil] at this
          cases this
/-- What the text's own test '>' says is what the order says. -/
theorem gt_bl (a b : List UInt8) : (!(Op.bytesLess a b || a == b)) = Op.bytesLess b a := by
  by_cases e : a = b
  · subst e
    rw [bl_irrefl]
    simp
  · have : (a == b) = false := by simp [e]
    rw [this, Bool.or_false]
    cases h : Op.bytesLess a b with
    | true => rw [bl_asymm h]; rfl
    | false => rw [bl_total h e]; rfl
/-- The nodes and the records of words. -/
def ndA (zs : List Int) (b : Int) : Option Nd := if rnE zs b = 0 then some (rnN zs b) else none
def rcA (zs : List Int) (b : Int) : Option (Int × List UInt8) := if RrdE zs b = 0 then some ((rdX zs b).k, (rdX zs b).key.toList) else none
theorem nd_yes {zs : List Int} {b : Int} (h : rnE zs b = 0) : ndA zs b = some (rnN zs b) := by unfold ndA; rw [if_pos h]
theorem nd_no {zs : List Int} {b : Int} (h : rnE zs b ≠ 0) : ndA zs b = none := by unfold ndA; rw [if_neg h]
theorem nd_out {zs : List Int} {b : Int} {n : Nd} (h : ndA zs b = some n) : rnE zs b = 0 ∧ n = rnN zs b := by
  unfold ndA at h
  split at h
  · cases h; exact ⟨by assumption, rfl⟩
  · cases h
theorem rc_yes {zs : List Int} {b : Int} (h : RrdE zs b = 0) : rcA zs b = some ((rdX zs b).k, (rdX zs b).key.toList) := by unfold rcA; rw [if_pos h]
theorem rc_no {zs : List Int} {b : Int} (h : RrdE zs b ≠ 0) : rcA zs b = none := by unfold rcA; rw [if_neg h]
/-- A node of words may be, and stands in a block of theirs. -/
theorem rn_may {zs : List Int} {b : Int} (h : rnE zs b = 0) : rnK zs b = true ∧ May (rnN zs b) := by
  cases hk : rnK zs b with
  | false => rw [(rn_out hk).1] at h; omega
  | true =>
    cases ho : okB (bkL zs b) with
    | false => rw [(rn_bad hk ho).1] at h; omega
    | true =>
      rw [(rn_ok hk ho).2]
      exact ⟨rfl, (okB_out ho).1⟩
/-- The leaves of words; whether these are sound. -/
def lvA (zs : List Int) : Option (List Int) := if rdB zs then lvF (ndA zs) 300 [] 1 else none
def sndB (zs : List Int) : Bool := match lvA zs with
  | none => false
  | some L => sdB (ndA zs) (rcA zs) plN L
theorem no_list : ByteArray.empty.toList = [] := by rw [Lib.toList_data]; rfl
/-- From which key on a node is. -/
def lowS (zs : List Int) (n : Nd) : ByteArray := if n.lo = 0 then ByteArray.empty else (rdX zs n.lo).key
def lowK (zs : List Int) (n : Nd) : Bool := decide (n.lo = 0) || decide (RrdE zs n.lo = 0)
theorem low_yes {zs : List Int} {n : Nd} (h : lowK zs n = true) : loK (rcA zs) n = some (lowS zs n).toList := by
  unfold lowK at h
  unfold loK lowS
  by_cases h0 : n.lo = 0
  · rw [if_pos h0, if_pos h0, no_list]
  · rw [if_neg h0, if_neg h0, rc_yes (by simpa [h0] using h)]
    rfl
theorem low_no {zs : List Int} {n : Nd} (h : lowK zs n = false) : loK (rcA zs) n = none := by
  unfold lowK at h
  unfold loK
  simp only [Bool.or_eq_false_iff, decide_eq_false_iff_not] at h
  rw [if_neg h.1, rc_no h.2]
  rfl
end Go.Proofs.YtcgclhahonndbaaGreat
