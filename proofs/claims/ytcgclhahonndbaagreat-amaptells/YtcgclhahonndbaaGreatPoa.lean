/- Pairs of an arena as plain data: no program. · Layer 12: a leaf's own records: rows of records; the first place that is told among them. -/
import Derived.Test.YtcgclhahonndbaaGreatXNNoda
import Derived.Test.YtcgclhahonndbaaGreatAmnum
import Derived.Test.YtcgclhahonndbaaGreatPai
namespace Go.Proofs.YtcgclhahonndbaaGreat
open Go.RowKit Go.Shelf
set_option linter.unusedVariables false

/-- The pair of a record, those of a leaf's slots, a leaf's own ones, and all. -/
def rcP (zs : List Int) (s : Int) : Pa := ⟨(rdX zs s).key, (rdX zs s).val⟩
def kvL (zs : List Int) (b : Int) : List Pa := (plN (rnN zs b).sl).map (rcP zs)
def ownR (zs : List Int) (b : Int) : List Int → List Pa
  | [] => kvL zs b
  | c :: _ => (kvL zs b).filter fun p => tL p.k (loS zs c)
def prsR (zs : List Int) : List Int → List Pa
  | [] => []
  | b :: r => ownR zs b r ++ prsR zs r
/-- Leaves whose keys rise, none ahead of the key from which on they are, which rise too. -/
def Gd (zs : List Int) : List Int → Prop
  | [] => True
  | b :: r => (Ri (kvL zs b) ∧ ∀ p ∈ kvL zs b, tL p.k (loS zs b) = false) ∧ (∀ c ∈ r, tL (loS zs b) (loS zs c) = true) ∧ Gd zs r
theorem rcA_key {zs : List Int} {s k : Int} {key : List UInt8} (h : rcA zs s = some (k, key)) : key = (rcP zs s).k.toList := by
  unfold rcA at h
  split at h
  · cases h; rfl
  · cases h
theorem lfN_ri {zs : List Int} : ∀ {l : List Int} {last : List UInt8}, lfN (rcA zs) last l = true → Ri (l.map (rcP zs))
  | [], _, _ => by unfold Ri; simp
  | t :: r, last, h => by
    unfold lfN at h
    cases e : rcA zs t with
    | none => rw [e] at h; cases h
    | some x =>
      obtain ⟨k, key⟩ := x
      rw [e] at h
      simp only [Bool.and_eq_true, decide_eq_true_iff] at h
      have hk := rcA_key e
      unfold Ri
      rw [List.map_cons, List.pairwise_cons]
      refine ⟨fun p hp => ?_, lfN_ri h.2⟩
      obtain ⟨s, hs, rfl⟩ := List.mem_map.1 hp
      obtain ⟨key2, e2, h2⟩ := lfN_mem h.2 s hs
      unfold tL
      rw [← hk, ← rcA_key e2]
      exact h2
theorem lfB_ri {zs : List Int} {l : List Int} {low : List UInt8} (h : lfB (rcA zs) low l = true) : Ri (l.map (rcP zs)) ∧ ∀ p ∈ l.map (rcP zs), Op.bytesLess p.k.toList low = false := by
  refine ⟨?_, fun p hp => ?_⟩
  · cases l with
    | nil => unfold Ri; simp
    | cons t r =>
      unfold lfB at h
      dsimp only at h
      cases e : rcA zs t with
      | none => rw [e] at h; cases h
      | some x =>
        obtain ⟨k, key⟩ := x
        rw [e] at h
        simp only [Bool.and_eq_true, decide_eq_true_iff] at h
        have hk := rcA_key e
        unfold Ri
        rw [List.map_cons, List.pairwise_cons]
        refine ⟨fun p hp => ?_, lfN_ri h.2⟩
        obtain ⟨s, hs, rfl⟩ := List.mem_map.1 hp
        obtain ⟨key2, e2, h2⟩ := lfN_mem h.2 s hs
        unfold tL
        rw [← hk, ← rcA_key e2]
        exact h2
  · obtain ⟨s, hs, rfl⟩ := List.mem_map.1 hp
    obtain ⟨key2, e2, h2⟩ := lfB_mem h s hs
    rw [← rcA_key e2]
    exact h2
theorem sdN_lf {nd : Int → Option Nd} {rc : Int → Option (Int × List UInt8)} {pl : List Int → List Int} : ∀ {L : List Int} {last : List UInt8}, sdN nd rc pl last L = true → ∀ b ∈ L, ∃ n low, nd b = some n ∧ loK rc n = some low ∧ lfB rc low (pl n.sl) = true
  | [], _, _, b, hb => by cases hb
  | c :: r, last, h, b, hb => by
    unfold sdN at h
    cases e : nd c with
    | none => rw [e] at h; cases h
    | some n =>
      rw [e] at h
      simp only at h
      cases el : loK rc n with
      | none => rw [el] at h; cases h
      | some low =>
        rw [el] at h
        simp only [Bool.and_eq_true] at h
        rw [List.mem_cons] at hb
        rcases hb with rfl | hb
        · exact ⟨n, low, e, el, h.1.2⟩
        · exact sdN_lf h.2 b hb
theorem sdB_lf {nd : Int → Option Nd} {rc : Int → Option (Int × List UInt8)} {pl : List Int → List Int} {L : List Int} (h : sdB nd rc pl L = true) : ∀ b ∈ L, ∃ n low, nd b = some n ∧ loK rc n = some low ∧ lfB rc low (pl n.sl) = true := by
  intro b hb
  cases L with
  | nil => cases hb
  | cons c r =>
    unfold sdB at h
    dsimp only at h
    cases e : nd c with
    | none => rw [e] at h; cases h
    | some n =>
      rw [e] at h
      simp only [Bool.and_eq_true, decide_eq_true_iff] at h
      rw [List.mem_cons] at hb
      rcases hb with rfl | hb
      · exact ⟨n, [], e, by unfold loK; rw [if_pos h.1.1], h.1.2⟩
      · exact sdN_lf h.2 b hb
/-- A leaf of a sound arena: its keys rise, and none stands ahead of the key from which on it is. -/
theorem leaf_ri {zs L : List Int} (hL : lvA zs = some L) (hs : sndB zs = true) {b : Int} (hb : b ∈ L) : Ri (kvL zs b) ∧ ∀ p ∈ kvL zs b, tL p.k (loS zs b) = false := by
  have hs' := hs
  rw [snd_of hL] at hs'
  obtain ⟨n, low, h1, h2, h3⟩ := sdB_lf hs' b hb
  obtain ⟨hE, rfl⟩ := nd_out h1
  have hK : lowK zs (rnN zs b) = true := by
    cases e : lowK zs (rnN zs b) with
    | true => rfl
    | false => rw [low_no e] at h2; cases h2
  have hl : low = (loS zs b).toList := by
    rw [low_yes hK] at h2
    unfold loS
    rw [if_pos ⟨hE, hK⟩]
    exact (Option.some.inj h2).symm
  obtain ⟨g1, g2⟩ := lfB_ri h3
  refine ⟨g1, fun p hp => ?_⟩
  unfold tL
  rw [← hl]
  exact g2 p hp
theorem rise_at {zs L : List Int} (hL : lvA zs = some L) (hs : sndB zs = true) : ∀ (n i : Nat) {b c : Int}, L[i]? = some b → L[i + (n + 1)]? = some c → tL (loS zs b) (loS zs c) = true
  | 0, i, b, c, hb, hc => (low_get hL hs hc).2.2 i b rfl hb
  | n + 1, i, b, c, hb, hc => by
    obtain ⟨d, hd⟩ : ∃ d, L[i + (n + 1)]? = some d := ⟨_, List.getElem?_eq_getElem (by have := (List.getElem?_eq_some_iff.1 hc).1; omega)⟩
    exact tL_tr (rise_at hL hs n i hb hd) ((low_get hL hs hc).2.2 (i + (n + 1)) d (by omega) hd)
theorem gd_drop {zs L : List Int} (hL : lvA zs = some L) (hs : sndB zs = true) : ∀ (n : Nat) (i : Nat), L.length - i = n → Gd zs (L.drop i)
  | 0, i, h => by rw [List.drop_eq_nil_of_le (by omega)]; trivial
  | n + 1, i, h => by
    have hi : i < L.length := by omega
    rw [List.drop_eq_getElem_cons hi]
    have hb : L[i]? = some L[i] := List.getElem?_eq_getElem hi
    refine ⟨leaf_ri hL hs (List.getElem_mem hi), fun c hc => ?_, gd_drop hL hs n (i + 1) (by omega)⟩
    obtain ⟨j, hj⟩ := List.getElem?_of_mem hc
    rw [List.getElem?_drop] at hj
    exact rise_at hL hs j i hb (by rw [show i + (j + 1) = i + 1 + j by omega]; exact hj)
theorem gd_of {zs L : List Int} (hL : lvA zs = some L) (hs : sndB zs = true) : Gd zs L := by
  have := gd_drop hL hs L.length 0 rfl
  rwa [List.drop_zero] at this
theorem own_sub {zs : List Int} {b : Int} {r : List Int} : ∀ p ∈ ownR zs b r, p ∈ kvL zs b := by
  intro p hp
  cases r with
  | nil => exact hp
  | cons c r => exact (List.mem_filter.1 hp).1
theorem own_ri {zs : List Int} {b : Int} {r : List Int} (h : Ri (kvL zs b)) : Ri (ownR zs b r) := by
  cases r with
  | nil => exact h
  | cons c r => exact h.sublist List.filter_sublist
/-- All pairs rise, and none stands ahead of the key from which on the first leaf is. -/
theorem prs_ri {zs : List Int} : ∀ {L : List Int}, Gd zs L → Ri (prsR zs L) ∧ ∀ p ∈ prsR zs L, ∀ b, L.head? = some b → tL p.k (loS zs b) = false
  | [], _ => ⟨by unfold Ri prsR; simp, fun p hp => by cases hp⟩
  | b :: r, h => by
    obtain ⟨⟨h1, h2⟩, h3, h4⟩ := h
    obtain ⟨g1, g2⟩ := prs_ri h4
    refine ⟨?_, fun p hp c hc => ?_⟩
    · unfold prsR Ri
      rw [List.pairwise_append]
      refine ⟨own_ri h1, g1, fun p hp q hq => ?_⟩
      cases r with
      | nil => cases hq
      | cons c r => exact tL_lt_le (List.mem_filter.1 hp).2 (g2 q hq c rfl)
    · have hc : b = c := by simpa using hc
      subst hc
      unfold prsR at hp
      rw [List.mem_append] at hp
      rcases hp with hp | hp
      · exact h2 p (own_sub p hp)
      · cases r with
        | nil => cases hp
        | cons c r => exact tL_as (tL_lt_le (h3 c (.head _)) (g2 p hp c rfl))
theorem geP_append : ∀ (l m : List Pa) (key : ByteArray), geP (l ++ m) key = (geP l key).or (geP m key)
  | [], m, key => by simp [geP]
  | p :: l, m, key => by
    rw [List.cons_append, geP_cons, geP_cons]
    split
    · rfl
    · exact geP_append l m key
/-- A key is got from all pairs just as from the own ones of the leaf that may have it. -/
theorem get_at {zs : List Int} {key : ByteArray} {b : Int} {r : List Int} (hb : tL key (loS zs b) = false) (hr : ∀ c ∈ r, tL key (loS zs c) = true) : ∀ {A : List Int}, Gd zs (A ++ b :: r) → geP (prsR zs (A ++ b :: r)) key = geP (ownR zs b r) key
  | [], h => by
    obtain ⟨_, _, h4⟩ := h
    rw [List.nil_append]
    unfold prsR
    rw [geP_append]
    have : geP (prsR zs r) key = none := geP_none.2 fun p hp e => by
      cases r with
      | nil => cases hp
      | cons c r =>
        have := (prs_ri h4).2 p hp c rfl
        rw [e, hr c (.head _)] at this
        cases this
    rw [this, Option.or_none]
  | a :: A, h => by
    obtain ⟨_, h3, h4⟩ := h
    rw [List.cons_append]
    unfold prsR
    rw [geP_append]
    have : geP (ownR zs a (A ++ b :: r)) key = none := geP_none.2 fun p hp e => by
      cases A with
      | nil =>
        have h5 : tL p.k (loS zs b) = true := (List.mem_filter.1 hp).2
        rw [e, hb] at h5
        cases h5
      | cons c A =>
        have h5 : tL p.k (loS zs c) = true := (List.mem_filter.1 hp).2
        have h6 : tL (loS zs c) (loS zs b) = true := h4.2.1 b (by simp)
        have h7 := tL_tr h5 h6
        rw [e, hb] at h7
        cases h7
    rw [this, Option.none_or]
    exact get_at hb hr h4
/-- Each leaf's Next is the next leaf, or 0. -/
def Chn (nd : Int → Option Nd) : Int → List Int → Prop
  | x, [] => x = 0
  | x, b :: r => x = b ∧ b ≠ 0 ∧ ∃ n, nd b = some n ∧ Chn nd n.nx r
theorem lvF_chn {nd : Int → Option Nd} : ∀ {f : Nat} {out : List Int} {x : Int} {L : List Int}, lvF nd f out x = some L → ∃ M, L = out ++ M ∧ Chn nd x M
  | f, out, x, L, h => by
    by_cases h0 : x = 0
    · subst h0
      rw [lvF_end] at h
      cases h
      exact ⟨[], by simp, rfl⟩
    · cases f with
      | zero => simp [lvF, h0] at h
      | succ f =>
        cases e : nd x with
        | none => rw [lvF_bad h0 (by rw [e]; simp)] at h; cases h
        | some n =>
          by_cases hl : n.lv = 0
          · by_cases hn : x ∈ out
            · rw [lvF_bad h0 (fun _ _ _ => hn)] at h; cases h
            · rw [lvF_step h0 e hl hn] at h
              obtain ⟨M, h1, h2⟩ := lvF_chn h
              exact ⟨x :: M, by rw [h1]; simp, rfl, h0, n, e, h2⟩
          · rw [lvF_bad h0 (fun m hm h => absurd h (by rw [e] at hm; cases hm; exact hl))] at h; cases h
theorem chn_at {nd : Int → Option Nd} : ∀ {M : List Int} {x : Int}, Chn nd x M → ∀ (i : Nat) b, M[i]? = some b → ∃ n, nd b = some n ∧ n.nx = (M[i + 1]?).getD 0
  | [], _, _, i, b, hb => by simp at hb
  | c :: r, x, h, 0, b, hb => by
    cases hb
    obtain ⟨_, _, n, h1, h2⟩ := h
    refine ⟨n, h1, ?_⟩
    cases r with
    | nil => exact h2
    | cons d r => exact h2.1
  | c :: r, x, h, i + 1, b, hb => by
    obtain ⟨_, _, n, _, h2⟩ := h
    obtain ⟨m, h3, h4⟩ := chn_at h2 i b (by simpa using hb)
    exact ⟨m, h3, by simpa using h4⟩
theorem leaf_next {zs L : List Int} (hL : lvA zs = some L) {i : Nat} {b : Int} (hb : L[i]? = some b) : (rnN zs b).nx = (L[i + 1]?).getD 0 := by
  unfold lvA at hL
  split at hL
  · obtain ⟨M, rfl, h⟩ := lvF_chn hL
    try rw [List.nil_append] at hb ⊢
    obtain ⟨n, h1, h2⟩ := chn_at h i b hb
    rw [← h2, (nd_out h1).2]
  · cases hL
end Go.Proofs.YtcgclhahonndbaaGreat
namespace Go.Proofs.YtcgclhahonndbaaGreat
open Go.RowKit Go.Shelf
set_option linter.unusedVariables false

/-- The cells of records. -/
def rx1 (x : Rc) : List Value := [.int .i64 x.k, .string x.key, .string x.val, .int .i64 x.ch]
def rxs (l : List Rc) : List Value := l.flatMap rx1
theorem rxs_length (l : List Rc) : (rxs l).length = l.length * 4 := by
  induction l with
  | nil => rfl
  | cons p ps ih => simp only [rxs, List.flatMap_cons, List.length_append, List.length_cons] at *; rw [ih]; simp [rx1]; omega
theorem rxs_append (ps qs : List Rc) : rxs (ps ++ qs) = rxs ps ++ rxs qs := by simp [rxs]
theorem rxs_at (ps : List Rc) (k : Nat) (hk : k < ps.length) (i : Nat) (hi : i < 4) : (rxs ps)[k * 4 + i]? = (rx1 (ps[k]'hk))[i]? := by
  induction ps generalizing k with
  | nil => simp at hk
  | cons p ps ih =>
    have e : rxs (p :: ps) = rx1 p ++ rxs ps := by simp [rxs]
    rw [e]
    cases k with
    | zero =>
      rw [Nat.zero_mul, Nat.zero_add, List.getElem?_append_left (by simp [rx1]; omega)]
      rfl
    | succ k =>
      rw [List.getElem?_append_right (by simp [rx1]; omega)]
      have : (k + 1) * 4 + i - (rx1 p).length = k * 4 + i := by simp [rx1]; omega
      rw [this, ih k (by simpa using hk)]
      rfl
theorem rx1_one (x : Rc) : ∀ u ∈ rx1 x, u.oneCell' = true := by
  intro u hu
  simp only [rx1, List.mem_cons, List.not_mem_nil, or_false] at hu
  rcases hu with rfl | rfl | rfl | rfl <;> rfl
/-- A block of records, which has these first. -/
structure BkR (W : World) (g : Nat) (D : List Rc) : Prop where
  blk : ∃ cur, W.heap[g]? = some (.cells cur 40 (0, 0))
  at' : ∀ k x, D[k]? = some x → W.cell? ⟨g, k * 4, none⟩ = some (.int .i64 x.k) ∧ W.cell? ⟨g, k * 4 + 1, none⟩ = some (.string x.key) ∧ W.cell? ⟨g, k * 4 + 2, none⟩ = some (.string x.val) ∧ W.cell? ⟨g, k * 4 + 3, none⟩ = some (.int .i64 x.ch)
theorem BkR.lt {W : World} {g : Nat} {D : List Rc} (h : BkR W g D) : g < W.heap.size := by
  obtain ⟨cur, h⟩ := h.blk
  exact (Array.getElem?_eq_some_iff.1 h).1
/-- Whatever keeps the block keeps the records. -/
theorem BkR.of_blk {W W' : World} {g : Nat} {D : List Rc} (h : BkR W g D) (hb : ∀ cs fz, W.heap[g]? = some (.cells cs 40 fz) → W'.heap[g]? = some (.cells cs 40 fz)) : BkR W' g D := by
  obtain ⟨cur, h1⟩ := h.blk
  have h2 := hb _ _ h1
  have hc : ∀ j, W'.cell? ⟨g, j, none⟩ = W.cell? ⟨g, j, none⟩ := fun j => by simp [World.cell?, h1, h2]
  refine ⟨⟨cur, h2⟩, fun k x hx => ?_⟩
  rw [hc, hc, hc, hc]
  exact h.at' k x hx
theorem BkR.below {W W' : World} {g : Nat} {D : List Rc} (h : BkR W g D) (hb : Below W.heap.size W W') : BkR W' g D :=
  h.of_blk fun cs fz hc => (hb.block g h.lt).trans hc
theorem BkR.take {W : World} {g : Nat} {D : List Rc} (h : BkR W g D) (i : Nat) : BkR W g (D.take i) := by
  refine ⟨h.blk, fun k p hp => ?_⟩
  rw [List.getElem?_take] at hp
  split at hp
  · exact h.at' k p hp
  · cases hp
/-- A row of records of the call's own, or a beginning of one. -/
def OwR (W : World) (base : Nat) (v : Value) (D : List Rc) : Prop := ∃ a c, v = .slice a D.length c ∧ D.length ≤ c ∧ c ≤ maxLen ∧ ((D = [] ∧ (a = none → c = 0)) ∨ ∃ g, a = some ⟨g, 0, none⟩ ∧ base ≤ g ∧ BkR W g D)
theorem OwR.below {W W' : World} {base : Nat} {v : Value} {D : List Rc} (h : OwR W base v D) (hb : Below W.heap.size W W') : OwR W' base v D := by
  obtain ⟨a, c, e, h1, h2, h3⟩ := h
  refine ⟨a, c, e, h1, h2, ?_⟩
  rcases h3 with h | ⟨g, e, h4, h5⟩
  · exact .inl h
  · exact .inr ⟨g, e, h4, h5.below hb⟩
theorem OwR.of_own {W : World} {base : Nat} {v : Value} {D : List Rc} (h : W.ownsRow base 40 4 v D.length (rxs D)) : OwR W base v D := by
  have h0 := h
  rcases h.2 with ⟨rfl, e⟩ | ⟨g, cap, cur, rfl, hg, hgb, hncap, hmax, hsz, htk⟩
  · exact ⟨none, 0, by rw [e], by omega, by unfold maxLen; omega, .inl ⟨List.eq_nil_of_length_eq_zero e, fun _ => rfl⟩⟩
  · refine ⟨_, _, rfl, hncap, hmax, .inr ⟨g, rfl, hg, ⟨cur, hgb⟩, fun k x hx => ?_⟩⟩
    obtain ⟨hk, rfl⟩ := List.getElem?_eq_some_iff.1 hx
    have key : ∀ (i : Nat) u, i < 4 → (rx1 D[k])[i]? = some u → W.cell? ⟨g, k * 4 + i, none⟩ = some u := fun i u hi hu => by
      have := h0.cells rfl (k * 4 + i) u (by rw [rxs_at D k hk i hi]; exact hu)
      rwa [Addr.add_lit, Nat.zero_add] at this
    exact ⟨key 0 _ (by omega) rfl, key 1 _ (by omega) rfl, key 2 _ (by omega) rfl, key 3 _ (by omega) rfl⟩
theorem Tryz.info40 : (Tryz.prog.info? 40).map (fun i => (i.zero, i.size, i.bytes)) = some (some (.agg #[.int .i64 0, .string ⟨#[]⟩, .string ⟨#[]⟩, .int .i64 0]), 4, 48) := by kernel_rfl
theorem lit_rdc (W : World) (t : TypeId) (cs : List Value) (k b : Nat) (h : cs.length = k) (hb : b = W.heap.size) : RdC (W.alloc (.cells cs.toArray t)) k (.slice (some ⟨b, 0, none⟩) 1 1) 1 cs := by
  subst hb
  refine ⟨by omega, by omega, _, _, rfl, Nat.le_refl _, .inr ⟨W.heap.size, 0, rfl, by simp, fun j u hu => ?_⟩⟩
  have := World.cell?_alloc_at (w := W) cs.toArray t W.heap.size (0 + j) rfl
  rw [this, Nat.zero_add]
  simpa using hu
theorem take_nextR {α : Type} {l : List α} {k : Nat} {x : α} (h : l[k]? = some x) : l.take (k + 1) = l.take k ++ [x] := by
  obtain ⟨hk, rfl⟩ := List.getElem?_eq_some_iff.1 h
  exact List.take_succ_eq_append_getElem hk

set_option maxRecDepth 100000 in
set_option maxHeartbeats 1000000 in
theorem placeR_any (g : Nat) (lb : Array Value) (test : Rc → Bool) (eg : ∀ args w, (callFunc g args).run Tryz.prog w = .ok (.enter g args) w) (base : Nat) (v : Value) (l : List Rc) (w : World) (hR : OwR w base v l)
    (hT : ∀ (p : Rc) (W : World), Below w.heap.size w W → Calls Tryz.prog g (#[.agg #[.int .i64 p.k, .string p.key, .string p.val, .int .i64 p.ch]] ++ lb) W fun e w' => e = .returned (.bool (test p)) ∧ Below W.heap.size W w') :
    Calls Tryz.prog 98 #[v, .func (.func g) #[] lb] w fun e w' => e = .returned (.int .i64 (fiG test l : Nat)) ∧ Below w.heap.size w w' := by
  have HR : Hid (OwR w base v l) := hR
  obtain ⟨a, cap, rfl, hc, hm, h3⟩ := hR
  have HT : Hid (∀ (p : Rc) (W : World), Below w.heap.size w W → Calls Tryz.prog g (#[.agg #[.int .i64 p.k, .string p.key, .string p.val, .int .i64 p.ch]] ++ lb) W fun e w' => e = .returned (.bool (test p)) ∧ Below W.heap.size W w') := hT
  clear h3 hT
  unfold maxLen at hm
  go_enter Tryz.func98, Tryz.ntmps98
  go_wp2
  go_loopw [9] (fun i wr => ∃ k : Nat, k ≤ l.length ∧ i = .int .i64 k ∧ (∀ j p, j < k → l[j]? = some p → test p = false) ∧ Below w.heap.size w wr) (fun i _ => l.length - (Go.RowKit.intOf i).toNat)
  case atStart => exact ⟨0, Nat.zero_le _, rfl, fun j p hj => by omega, Below.refl _ _⟩
  case round =>
    obtain ⟨k, hk, rfl, hno, hbel⟩ := hrel
    have HN : Hid (∀ j p, j < k → l[j]? = some p → test p = false) := hno
    have HB : Hid (Below w.heap.size w wr) := hbel
    clear hno hbel
    by_cases hlt : k < l.length
    · have hltI : (k : Int) < (l.length : Int) := by omega
      obtain ⟨x, hx⟩ : ∃ x, l[k]? = some x := ⟨_, List.getElem?_eq_getElem hlt⟩
      obtain ⟨a', c', e', _, _, h3⟩ := HR.out.below HB.out
      cases e'
      rcases h3 with ⟨h0, _⟩ | ⟨b, rfl, _, hbk⟩
      · rw [h0] at hlt; simp at hlt
      obtain ⟨x0, x1, x2, x3⟩ := hbk.at' k x hx
      have Hx : Hid (l[k]? = some x) := hx
      have C := HT.out x (wr.alloc (.cells #[.int .i64 x.k, .string x.key, .string x.val, .int .i64 x.ch] 40)) (pal HB.out _)
      clear hx hbk
      cases ht : test x with
      | true =>
        rw [ht] at C
        have HC := C
        have Hf : Hid (fiG test l = k) := fiG_hit HN.out Hx.out ht
        clear ht C
        go_wp2_with (go_at_fn g; refine HC.mono ?_; rintro e w' ⟨rfl, hb⟩)
        go_ret
        exact ⟨ret_int (by rw [Hf.out]), bstep (pal HB.out _) hb⟩
      | false =>
        rw [ht] at C
        have HC := C
        have Hn : Hid (∀ j p, j < k + 1 → l[j]? = some p → test p = false) := fun j p hj hp => by
          by_cases e : j = k
          · subst e
            rw [Hx.out] at hp
            cases hp
            exact ht
          · exact HN.out j p (by omega) hp
        clear ht C
        go_wp2_with (go_at_fn g; refine HC.mono ?_; rintro e w' ⟨rfl, hb⟩)
        go_roundw
        case rel => exact ⟨k + 1, by omega, by go_num, Hn.out, bstep (pal HB.out _) hb⟩
        case measure => simp [Go.RowKit.intOf]; omega
    · have hge : ¬ (k : Int) < (l.length : Int) := by omega
      have Hf : Hid (fiG test l = l.length) := fiG_none fun p hp => by
        obtain ⟨j, hj⟩ := List.getElem?_of_mem hp
        have hj' := (List.getElem?_eq_some_iff.1 hj).1
        exact HN.out j p (by omega) hj
      go_wp2
      go_ret
      exact ⟨ret_int (by rw [Hf.out]), HB.out⟩
theorem ge_any (p : Rc) (key : ByteArray) (b : Nat) (w : World) (hc : w.cell? ⟨b, 0, none⟩ = some (.string key)) : Calls Tryz.prog 99 (#[.agg #[.int .i64 p.k, .string p.key, .string p.val, .int .i64 p.ch]] ++ #[.pointer (some ⟨b, 0, none⟩)]) w fun e w' => e = .returned (.bool (!tL p.key key)) ∧ Below w.heap.size w w' := by
  have hlt := World.block_lt_of_cell? _ _ hc
  go_enter Tryz.func99, Tryz.ntmps99
  go_wp2
  go_ret
  exact ⟨ret_bool rfl, (Below.refl _ _).alloc (Nat.le_refl _) _⟩
end Go.Proofs.YtcgclhahonndbaaGreat
