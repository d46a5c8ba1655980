/- Layer 11: what the laws hang on, as plain data. -/
import Derived.Test.YtgcdhenbpkcmgaaAru
namespace Go.Proofs.Ytgcdhenbpkcmgaa
open Go.RowKit Go.Shelf
set_option linter.unusedVariables false

theorem nd_blk {zs ys : List Int} {b : Int} (hl : ys.length = zs.length) (h : bkL ys b = bkL zs b) : ndA ys b = ndA zs b := by
  unfold ndA rnE rnN rnK
  rw [hl, h]
theorem rc_blk {zs ys : List Int} {b : Int} (hl : ys.length = zs.length) (h : bkL ys b = bkL zs b) : rcA ys b = rcA zs b := by
  unfold rcA RrdE rdX
  rw [hl, show blk ys b.toNat = blk zs b.toNat from h]
theorem nd_far {zs : List Int} {b : Int} (h : ¬ (0 ≤ b ∧ b < nbI zs)) : ndA zs b = none := by
  refine nd_no ?_
  have : rnK zs b = false := by
    cases e : rnK zs b with
    | false => rfl
    | true => have := rnK_iff.1 e; unfold nbI at h; omega
  rw [(rn_out this).1]
  decide
theorem rc_far {zs : List Int} {b : Int} (h : ¬ (0 ≤ b ∧ b < nbI zs)) : rcA zs b = none := by
  refine rc_no ?_
  have : inB zs.length b = false := decide_eq_false h
  unfold RrdE
  rw [this]
  simp
/-- An arena whose nodes and records are the same where the leaves are, has the same leaves, and is as sound. -/
theorem snd_same {zs ys L : List Int} (hL : lvA zs = some L) (hs : sndB zs = true) (hB : rdB ys = true) (h1 : ∀ b ∈ L, ndA ys b = ndA zs b) (h2 : ∀ s ∈ reaL (ndA zs) L, rcA ys s = rcA zs s) : lvA ys = some L ∧ sndB ys = true := by
  have e : lvA ys = some L := by
    unfold lvA at hL ⊢
    rw [if_pos hB]
    split at hL
    · exact lvF_same hL h1
    · cases hL
  refine ⟨e, ?_⟩
  rw [snd_of e, sdB_same plN_sub h1 h2, ← snd_of hL]
  exact hs
theorem rea_base {zs L : List Int} (h : ∀ b ∈ L, rnE zs b = 0) : ∀ s ∈ reaL (ndA zs) L, s ∈ lfL zs L := by
  intro s hs
  unfold reaL at hs
  unfold lfL
  rw [List.mem_flatMap] at hs ⊢
  obtain ⟨b, hb, hs⟩ := hs
  refine ⟨b, hb, ?_⟩
  rw [nd_yes (h b hb)] at hs
  exact hs
theorem leaf_base {zs L : List Int} {b : Int} (hb : b ∈ L) : b ∈ lfL zs L := by
  unfold lfL
  rw [List.mem_flatMap]
  exact ⟨b, hb, by unfold rcN; simp⟩
theorem rd_out {zs : List Int} (h : rdB zs = true) : (2 ≤ nbI zs ∧ nbI zs ≤ 256 ∧ 1 ≤ rtI zs ∧ rtI zs < nbI zs) ∧ zs.take 16 = hdW (nbI zs) (rtI zs) := by
  unfold rdB at h
  rw [Bool.and_eq_true, decide_eq_true_iff] at h
  exact ⟨mbB_iff.1 h.1, h.2⟩
theorem rd_same {zs ys : List Int} (hl : ys.length = zs.length) (h : ys.take 16 = zs.take 16) (hB : rdB zs = true) : rdB ys = true := by
  have e1 : nbI ys = nbI zs := by unfold nbI; rw [hl]
  have e2 : rtI ys = rtI zs := by
    have : (ys.take 16).getD 3 0 = (zs.take 16).getD 3 0 := by rw [h]
    unfold rtI
    simpa [List.getD_eq_getElem?_getD, List.getElem?_take] using this
  unfold rdB at hB ⊢
  rw [e1, e2, h]
  exact hB
/-- Words that are the same in all that is reached. -/
theorem apart_same {zs ys L M : List Int} (hL : lvA zs = some L) (hs : sndB zs = true) (hM : RcS zs L M) (hl : ys.length = zs.length) (h : ∀ (i : Nat), i < zs.length → ((i / 16 : Nat) : Int) ∈ M → ys[i]? = zs[i]?) : lvA ys = some L ∧ sndB ys = true := by
  obtain ⟨hB, _, hok, _⟩ := lvA_out hL
  have hE : ∀ b ∈ L, rnE zs b = 0 := fun b hb => (hok b hb).2.1
  obtain ⟨hn, _⟩ := rd_out hB
  have hb : ∀ b ∈ M, bkL ys b = bkL zs b := by
    intro b hb
    have hi := hM.inn b hb
    unfold bkL
    refine List.ext_getElem? fun j => ?_
    rw [List.getElem?_take, List.getElem?_take, List.getElem?_drop, List.getElem?_drop]
    split
    · by_cases hj : 16 * b.toNat + j < zs.length
      · refine h _ hj ?_
        rw [show (((16 * b.toNat + j) / 16 : Nat) : Int) = b by omega]
        exact hb
      · rw [List.getElem?_eq_none (by omega), List.getElem?_eq_none (by omega)]
    · rfl
  have h0 : (0 : Int) ∈ M := hM.has 0 (by unfold baseL; simp) (by omega)
  have hB' : rdB ys = true := rd_same hl (by have := hb 0 h0; unfold bkL at this; simpa using this) hB
  have hin : ∀ x ∈ lfL zs L, (0 ≤ x ∧ x < nbI zs) → x ∈ M := fun x hx h9 => hM.has x (by unfold baseL; exact .tail _ hx) h9.2
  refine snd_same hL hs hB' ?_ ?_
  · intro b hb2
    by_cases hx : 0 ≤ b ∧ b < nbI zs
    · exact nd_blk hl (hb b (hin b (leaf_base hb2) hx))
    · rw [nd_far hx, nd_far (by unfold nbI at hx ⊢; rw [hl]; exact hx)]
  · intro s hs2
    by_cases hx : 0 ≤ s ∧ s < nbI zs
    · exact rc_blk hl (hb s (hin s (rea_base hE s hs2) hx))
    · rw [rc_far hx, rc_far (by unfold nbI at hx ⊢; rw [hl]; exact hx)]
theorem bk_set {zs : List Int} {b : Int} {k : Nat} (z : Int) (h : 16 * b.toNat + 16 ≤ k ∨ k < 16 * b.toNat) : bkL (zs.set k z) b = bkL zs b := by
  unfold bkL
  refine List.ext_getElem? fun j => ?_
  rw [List.getElem?_take, List.getElem?_take, List.getElem?_drop, List.getElem?_drop]
  split
  · rw [List.getElem?_set_ne (by omega)]
  · rfl
/-- Of the leaves' records, and their own nodes, each stands behind the first block. -/
theorem lf_pos {zs L : List Int} (hL : lvA zs = some L) : ∀ x ∈ lfL zs L, 1 ≤ x := by
  obtain ⟨hB, _, hok, _⟩ := lvA_out hL
  intro x hx
  unfold lfL at hx
  rw [List.mem_flatMap] at hx
  obtain ⟨b, hb, hx⟩ := hx
  obtain ⟨h0, hE, _⟩ := hok b hb
  obtain ⟨hk, hm⟩ := rn_may hE
  have hb1 := (rnK_iff.1 hk).1
  unfold rcN at hx
  rw [List.mem_cons, List.mem_append] at hx
  rcases hx with rfl | hx | hx
  · omega
  · split at hx
    · cases hx
    · rw [List.mem_singleton] at hx
      subst hx
      have := hm.w0
      omega
  · exact (hm.sl x hx).1
theorem root_rd {zs : List Int} {r : Int} (hB : rdB zs = true) (hr : 1 ≤ r ∧ r < nbI zs) : rdB (zs.set 3 r) = true ∧ rtI (zs.set 3 r) = r := by
  obtain ⟨⟨h1, h2, h3, h4⟩, h5⟩ := rd_out hB
  have hn : nbI (zs.set 3 r) = nbI zs := by unfold nbI; rw [List.length_set]
  have hlen : 32 ≤ zs.length := by unfold nbI at h1; omega
  have hrt : rtI (zs.set 3 r) = r := by
    unfold rtI
    rw [List.getD_eq_getElem?_getD, List.getElem?_set_self (by omega)]
    rfl
  refine ⟨?_, hrt⟩
  unfold rdB
  rw [hn, hrt, mbB_yes ⟨h1, h2, hr.1, hr.2⟩, Bool.true_and]
  refine decide_eq_true ?_
  rw [List.take_set, h5, hdW_eq, hdW_eq]
  rfl
/-- Whatever block is the root, the leaves are the same, and the arena is as sound. -/
theorem root_same {zs L : List Int} {r : Int} (hL : lvA zs = some L) (hs : sndB zs = true) (hr : 1 ≤ r ∧ r < nbI zs) : lvA (zs.set 3 r) = some L ∧ sndB (zs.set 3 r) = true := by
  obtain ⟨hB, _, hok, _⟩ := lvA_out hL
  have hE : ∀ b ∈ L, rnE zs b = 0 := fun b hb => (hok b hb).2.1
  refine snd_same hL hs (root_rd hB hr).1 ?_ ?_
  · intro b hb
    have := lf_pos hL b (leaf_base hb)
    exact nd_blk (List.length_set ..) (bk_set _ (.inr (by omega)))
  · intro s hs2
    have := lf_pos hL s (rea_base hE s hs2)
    exact rc_blk (List.length_set ..) (bk_set _ (.inr (by omega)))
theorem base_root {zs L : List Int} {r : Int} (hL : lvA zs = some L) : baseL (zs.set 3 r) L = baseL zs L := by
  obtain ⟨_, _, hok, _⟩ := lvA_out hL
  unfold baseL lfL
  congr 1
  rw [List.flatMap_def, List.flatMap_def]
  congr 1
  refine List.map_congr_left fun b hb => ?_
  have hp := lf_pos hL b (leaf_base hb)
  have e := nd_blk (List.length_set ..) (bk_set (zs := zs) (b := b) (k := 3) r (.inr (by omega)))
  have h1 := nd_yes (hok b hb).2.1
  rw [h1] at e
  rw [← (nd_out e).2]
/-- What leaves reach is reached, whatever block is the root. -/
theorem root_reach {zs L M N : List Int} {r : Int} (hL : lvA zs = some L) (hM : RcS (zs.set 3 r) L M) (hN : RcS (zs.set 3 1) L N) (hE : (rnN zs 1).lv = 0) : ∀ x ∈ N, x ∈ M := by
  obtain ⟨hB, _, hok, _⟩ := lvA_out hL
  obtain ⟨⟨h1, _⟩, _⟩ := rd_out hB
  have hn : ∀ q : Int, nbI (zs.set 3 q) = nbI zs := fun q => by unfold nbI; rw [List.length_set]
  have hrt : rtI (zs.set 3 1) = 1 := (root_rd hB ⟨by omega, by omega⟩).2
  have e : rnN (zs.set 3 1) 1 = rnN zs 1 := by
    have hb : bkL (zs.set 3 1) 1 = bkL zs 1 := bk_set _ (.inr (by decide))
    unfold rnN rnK
    rw [hb, List.length_set]
  have g := hN.only (.inr (by rw [hrt, e]; exact hE))
  rw [base_root hL] at g
  intro x hx
  refine hM.has x (by rw [base_root hL]; exact g x hx) ?_
  have := hN.inn x hx
  rw [hn] at this ⊢
  omega
/-- A block is no node and a record at once. -/
theorem node_rec {zs : List Int} {b : Int} (h1 : rnE zs b = 0) (h2 : RrdE zs b = 0) : False := by
  have hk := (rn_may h1).1
  have ho : okB (bkL zs b) = true := by
    cases e : okB (bkL zs b) with
    | true => rfl
    | false => rw [(rn_bad hk e).1] at h1; omega
  have hr : isR (blk zs b.toNat) = true := by
    unfold RrdE at h2
    split at h2
    · split at h2
      · assumption
      · omega
    · omega
  obtain ⟨hm, hi⟩ := okB_out ho
  obtain ⟨ho2, hi2⟩ := isR_iff.1 hr
  have e : some (hdI (guN (bkL zs b)).tu (guN (bkL zs b)).lv) = (bkL zs b)[0]? := congrArg (fun l => l[0]?) hi
  have e2 : some (gsR (blk zs b.toNat)).k = (blk zs b.toNat)[0]? := congrArg (fun l => l[0]?) hi2
  rw [show blk zs b.toNat = bkL zs b from rfl] at e2 ho2
  rw [← e] at e2
  have e3 := (Option.some.inj e2).symm
  have ht := hm.t0
  have hl := hm.l0
  unfold hdI at e3
  unfold OkR at ho2
  omega
theorem dam_bad {zs : List Int} {n j : Nat} (hn : 16 * n + 16 ≤ zs.length) (hj : j < 16) (d : Int) (hd : Sm.wd 0 (Sm.u64 d) ≠ 0) (h : isR (blk zs n) = true) : rcA (zs.set (16 * n + j) (bits .xor .i64 (zs[16 * n + j]'(by omega)) d)) (n : Int) = none := by
  refine rc_no ?_
  have hi : inB (zs.set (16 * n + j) (bits .xor .i64 (zs[16 * n + j]'(by omega)) d)).length (n : Int) = true := decide_eq_true (by rw [List.length_set]; omega)
  have h2 := only_half (blk zs n) (blk_length hn) j hj d hd h
  have e1 : (blk zs n)[j]'(by rw [blk_length hn]; exact hj) = zs[16 * n + j]'(by omega) := by simp [blk]
  have e2 : ∀ y, blk (zs.set (16 * n + j) y) n = (blk zs n).set j y := fun y => by
    unfold blk
    rw [List.drop_set, if_neg (by omega), List.take_set, show 16 * n + j - 16 * n = j by omega]
  rw [e1, ← e2] at h2
  have e : isR (blk (zs.set (16 * n + j) (bits .xor .i64 (zs[16 * n + j]'(by omega)) d)) (n : Int).toNat) = false := h2
  unfold RrdE
  rw [hi, e]
  decide
/-- A leaf's slot is a record in the arena. -/
theorem slot_rec {zs L : List Int} (hL : lvA zs = some L) (hs : sndB zs = true) {b s : Int} (hb : b ∈ L) (hsl : s ∈ (rnN zs b).sl) : RrdE zs s = 0 := by
  obtain ⟨_, _, hok, _⟩ := lvA_out hL
  by_cases h : RrdE zs s = 0
  · exact h
  · have := sdB_damage (nd := ndA zs) (rc := rcA zs) (pl := plN) (nd_yes (hok b hb).2.1) (plN_has _ s hsl) (rc_no h) hb
    rw [← snd_of hL, hs] at this
    cases this
theorem rec_in {zs : List Int} {s : Int} (h : RrdE zs s = 0) : 0 ≤ s ∧ 16 * s.toNat + 16 ≤ zs.length ∧ isR (blk zs s.toNat) = true := by
  unfold RrdE at h
  split at h
  · rename_i hi
    have := of_decide_eq_true hi
    split at h
    · exact ⟨by omega, by omega, by assumption⟩
    · omega
  · omega
/-- Of a sound arena of which one half of a word of a leaf's record was changed the arena is sound no longer. -/
theorem dam_snd {zs L : List Int} (hL : lvA zs = some L) (hs : sndB zs = true) {b : Int} {n j : Nat} (hb : b ∈ L) (hsl : (n : Int) ∈ (rnN zs b).sl) (hn : 16 * n + 16 ≤ zs.length) (hj : j < 16) (d : Int) (hd : Sm.wd 0 (Sm.u64 d) ≠ 0) :
    sndB (zs.set (16 * n + j) (bits .xor .i64 (zs[16 * n + j]'(by omega)) d)) = false := by
  obtain ⟨hB, _, hok, _⟩ := lvA_out hL
  have hr := slot_rec hL hs hb hsl
  have hi := (rec_in hr).2.2
  have h1 := (rn_may (hok b hb).2.1).2.sl _ hsl
  have hbad := dam_bad hn hj d hd hi
  generalize bits .xor .i64 (zs[16 * n + j]'(by omega)) d = y at *
  have hlen : (zs.set (16 * n + j) y).length = zs.length := List.length_set ..
  have hsame : ∀ c ∈ L, ndA (zs.set (16 * n + j) y) c = ndA zs c := by
    intro c hc
    have hcE := (hok c hc).2.1
    have hc0 := (rnK_iff.1 (rn_may hcE).1).1
    have hne : c ≠ (n : Int) := by
      rintro rfl
      exact node_rec hcE hr
    exact nd_blk hlen (bk_set _ (by omega))
  have hB' : rdB (zs.set (16 * n + j) y) = true := rd_same hlen (by rw [List.take_set_of_le (by omega)]) hB
  have e : lvA (zs.set (16 * n + j) y) = some L := by
    have hL' := hL
    unfold lvA at hL' ⊢
    rw [if_pos hB']
    rw [if_pos hB] at hL'
    exact lvF_same hL' hsame
  rw [snd_of e]
  exact sdB_damage (n := rnN zs b) (by rw [hsame b hb]; exact nd_yes (hok b hb).2.1) (plN_has _ _ hsl) hbad hb
/-- From which key on a leaf of a sound arena is. -/
theorem low_get {zs L : List Int} (hL : lvA zs = some L) (hs : sndB zs = true) {i : Nat} {b : Int} (hb : L[i]? = some b) :
    loE zs b = 0 ∧ ((loS zs b).toList = [] ↔ i = 0) ∧ ∀ (j : Nat) c, i = j + 1 → L[j]? = some c → Op.bytesLess (loS zs c).toList (loS zs b).toList = true := by
  obtain ⟨_, _, hok, _⟩ := lvA_out hL
  have key : ∀ c ∈ L, ∀ m, lwA (ndA zs) (rcA zs) c = some m → loE zs c = 0 ∧ (loS zs c).toList = m := by
    intro c hc m hm
    have hE := (hok c hc).2.1
    unfold lwA at hm
    rw [nd_yes hE] at hm
    simp only at hm
    cases hK : lowK zs (rnN zs c) with
    | false => rw [low_no hK] at hm; cases hm
    | true =>
      rw [low_yes hK] at hm
      unfold loE loS
      rw [if_pos ⟨hE, hK⟩, if_pos ⟨hE, hK⟩]
      exact ⟨rfl, Option.some.inj hm⟩
  have hs' := hs
  rw [snd_of hL] at hs'
  obtain ⟨low, g1, g2, g3⟩ := sdB_get hs' i b hb
  obtain ⟨k1, k2⟩ := key b (List.mem_of_getElem? hb) low g1
  refine ⟨k1, by rw [k2]; exact g2, ?_⟩
  intro j c hj hc
  obtain ⟨m, q1, _⟩ := sdB_get hs' j c hc
  rw [k2, (key c (List.mem_of_getElem? hc) m q1).2]
  exact g3 j c m hj hc q1
end Go.Proofs.Ytgcdhenbpkcmgaa
