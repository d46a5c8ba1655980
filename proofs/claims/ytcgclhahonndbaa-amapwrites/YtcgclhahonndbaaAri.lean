/- Set over from a lower layer: Ari. -/
import Derived.Test.YtcgclhahonndbaaArg
import Derived.Test.YtcgclhahonndbaaArh
namespace Go.Proofs.Ytcgclhahonndbaa
open Go.RowKit Go.Shelf
set_option linter.unusedVariables false
theorem lfC_len (zs : List Int) (p : Int × Value) : (lfC zs p).length = 6 := rfl
theorem flat_at (zs : List Int) : ∀ (P : List (Int × Value)) (k : Nat) (p : Int × Value) (j : Nat), P[k]? = some p → j < 6 → (P.flatMap (lfC zs))[k * 6 + j]? = (lfC zs p)[j]?
  | [], k, p, j, h, _ => by simp at h
  | q :: P, 0, p, j, h, hj => by
    cases h
    rw [List.flatMap_cons, Nat.zero_mul, Nat.zero_add, List.getElem?_append_left (by rw [lfC_len]; exact hj)]
  | q :: P, k + 1, p, j, h, hj => by
    rw [List.flatMap_cons, List.getElem?_append_right (by rw [lfC_len]; omega), lfC_len, show (k + 1) * 6 + j - 6 = k * 6 + j by omega]
    exact flat_at zs P k p j (by simpa using h) hj
/-- A leaf in the row. -/
theorem Lv.get {zs : List Int} {W : World} {base : Nat} {v : Value} {P : List (Int × Value)} (h : Lv zs W base v P) {k : Nat} {b : Int} {u : Value} (hk : P[k]? = some (b, u)) :
    ∃ g off c, v = .slice (some ⟨g, off, none⟩) P.length c ∧ W.cell? ⟨g, off + k * 6, none⟩ = some (.int .i64 (rnN zs b).lv) ∧ W.cell? ⟨g, off + k * 6 + 1, none⟩ = some (.int .i64 (rnN zs b).tu) ∧ W.cell? ⟨g, off + k * 6 + 2, none⟩ = some (.int .i64 (rnN zs b).nx) ∧ W.cell? ⟨g, off + k * 6 + 3, none⟩ = some (.int .i64 (rnN zs b).lo) ∧ W.cell? ⟨g, off + k * 6 + 4, none⟩ = some u ∧ W.cell? ⟨g, off + k * 6 + 5, none⟩ = some (.int .i64 b) := by
  obtain ⟨hlt, _⟩ := List.getElem?_eq_some_iff.1 hk
  rcases h.own.2 with ⟨rfl, h0⟩ | ⟨g, cap, cur, rfl, hrest⟩
  · omega
  · have hc : ∀ j x, (P.flatMap (lfC zs))[j]? = some x → W.cell? ⟨g, 0 + j, none⟩ = some x := fun j x hx => by
      have := World.ownsRow.cells h.own rfl j x hx
      rwa [Addr.add_lit] at this
    refine ⟨g, 0, cap, rfl, ?_, ?_, ?_, ?_, ?_, ?_⟩
    · exact hc (k * 6 + 0) _ (flat_at zs P k _ 0 hk (by omega))
    · exact hc (k * 6 + 1) _ (flat_at zs P k _ 1 hk (by omega))
    · exact hc (k * 6 + 2) _ (flat_at zs P k _ 2 hk (by omega))
    · exact hc (k * 6 + 3) _ (flat_at zs P k _ 3 hk (by omega))
    · exact hc (k * 6 + 4) _ (flat_at zs P k _ 4 hk (by omega))
    · exact hc (k * 6 + 5) _ (flat_at zs P k _ 5 hk (by omega))
/-- A leaf in a block of its own. -/
def Lb (W : World) (g : Nat) (lv tu nx lo : Int) (u : Value) (b : Int) : Prop := W.heap[g]? = some (.cells #[.int .i64 lv, .int .i64 tu, .int .i64 nx, .int .i64 lo, u, .int .i64 b] 60 (0, 0))
theorem Lb.lt {W : World} {g : Nat} {lv tu nx lo b : Int} {u : Value} (h : Lb W g lv tu nx lo u b) : g < W.heap.size := (Array.getElem?_eq_some_iff.1 h).1
theorem Lb.below {W W' : World} {g : Nat} {lv tu nx lo b : Int} {u : Value} (h : Lb W g lv tu nx lo u b) (hb : Below W.heap.size W W') : Lb W' g lv tu nx lo u b := (hb.block g h.lt).trans h
theorem Lb.c {W : World} {g : Nat} {lv tu nx lo b : Int} {u : Value} (h : Lb W g lv tu nx lo u b) : W.cell? ⟨g, 0, none⟩ = some (.int .i64 lv) ∧ W.cell? ⟨g, 1, none⟩ = some (.int .i64 tu) ∧ W.cell? ⟨g, 2, none⟩ = some (.int .i64 nx) ∧ W.cell? ⟨g, 3, none⟩ = some (.int .i64 lo) ∧ W.cell? ⟨g, 4, none⟩ = some u ∧ W.cell? ⟨g, 5, none⟩ = some (.int .i64 b) := by
  refine ⟨?_, ?_, ?_, ?_, ?_, ?_⟩ <;> simp [World.cell?, show W.heap[g]? = _ from h]
theorem lb_new (W : World) (lv tu nx lo b : Int) (u : Value) : Lb (W.alloc (.cells #[.int .i64 lv, .int .i64 tu, .int .i64 nx, .int .i64 lo, u, .int .i64 b] 60)) W.heap.size lv tu nx lo u b := Go.heap_alloc_new _ _
theorem leavesOf_ok {L : List Int} (v : Value) (zs : List Int) (w : World) (hR : Rl w v zs) (h : lvA zs = some L) : Calls Try.prog 28 #[v] w fun e w' => ∃ v' P, L = P.map Prod.fst ∧ e = .returned v' ∧ Lv zs w' w.heap.size v' P ∧ Below w.heap.size w w' := by
  refine (leavesOf_any v zs w hR).mono ?_
  rintro e w' (⟨v', P, h1, h2, h3, h4⟩ | ⟨h1, _⟩)
  · rw [h] at h1
    exact ⟨v', P, Option.some.inj h1, h2, h3, h4⟩
  · rw [h] at h1
    cases h1
theorem leavesOf_bad (v : Value) (zs : List Int) (w : World) (hR : Rl w v zs) (h : lvA zs = none) : Calls Try.prog 28 #[v] w fun e w' => e = .panicked [unS] ∧ Below w.heap.size w w' := by
  refine (leavesOf_any v zs w hR).mono ?_
  rintro e w' (⟨v', P, h1, h2, h3, h4⟩ | ⟨h1, h2, h3⟩)
  · rw [h] at h1
    cases h1
  · exact ⟨h2, h3⟩
theorem checkKeys_ok (v u : Value) (zs sl : List Int) (low : ByteArray) (w : World) (hR : Rl w v zs) (hF : Fits zs) (hU : Rd w u sl) (hsl : ∀ y ∈ sl, 1 ≤ y ∧ y ≤ 255) (h : lfB (rcA zs) low.toList (plN sl) = true) : Calls Try.prog 50 #[v, u, .string low] w fun e w' => e = .returned (.tuple #[]) ∧ Below w.heap.size w w' := by
  refine (checkKeys_any v u zs sl low w hR hF hU hsl).mono ?_
  rintro e w' ⟨⟨_, h2⟩ | ⟨h1, _⟩, h3⟩
  · exact ⟨h2, h3⟩
  · rw [h] at h1
    cases h1
theorem checkKeys_bad (v u : Value) (zs sl : List Int) (low : ByteArray) (w : World) (hR : Rl w v zs) (hF : Fits zs) (hU : Rd w u sl) (hsl : ∀ y ∈ sl, 1 ≤ y ∧ y ≤ 255) (h : lfB (rcA zs) low.toList (plN sl) = false) : Calls Try.prog 50 #[v, u, .string low] w fun e w' => e = .panicked [unS] ∧ Below w.heap.size w w' := by
  refine (checkKeys_any v u zs sl low w hR hF hU hsl).mono ?_
  rintro e w' ⟨⟨h1, _⟩ | ⟨_, h2⟩, h3⟩
  · rw [h] at h1
    cases h1
  · exact ⟨h2, h3⟩
/-- The leaves of words: none twice, each a leaf, the first one the block 1. -/
theorem lvA_out {zs : List Int} {L : List Int} (h : lvA zs = some L) : rdB zs = true ∧ L.Nodup ∧ (∀ b ∈ L, b ≠ 0 ∧ rnE zs b = 0 ∧ (rnN zs b).lv = 0) ∧ L.head? = some 1 := by
  unfold lvA at h
  split at h
  · rename_i hB
    obtain ⟨M, rfl, h2, h3, h4⟩ := lvF_out h List.nodup_nil
    refine ⟨hB, h2, fun b hb => ?_, h4 (by decide)⟩
    obtain ⟨h0, n, hn, hl⟩ := h3 b hb
    obtain ⟨e, rfl⟩ := nd_out hn
    exact ⟨h0, e, hl⟩
  · cases h
/-- What is still to be seen of the leaves behind the first k. -/
def sdX (zs : List Int) (L : List Int) (k : Nat) (s : List UInt8) : Bool := if k = 0 then sdB (ndA zs) (rcA zs) plN L else sdN (ndA zs) (rcA zs) plN s (L.drop k)
theorem sdX_first {zs L : List Int} {s : List UInt8} {b : Int} (h : L[0]? = some b) (hE : rnE zs b = 0) : sdX zs L 0 s = (decide ((rnN zs b).lo = 0) && lfB (rcA zs) [] (plN (rnN zs b).sl) && sdX zs L 1 []) := by
  have hd := drop_at h
  rw [List.drop_zero] at hd
  unfold sdX
  rw [if_pos rfl, if_neg (by decide)]
  conv => lhs; rw [hd]
  simp [sdB, nd_yes hE]
theorem sdX_next {zs L : List Int} {s : List UInt8} {b : Int} {k : Nat} (hk : k ≠ 0) (h : L[k]? = some b) (hE : rnE zs b = 0) (hl : lowK zs (rnN zs b) = true) : sdX zs L k s = (Op.bytesLess s (lowS zs (rnN zs b)).toList && lfB (rcA zs) (lowS zs (rnN zs b)).toList (plN (rnN zs b).sl) && sdX zs L (k + 1) (lowS zs (rnN zs b)).toList) := by
  have hd := drop_at h
  unfold sdX
  rw [if_neg hk, if_neg (Nat.succ_ne_zero k)]
  conv => lhs; rw [hd]
  simp [sdN, nd_yes hE, low_yes hl]
theorem sdX_low {zs L : List Int} {s : List UInt8} {b : Int} {k : Nat} (hk : k ≠ 0) (h : L[k]? = some b) (hE : rnE zs b = 0) (hl : lowK zs (rnN zs b) = false) : sdX zs L k s = false := by
  have hd := drop_at h
  unfold sdX
  rw [if_neg hk]
  conv => lhs; rw [hd]
  simp [sdN, nd_yes hE, low_no hl]
theorem sdX_end {zs L : List Int} {s : List UInt8} {k : Nat} (h : L.length ≤ k) : sdX zs L k s = true := by
  unfold sdX
  split
  · have : L = [] := List.eq_nil_of_length_eq_zero (by omega)
    subst this
    rfl
  · rw [List.drop_of_length_le h]
    rfl
theorem snd_of {zs L : List Int} (h : lvA zs = some L) : sndB zs = sdB (ndA zs) (rcA zs) plN L := by unfold sndB; rw [h]
end Go.Proofs.Ytcgclhahonndbaa
