/- Layer 12: the first place that is told; Get. -/
import Derived.Test.YtcgclhahonndbaaPac
namespace Go.Proofs.Ytcgclhahonndbaa
open Go.RowKit Go.Shelf
set_option linter.unusedVariables false

/-- The first place that is told, or the one behind all. -/
def fiG {α : Type} (t : α → Bool) : List α → Nat
  | [] => 0
  | p :: r => if t p then 0 else fiG t r + 1
theorem fiG_hit {α : Type} {t : α → Bool} : ∀ {l : List α} {k : Nat} {q : α}, (∀ j p, j < k → l[j]? = some p → t p = false) → l[k]? = some q → t q = true → fiG t l = k
  | [], k, q, _, h, _ => by simp at h
  | p :: r, 0, q, _, h, h2 => by
    cases h
    unfold fiG
    rw [if_pos h2]
  | p :: r, k + 1, q, h, h1, h2 => by
    have h0 := h 0 p (by omega) rfl
    unfold fiG
    rw [if_neg (by rw [h0]; decide), fiG_hit (l := r) (k := k) (fun j x hj hx => h (j + 1) x (by omega) (by simpa using hx)) (by simpa using h1) h2]
theorem fiG_none {α : Type} {t : α → Bool} : ∀ {l : List α}, (∀ p ∈ l, t p = false) → fiG t l = l.length
  | [], _ => rfl
  | p :: r, h => by
    unfold fiG
    rw [if_neg (by rw [h p (.head _)]; decide), fiG_none (fun x hx => h x (.tail _ hx))]
    rfl
theorem fiG_le {α : Type} {t : α → Bool} : ∀ (l : List α), fiG t l ≤ l.length
  | [] => Nat.le_refl _
  | p :: r => by
    unfold fiG
    split
    · exact Nat.zero_le _
    · exact Nat.succ_le_succ (fiG_le r)
/-- Where the place is: what stands there is told, and nothing ahead of it. -/
theorem fiG_at {α : Type} {t : α → Bool} : ∀ {l : List α}, fiG t l < l.length → ∃ q, l[fiG t l]? = some q ∧ t q = true
  | [], h => by simp at h
  | p :: r, h => by
    unfold fiG at h ⊢
    split at h
    · rename_i h1
      rw [if_pos h1]
      exact ⟨p, rfl, h1⟩
    · rename_i h1
      rw [if_neg h1]
      obtain ⟨q, h2, h3⟩ := fiG_at (t := t) (l := r) (by simpa using h)
      exact ⟨q, by simpa using h2, h3⟩
theorem fiG_all {α : Type} {t : α → Bool} : ∀ {l : List α}, fiG t l = l.length → ∀ p ∈ l, t p = false
  | [], _, p, hp => by cases hp
  | q :: r, h, p, hp => by
    unfold fiG at h
    split at h
    · simp at h
    · rename_i h1
      rw [List.mem_cons] at hp
      rcases hp with rfl | hp
      · simpa using h1
      · exact fiG_all (t := t) (l := r) (by simpa using h) p hp

set_option maxRecDepth 100000 in
set_option maxHeartbeats 1000000 in
theorem placeP_any (g : Nat) (lb : Array Value) (test : Pa → Bool) (eg : ∀ args w, (callFunc g args).run Try.prog w = .ok (.enter g args) w) (v : Value) (l : List Pa) (w : World) (hR : RdP w v l)
    (hT : ∀ (p : Pa) (W : World), Below w.heap.size w W → Calls Try.prog g (#[.agg #[.string p.k, .string p.v]] ++ lb) W fun e w' => e = .returned (.bool (test p)) ∧ Below W.heap.size W w') :
    Calls Try.prog 35 #[v, .func (.func g) #[] lb] w fun e w' => e = .returned (.int .i64 (fiG test l : Nat)) ∧ Below w.heap.size w w' := by
  obtain ⟨hl, a, cap, rfl, hc⟩ := hR.form
  have HR : Hid (RdP w (.slice a l.length cap) l) := hR
  have HT : Hid (∀ (p : Pa) (W : World), Below w.heap.size w W → Calls Try.prog g (#[.agg #[.string p.k, .string p.v]] ++ lb) W fun e w' => e = .returned (.bool (test p)) ∧ Below W.heap.size W w') := hT
  clear hR hT
  go_enter Try.func35, Try.ntmps35
  go_wp2
  go_loopw [9] (fun i wr => ∃ k : Nat, k ≤ l.length ∧ i = .int .i64 k ∧ (∀ j p, j < k → l[j]? = some p → test p = false) ∧ Below w.heap.size w wr) (fun i _ => l.length - (intOf i).toNat)
  case atStart => exact ⟨0, Nat.zero_le _, rfl, fun j p hj => by omega, Below.refl _ _⟩
  case round =>
    obtain ⟨k, hk, rfl, hno, hbel⟩ := hrel
    have HN : Hid (∀ j p, j < k → l[j]? = some p → test p = false) := hno
    have HB : Hid (Below w.heap.size w wr) := hbel
    clear hno hbel
    by_cases hlt : k < l.length
    · have hltI : (k : Int) < (l.length : Int) := by omega
      obtain ⟨x, hx⟩ : ∃ x, l[k]? = some x := ⟨_, List.getElem?_eq_getElem hlt⟩
      obtain ⟨b, off, rfl, x0, x1⟩ := (HR.out.below HB.out).get hx
      have Hx : Hid (l[k]? = some x) := hx
      have C := HT.out x (wr.alloc (.cells #[.string x.k, .string x.v] 35)) (pal HB.out _)
      clear hx
      cases ht : test x with
      | true =>
        rw [ht] at C
        have HC := C
        have Hf : Hid (fiG test l = k) := fiG_hit HN.out Hx.out ht
        clear ht C
        go_wp2_with (go_at_fn g; refine HC.mono ?_; rintro e w' ⟨rfl, hb⟩)
        go_ret
        exact ⟨ret_int (by rw [Hf.out]), bstep (pal HB.out _) hb⟩
      | false =>
        rw [ht] at C
        have HC := C
        have Hn : Hid (∀ j p, j < k + 1 → l[j]? = some p → test p = false) := fun j p hj hp => by
          by_cases e : j = k
          · subst e
            rw [Hx.out] at hp
            cases hp
            exact ht
          · exact HN.out j p (by omega) hp
        clear ht C
        go_wp2_with (go_at_fn g; refine HC.mono ?_; rintro e w' ⟨rfl, hb⟩)
        go_roundw
        case rel => exact ⟨k + 1, by omega, by go_num, Hn.out, bstep (pal HB.out _) hb⟩
        case measure => simp [intOf]; omega
    · have hge : ¬ (k : Int) < (l.length : Int) := by omega
      have Hf : Hid (fiG test l = l.length) := fiG_none fun p hp => by
        obtain ⟨j, hj⟩ := List.getElem?_of_mem hp
        have hj' := (List.getElem?_eq_some_iff.1 hj).1
        exact HN.out j p (by omega) hj
      go_wp2
      go_ret
      exact ⟨ret_int (by rw [Hf.out]), HB.out⟩

theorem gt_tL (a b : ByteArray) : (!Op.bytesLess a.toList b.toList && !(a.toList == b.toList)) = tL b a := by
  cases h : tL b a with
  | true =>
    have h1 := tL_as h
    have h2 : tE a b = false := tE_no (fun e => tL_ne h e.symm)
    unfold tL at h1
    unfold tE at h2
    rw [h1, h2]
    rfl
  | false =>
    by_cases e : a = b
    · rw [e]; simp
    · have h1 := tL_tot h (fun h => e h.symm)
      unfold tL at h1
      rw [h1]
      rfl
/-- The closures: whether a pair's key stands behind one, or is it. -/
theorem gt_any (p : Pa) (key : ByteArray) (b : Nat) (w : World) (hc : w.cell? ⟨b, 0, none⟩ = some (.string key)) : Calls Try.prog 36 (#[.agg #[.string p.k, .string p.v]] ++ #[.pointer (some ⟨b, 0, none⟩)]) w fun e w' => e = .returned (.bool (tL key p.k)) ∧ Below w.heap.size w w' := by
  have hlt := World.block_lt_of_cell? _ _ hc
  go_enter Try.func36, Try.ntmps36
  go_wp2
  go_ret
  exact ⟨ret_bool (gt_tL _ _), (Below.refl _ _).alloc (Nat.le_refl _) _⟩
theorem eq_any (p : Pa) (key : ByteArray) (b : Nat) (w : World) (hc : w.cell? ⟨b, 0, none⟩ = some (.string key)) : Calls Try.prog 41 (#[.agg #[.string p.k, .string p.v]] ++ #[.pointer (some ⟨b, 0, none⟩)]) w fun e w' => e = .returned (.bool (tE p.k key)) ∧ Below w.heap.size w w' := by
  have hlt := World.block_lt_of_cell? _ _ hc
  go_enter Try.func41, Try.ntmps41
  go_wp2
  go_ret
  exact ⟨ret_bool rfl, (Below.refl _ _).alloc (Nat.le_refl _) _⟩
theorem eq40_any (p : Pa) (key : ByteArray) (b : Nat) (w : World) (hc : w.cell? ⟨b, 0, none⟩ = some (.string key)) : Calls Try.prog 40 (#[.agg #[.string p.k, .string p.v]] ++ #[.pointer (some ⟨b, 0, none⟩)]) w fun e w' => e = .returned (.bool (tE p.k key)) ∧ Below w.heap.size w w' := by
  have hlt := World.block_lt_of_cell? _ _ hc
  go_enter Try.func40, Try.ntmps40
  go_wp2
  go_ret
  exact ⟨ret_bool rfl, (Below.refl _ _).alloc (Nat.le_refl _) _⟩
theorem ret_sb {a b : ByteArray} {c d : Bool} (h1 : a = b) (h2 : c = d) : Ending.returned (.tuple #[.string a, .bool c]) = .returned (.tuple #[.string b, .bool d]) := by rw [h1, h2]
/-- A key's value, and whether there is one. -/
def gvP (l : List Pa) (key : ByteArray) : ByteArray := (geP l key).getD ⟨#[]⟩
def gbP (l : List Pa) (key : ByteArray) : Bool := (geP l key).isSome
theorem geP_fi : ∀ (l : List Pa) (key : ByteArray), geP l key = (l[fiG (fun p => tE p.k key) l]?).map Pa.v
  | [], _ => rfl
  | p :: r, key => by
    rw [geP_cons]
    unfold fiG
    by_cases h : tE p.k key = true
    · rw [if_pos h, if_pos h]; rfl
    · rw [if_neg h, if_neg h, geP_fi r key]; simp

set_option maxRecDepth 100000 in
set_option maxHeartbeats 1000000 in
theorem get_any (v : Value) (l : List Pa) (key : ByteArray) (w : World) (hR : RdP w v l) : Calls Try.prog 17 #[v, .string key] w fun e w' => e = .returned (.tuple #[.string (gvP l key), .bool (gbP l key)]) ∧ Below w.heap.size w w' := by
  obtain ⟨hl, a, cap, rfl, hc⟩ := hR.form
  have B0 := (Below.refl w.heap.size w).alloc (Nat.le_refl _) (.cells #[.string key] 9)
  have HB0 : Hid (Below w.heap.size w (w.alloc (.cells #[.string key] 9))) := B0
  have HR : Hid (RdP (w.alloc (.cells #[.string key] 9)) (.slice a l.length cap) l) := hR.below B0
  have hcell : (w.alloc (.cells #[.string key] 9)).cell? ⟨w.heap.size, 0, none⟩ = some (.string key) := by have := cell_one_new w (.string key) 9 0 (.string key) rfl; rwa [Addr.add_lit] at this
  have K := placeP_any 41 #[.pointer (some ⟨w.heap.size, 0, none⟩)] (fun p => tE p.k key) (enters_of Try.func41 (by kernel_rfl) rfl) _ l _ HR.out (fun p W hb => eq_any p key w.heap.size W ((hb.cell (p := ⟨w.heap.size, 0, none⟩) (by simp)).trans hcell))
  have HK := K
  clear K hR B0 hcell
  have hg := geP_fi l key
  have hle := fiG_le (t := fun p : Pa => tE p.k key) l
  have hat := @fiG_at _ (fun p : Pa => tE p.k key) l
  obtain ⟨f, hf⟩ : ∃ f, f = fiG (fun p : Pa => tE p.k key) l := ⟨_, rfl⟩
  rw [← hf] at hg hle hat HK
  clear hf
  have hmf : ∀ (fn : Fn) (first cap : Array Value) (w : World), (Instr.makeFunc fn first cap).run Try.prog w = .ok (.func fn first cap) w := fun _ _ _ _ => rfl
  by_cases h : f < l.length
  · obtain ⟨q, hq, _⟩ := hat h
    have Hq : Hid (l[f]? = some q) := hq
    have H1 : Hid (gvP l key = q.v) := by (show _ = _; unfold gvP; rw [hg, hq]; rfl)
    have H2 : Hid (gbP l key = true) := by (show _ = _; unfold gbP; rw [hg, hq]; rfl)
    have e1 : ((f : Int) == (l.length : Int)) = false := by simp; omega
    have e2 : (f : Int) < (l.length : Int) := by omega
    clear hg hat hq
    go_enter Try.func17, Try.ntmps17
    go_wp2_with (first
      | (go_at_call 35; refine HK.mono ?_; rintro e w1 ⟨rfl, hb1⟩; have hb2 := bstep HB0.out hb1; have HR1 : Hid (RdP w1 (.slice a l.length cap) l) := HR.out.below hb1; obtain ⟨b, off, rfl, x0, x1⟩ := HR1.out.get Hq.out))
    go_ret2
    exact ⟨ret_sb H1.out.symm H2.out.symm, hb2⟩
  · obtain rfl : f = l.length := by omega
    have H1 : Hid (gvP l key = ⟨#[]⟩) := by (show _ = _; unfold gvP; rw [hg, List.getElem?_eq_none (Nat.le_refl _)]; rfl)
    have H2 : Hid (gbP l key = false) := by (show _ = _; unfold gbP; rw [hg, List.getElem?_eq_none (Nat.le_refl _)]; rfl)
    clear hg hat
    go_enter Try.func17, Try.ntmps17
    go_wp2_with (first
      | (go_at_call 35; refine HK.mono ?_; rintro e w1 ⟨rfl, hb1⟩; have hb2 := bstep HB0.out hb1))
    go_ret2
    exact ⟨ret_sb H1.out.symm H2.out.symm, hb2⟩
end Go.Proofs.Ytcgclhahonndbaa
