/- Layer 12: the first place that is told; Get. · Layer 12: slices.Clone, slices.IndexFunc, slices.DeleteFunc at pairs; Without. -/
import Derived.Test.YtcgclhahonndbaaGreatPac
namespace Go.Proofs.YtcgclhahonndbaaGreat
open Go.RowKit Go.Shelf
set_option linter.unusedVariables false

/-- The first place that is told, or the one behind all. -/
def fiG {α : Type} (t : α → Bool) : List α → Nat
  | [] => 0
  | p :: r => if t p then 0 else fiG t r + 1
theorem fiG_hit {α : Type} {t : α → Bool} : ∀ {l : List α} {k : Nat} {q : α}, (∀ j p, j < k → l[j]? = some p → t p = false) → l[k]? = some q → t q = true → fiG t l = k
  | [], k, q, _, h, _ => by simp at h
  | p :: r, 0, q, _, h, h2 => by
    cases h
    unfold fiG
    rw [if_pos h2]
  | p :: r, k + 1, q, h, h1, h2 => by
    have h0 := h 0 p (by omega) rfl
    unfold fiG
    rw [if_neg (by rw [h0]; decide), fiG_hit (l := r) (k := k) (fun j x hj hx => h (j + 1) x (by omega) (by simpa using hx)) (by simpa using h1) h2]
theorem fiG_none {α : Type} {t : α → Bool} : ∀ {l : List α}, (∀ p ∈ l, t p = false) → fiG t l = l.length
  | [], _ => rfl
  | p :: r, h => by
    unfold fiG
    rw [if_neg (by rw [h p (.head _)]; decide), fiG_none (fun x hx => h x (.tail _ hx))]
    rfl
theorem fiG_le {α : Type} {t : α → Bool} : ∀ (l : List α), fiG t l ≤ l.length
  | [] => Nat.le_refl _
  | p :: r => by
    unfold fiG
    split
    · exact Nat.zero_le _
    · exact Nat.succ_le_succ (fiG_le r)
/-- Where the place is: what stands there is told, and nothing ahead of it. -/
theorem fiG_at {α : Type} {t : α → Bool} : ∀ {l : List α}, fiG t l < l.length → ∃ q, l[fiG t l]? = some q ∧ t q = true
  | [], h => by simp at h
  | p :: r, h => by
    unfold fiG at h ⊢
    split at h
    · rename_i h1
      rw [if_pos h1]
      exact ⟨p, rfl, h1⟩
    · rename_i h1
      rw [if_neg h1]
      obtain ⟨q, h2, h3⟩ := fiG_at (t := t) (l := r) (by simpa using h)
      exact ⟨q, by simpa using h2, h3⟩
theorem fiG_all {α : Type} {t : α → Bool} : ∀ {l : List α}, fiG t l = l.length → ∀ p ∈ l, t p = false
  | [], _, p, hp => by cases hp
  | q :: r, h, p, hp => by
    unfold fiG at h
    split at h
    · simp at h
    · rename_i h1
      rw [List.mem_cons] at hp
      rcases hp with rfl | hp
      · simpa using h1
      · exact fiG_all (t := t) (l := r) (by simpa using h) p hp

set_option maxRecDepth 100000 in
set_option maxHeartbeats 1000000 in
theorem placeP_any (g : Nat) (lb : Array Value) (test : Pa → Bool) (eg : ∀ args w, (callFunc g args).run Tryz.prog w = .ok (.enter g args) w) (v : Value) (l : List Pa) (w : World) (hR : RdP w v l)
    (hT : ∀ (p : Pa) (W : World), Below w.heap.size w W → Calls Tryz.prog g (#[.agg #[.string p.k, .string p.v]] ++ lb) W fun e w' => e = .returned (.bool (test p)) ∧ Below W.heap.size W w') :
    Calls Tryz.prog 28 #[v, .func (.func g) #[] lb] w fun e w' => e = .returned (.int .i64 (fiG test l : Nat)) ∧ Below w.heap.size w w' := by
  obtain ⟨hl, a, cap, rfl, hc⟩ := hR.form
  have HR : Hid (RdP w (.slice a l.length cap) l) := hR
  have HT : Hid (∀ (p : Pa) (W : World), Below w.heap.size w W → Calls Tryz.prog g (#[.agg #[.string p.k, .string p.v]] ++ lb) W fun e w' => e = .returned (.bool (test p)) ∧ Below W.heap.size W w') := hT
  clear hR hT
  go_enter Tryz.func28, Tryz.ntmps28
  go_wp2
  go_loopw [9] (fun i wr => ∃ k : Nat, k ≤ l.length ∧ i = .int .i64 k ∧ (∀ j p, j < k → l[j]? = some p → test p = false) ∧ Below w.heap.size w wr) (fun i _ => l.length - (Go.RowKit.intOf i).toNat)
  case atStart => exact ⟨0, Nat.zero_le _, rfl, fun j p hj => by omega, Below.refl _ _⟩
  case round =>
    obtain ⟨k, hk, rfl, hno, hbel⟩ := hrel
    have HN : Hid (∀ j p, j < k → l[j]? = some p → test p = false) := hno
    have HB : Hid (Below w.heap.size w wr) := hbel
    clear hno hbel
    by_cases hlt : k < l.length
    · have hltI : (k : Int) < (l.length : Int) := by omega
      obtain ⟨x, hx⟩ : ∃ x, l[k]? = some x := ⟨_, List.getElem?_eq_getElem hlt⟩
      obtain ⟨b, off, rfl, x0, x1⟩ := (HR.out.below HB.out).get hx
      have Hx : Hid (l[k]? = some x) := hx
      have C := HT.out x (wr.alloc (.cells #[.string x.k, .string x.v] 45)) (pal HB.out _)
      clear hx
      cases ht : test x with
      | true =>
        rw [ht] at C
        have HC := C
        have Hf : Hid (fiG test l = k) := fiG_hit HN.out Hx.out ht
        clear ht C
        go_wp2_with (go_at_fn g; refine HC.mono ?_; rintro e w' ⟨rfl, hb⟩)
        go_ret
        exact ⟨ret_int (by rw [Hf.out]), bstep (pal HB.out _) hb⟩
      | false =>
        rw [ht] at C
        have HC := C
        have Hn : Hid (∀ j p, j < k + 1 → l[j]? = some p → test p = false) := fun j p hj hp => by
          by_cases e : j = k
          · subst e
            rw [Hx.out] at hp
            cases hp
            exact ht
          · exact HN.out j p (by omega) hp
        clear ht C
        go_wp2_with (go_at_fn g; refine HC.mono ?_; rintro e w' ⟨rfl, hb⟩)
        go_roundw
        case rel => exact ⟨k + 1, by omega, by go_num, Hn.out, bstep (pal HB.out _) hb⟩
        case measure => simp [Go.RowKit.intOf]; omega
    · have hge : ¬ (k : Int) < (l.length : Int) := by omega
      have Hf : Hid (fiG test l = l.length) := fiG_none fun p hp => by
        obtain ⟨j, hj⟩ := List.getElem?_of_mem hp
        have hj' := (List.getElem?_eq_some_iff.1 hj).1
        exact HN.out j p (by omega) hj
      go_wp2
      go_ret
      exact ⟨ret_int (by rw [Hf.out]), HB.out⟩

theorem gt_tL (a b : ByteArray) : (!Op.bytesLess a.toList b.toList && !(a.toList == b.toList)) = tL b a := by
  cases h : tL b a with
  | true =>
    have h1 := tL_as h
    have h2 : tE a b = false := tE_no (fun e => tL_ne h e.symm)
    unfold tL at h1
    unfold tE at h2
    rw [h1, h2]
    rfl
  | false =>
    by_cases e : a = b
    · rw [e]; simp
    · have h1 := tL_tot h (fun h => e h.symm)
      unfold tL at h1
      rw [h1]
      rfl
/-- The closures: whether a pair's key stands behind one, or is it. -/
theorem gt_any (p : Pa) (key : ByteArray) (b : Nat) (w : World) (hc : w.cell? ⟨b, 0, none⟩ = some (.string key)) : Calls Tryz.prog 30 (#[.agg #[.string p.k, .string p.v]] ++ #[.pointer (some ⟨b, 0, none⟩)]) w fun e w' => e = .returned (.bool (tL key p.k)) ∧ Below w.heap.size w w' := by
  have hlt := World.block_lt_of_cell? _ _ hc
  go_enter Tryz.func30, Tryz.ntmps30
  go_wp2
  go_ret
  exact ⟨ret_bool (gt_tL _ _), (Below.refl _ _).alloc (Nat.le_refl _) _⟩
theorem eq_any (p : Pa) (key : ByteArray) (b : Nat) (w : World) (hc : w.cell? ⟨b, 0, none⟩ = some (.string key)) : Calls Tryz.prog 29 (#[.agg #[.string p.k, .string p.v]] ++ #[.pointer (some ⟨b, 0, none⟩)]) w fun e w' => e = .returned (.bool (tE p.k key)) ∧ Below w.heap.size w w' := by
  have hlt := World.block_lt_of_cell? _ _ hc
  go_enter Tryz.func29, Tryz.ntmps29
  go_wp2
  go_ret
  exact ⟨ret_bool rfl, (Below.refl _ _).alloc (Nat.le_refl _) _⟩
theorem eq40_any (p : Pa) (key : ByteArray) (b : Nat) (w : World) (hc : w.cell? ⟨b, 0, none⟩ = some (.string key)) : Calls Tryz.prog 34 (#[.agg #[.string p.k, .string p.v]] ++ #[.pointer (some ⟨b, 0, none⟩)]) w fun e w' => e = .returned (.bool (tE p.k key)) ∧ Below w.heap.size w w' := by
  have hlt := World.block_lt_of_cell? _ _ hc
  go_enter Tryz.func34, Tryz.ntmps34
  go_wp2
  go_ret
  exact ⟨ret_bool rfl, (Below.refl _ _).alloc (Nat.le_refl _) _⟩
theorem ret_sb {a b : ByteArray} {c d : Bool} (h1 : a = b) (h2 : c = d) : Ending.returned (.tuple #[.string a, .bool c]) = .returned (.tuple #[.string b, .bool d]) := by rw [h1, h2]
/-- A key's value, and whether there is one. -/
def gvP (l : List Pa) (key : ByteArray) : ByteArray := (geP l key).getD ⟨#[]⟩
def gbP (l : List Pa) (key : ByteArray) : Bool := (geP l key).isSome
theorem geP_fi : ∀ (l : List Pa) (key : ByteArray), geP l key = (l[fiG (fun p => tE p.k key) l]?).map Pa.v
  | [], _ => rfl
  | p :: r, key => by
    rw [geP_cons]
    unfold fiG
    by_cases h : tE p.k key = true
    · rw [if_pos h, if_pos h]; rfl
    · rw [if_neg h, if_neg h, geP_fi r key]; simp

set_option maxRecDepth 100000 in
set_option maxHeartbeats 1000000 in
theorem get_any (v : Value) (l : List Pa) (key : ByteArray) (w : World) (hR : RdP w v l) : Calls Tryz.prog 10 #[v, .string key] w fun e w' => e = .returned (.tuple #[.string (gvP l key), .bool (gbP l key)]) ∧ Below w.heap.size w w' := by
  obtain ⟨hl, a, cap, rfl, hc⟩ := hR.form
  have B0 := (Below.refl w.heap.size w).alloc (Nat.le_refl _) (.cells #[.string key] 9)
  have HB0 : Hid (Below w.heap.size w (w.alloc (.cells #[.string key] 9))) := B0
  have HR : Hid (RdP (w.alloc (.cells #[.string key] 9)) (.slice a l.length cap) l) := hR.below B0
  have hcell : (w.alloc (.cells #[.string key] 9)).cell? ⟨w.heap.size, 0, none⟩ = some (.string key) := by have := cell_one_new w (.string key) 9 0 (.string key) rfl; rwa [Addr.add_lit] at this
  have K := placeP_any 29 #[.pointer (some ⟨w.heap.size, 0, none⟩)] (fun p => tE p.k key) (enters_of Tryz.func29 (by kernel_rfl) rfl) _ l _ HR.out (fun p W hb => eq_any p key w.heap.size W ((hb.cell (p := ⟨w.heap.size, 0, none⟩) (by simp)).trans hcell))
  have HK := K
  clear K hR B0 hcell
  have hg := geP_fi l key
  have hle := fiG_le (t := fun p : Pa => tE p.k key) l
  have hat := @fiG_at _ (fun p : Pa => tE p.k key) l
  obtain ⟨f, hf⟩ : ∃ f, f = fiG (fun p : Pa => tE p.k key) l := ⟨_, rfl⟩
  rw [← hf] at hg hle hat HK
  clear hf
  have hmf : ∀ (fn : Fn) (first cap : Array Value) (w : World), (Instr.makeFunc fn first cap).run Tryz.prog w = .ok (.func fn first cap) w := fun _ _ _ _ => rfl
  by_cases h : f < l.length
  · obtain ⟨q, hq, _⟩ := hat h
    have Hq : Hid (l[f]? = some q) := hq
    have H1 : Hid (gvP l key = q.v) := by (show _ = _; unfold gvP; rw [hg, hq]; rfl)
    have H2 : Hid (gbP l key = true) := by (show _ = _; unfold gbP; rw [hg, hq]; rfl)
    have e1 : ((f : Int) == (l.length : Int)) = false := by simp; omega
    have e2 : (f : Int) < (l.length : Int) := by omega
    clear hg hat hq
    go_enter Tryz.func10, Tryz.ntmps10
    go_wp2_with (first
      | (go_at_call 28; refine HK.mono ?_; rintro e w1 ⟨rfl, hb1⟩; have hb2 := bstep HB0.out hb1; have HR1 : Hid (RdP w1 (.slice a l.length cap) l) := HR.out.below hb1; obtain ⟨b, off, rfl, x0, x1⟩ := HR1.out.get Hq.out))
    go_ret2
    exact ⟨ret_sb H1.out.symm H2.out.symm, hb2⟩
  · obtain rfl : f = l.length := by omega
    have H1 : Hid (gvP l key = ⟨#[]⟩) := by (show _ = _; unfold gvP; rw [hg, List.getElem?_eq_none (Nat.le_refl _)]; rfl)
    have H2 : Hid (gbP l key = false) := by (show _ = _; unfold gbP; rw [hg, List.getElem?_eq_none (Nat.le_refl _)]; rfl)
    clear hg hat
    go_enter Tryz.func10, Tryz.ntmps10
    go_wp2_with (first
      | (go_at_call 28; refine HK.mono ?_; rintro e w1 ⟨rfl, hb1⟩; have hb2 := bstep HB0.out hb1))
    go_ret2
    exact ⟨ret_sb H1.out.symm H2.out.symm, hb2⟩
end Go.Proofs.YtcgclhahonndbaaGreat
namespace Go.Proofs.YtcgclhahonndbaaGreat
open Go.RowKit Go.Shelf
set_option linter.unusedVariables false

set_option maxRecDepth 100000 in
set_option maxHeartbeats 1000000 in
theorem cloneP_any (v : Value) (l : List Pa) (w : World) (hR : RdP w v l) : Calls Tryz.prog 33 #[v] w fun e w' => ∃ v', e = .returned v' ∧ OwnP w' w.heap.size v' l ∧ Below w.heap.size w w' := by
  have hR' := hR
  obtain ⟨_, hl, a, cap, rfl, -, h3⟩ := hR
  have q : ∀ (w : World) (a : Option Addr) (n c n' c' : Nat), (binOp .eql 23 (.slice a n c) (.slice none n' c')).run Tryz.prog w = .ok (.bool a.isNone) w := fun w a n c n' c' => Lib.run_eql_slice_nil w _ _ a n c n' c' Tryz.underlying23
  cases a with
  | none =>
    have h0 : l.length = 0 ∧ cap = 0 := by
      rcases h3 with ⟨h0, hc⟩ | ⟨b, off, h, _⟩
      · exact ⟨h0, hc rfl⟩
      · cases h
    have hz : l = [] := List.eq_nil_of_length_eq_zero h0.1
    obtain ⟨-, rfl⟩ := h0
    subst hz
    go_enter Tryz.func33, Tryz.ntmps33
    go_wp2
    go_ret
    exact ⟨_, rfl, OwnP.bare _ _, Below.refl _ _⟩
  | some p =>
    clear h3
    go_enter Tryz.func33, Tryz.ntmps33
    go_wp2_with (first | (at_builtin; refine append_rdc rfl _ _ 23 rfl w.heap.size 45 2 _ 32 Tryz.underlying23 Tryz.info45 rfl (by decide) (by decide) _ 0 [] rfl (World.ownsRow_made (base := w.heap.size) (e := 45) (size := 2) w #[] 0 (Nat.le_refl _) (by omega) rfl) _ l.length _ rfl (hR'.below ((Below.refl _ w).alloc (Nat.le_refl _) _)) (pcs_one l) (by omega) (by simp) ?_; intro v2 w2 o2 g2; have B2 : Below w.heap.size w w2 := ((Below.refl _ w).alloc (Nat.le_refl _) _).grown g2 (by simp) (by intro q hq; cases hq; exact Nat.le_refl _)))
    go_ret
    rw [Nat.zero_add] at o2
    exact ⟨_, rfl, o2, B2⟩

/-- The first place that is told, or -1. -/
def ixP (t : Pa → Bool) (l : List Pa) : Int := if fiG t l < l.length then (fiG t l : Int) else -1

set_option maxRecDepth 100000 in
set_option maxHeartbeats 1000000 in
theorem indexP_any (g : Nat) (lb : Array Value) (test : Pa → Bool) (eg : ∀ args w, (callFunc g args).run Tryz.prog w = .ok (.enter g args) w) (v : Value) (l : List Pa) (w : World) (hR : RdP w v l)
    (hT : ∀ (p : Pa) (W : World), Below w.heap.size w W → Calls Tryz.prog g (#[.agg #[.string p.k, .string p.v]] ++ lb) W fun e w' => e = .returned (.bool (test p)) ∧ Below W.heap.size W w') :
    Calls Tryz.prog 51 #[v, .func (.func g) #[] lb] w fun e w' => e = .returned (.int .i64 (ixP test l)) ∧ Below w.heap.size w w' := by
  obtain ⟨hl, a, cap, rfl, hc⟩ := hR.form
  have HR : Hid (RdP w (.slice a l.length cap) l) := hR
  have HT : Hid (∀ (p : Pa) (W : World), Below w.heap.size w W → Calls Tryz.prog g (#[.agg #[.string p.k, .string p.v]] ++ lb) W fun e w' => e = .returned (.bool (test p)) ∧ Below W.heap.size W w') := hT
  clear hR hT
  go_enter Tryz.func51, Tryz.ntmps51
  go_wp2
  go_loopw [8] (fun i wr => ∃ k : Nat, k ≤ l.length ∧ i = .int .i64 k ∧ (∀ j p, j < k → l[j]? = some p → test p = false) ∧ Below w.heap.size w wr) (fun i _ => l.length - (Go.RowKit.intOf i).toNat)
  case atStart => exact ⟨0, Nat.zero_le _, rfl, fun j p hj => by omega, Below.refl _ _⟩
  case round =>
    obtain ⟨k, hk, rfl, hno, hbel⟩ := hrel
    have HN : Hid (∀ j p, j < k → l[j]? = some p → test p = false) := hno
    have HB : Hid (Below w.heap.size w wr) := hbel
    clear hno hbel
    by_cases hlt : k < l.length
    · have hltI : (k : Int) < (l.length : Int) := by omega
      obtain ⟨x, hx⟩ : ∃ x, l[k]? = some x := ⟨_, List.getElem?_eq_getElem hlt⟩
      obtain ⟨b, off, rfl, x0, x1⟩ := (HR.out.below HB.out).get hx
      have Hx : Hid (l[k]? = some x) := hx
      have C := HT.out x wr HB.out
      clear hx
      cases ht : test x with
      | true =>
        rw [ht] at C
        have HC := C
        have Hf : Hid (ixP test l = k) := by
          have e := fiG_hit HN.out Hx.out ht
          show _ = _
          unfold ixP
          rw [e, if_pos hlt]
        clear ht C
        go_wp2_with (go_at_fn g; refine HC.mono ?_; rintro e w' ⟨rfl, hb⟩)
        go_ret
        exact ⟨ret_int Hf.out.symm, bstep HB.out hb⟩
      | false =>
        rw [ht] at C
        have HC := C
        have Hn : Hid (∀ j p, j < k + 1 → l[j]? = some p → test p = false) := fun j p hj hp => by
          by_cases e : j = k
          · subst e
            rw [Hx.out] at hp
            cases hp
            exact ht
          · exact HN.out j p (by omega) hp
        clear ht C
        go_wp2_with (go_at_fn g; refine HC.mono ?_; rintro e w' ⟨rfl, hb⟩)
        go_roundw
        case rel => exact ⟨k + 1, by omega, by go_num, Hn.out, bstep HB.out hb⟩
        case measure => simp [Go.RowKit.intOf]; omega
    · have hge : ¬ (k : Int) < (l.length : Int) := by omega
      have Hf : Hid (ixP test l = -1) := by
        have e := fiG_none (t := test) (l := l) fun p hp => by
          obtain ⟨j, hj⟩ := List.getElem?_of_mem hp
          have hj' := (List.getElem?_eq_some_iff.1 hj).1
          exact HN.out j p (by omega) hj
        show _ = _
        unfold ixP
        rw [e, if_neg (Nat.lt_irrefl _)]
      go_wp2
      go_ret
      exact ⟨ret_int Hf.out.symm, HB.out⟩

/-- 'clear(s)' of pairs. -/
theorem run_clearP (w : World) (b o n c : Nat) (hn : 0 < n) (hc : ∀ j, j < n * 2 → (w.cell? ⟨b, o + j, none⟩).isSome = true) (hf : ∀ j, j < n * 2 → w.frozen? ⟨b, o + j, none⟩ = false) :
    ∃ vs, ∀ ty, (Builtin.clear_ #[23] ty #[.slice (some ⟨b, o, none⟩) n c]).run Tryz.prog w = .ok (.tuple #[]) (w.setCells b o vs) := by
  have hzs : (Builtin.zeroCells (Value.agg #[.string ⟨#[]⟩, .string ⟨#[]⟩]).cells n).toList.length = n * 2 := by
    rw [Array.length_toList, size_zeroCells]
    rfl
  have hone : ∀ v ∈ (Builtin.zeroCells (Value.agg #[.string ⟨#[]⟩, .string ⟨#[]⟩]).cells n).toList, v.oneCell' = true := by
    intro v hv
    simp only [Builtin.zeroCells, Array.toList_map, List.mem_map] at hv
    obtain ⟨i, _, rfl⟩ := hv
    have h2 : i % (Value.agg #[.string ⟨#[]⟩, .string ⟨#[]⟩]).cells.size = 0 ∨ i % (Value.agg #[.string ⟨#[]⟩, .string ⟨#[]⟩]).cells.size = 1 := by
      show i % 2 = 0 ∨ i % 2 = 1
      omega
    rcases h2 with e | e <;> rw [e] <;> rfl
  generalize hZ : Builtin.zeroCells (Value.agg #[.string ⟨#[]⟩, .string ⟨#[]⟩]).cells n = Z at *
  have hst := run_storeCells_cells (P := Tryz.prog) b o Z.toList 0 w (by intro j hj; rw [Nat.add_zero]; exact hc j (by omega)) (by intro j hj; rw [Nat.add_zero]; exact hf j (by omega)) hone
  simp only [Nat.add_zero] at hst
  have hv : ∀ w, (zeroValue 45).run Tryz.prog w = .ok (.agg #[.string ⟨#[]⟩, .string ⟨#[]⟩]) w := Tryz.zeroValue45
  obtain ⟨m, rfl⟩ : ∃ m, n = m + 1 := ⟨n - 1, by omega⟩
  exact ⟨Z.toList, fun ty => by simp [Builtin.clear_, run_underlying Tryz.underlying23, hv, hZ, hst]⟩
theorem cell_sets {g o : Nat} {vs : List Value} {w : World} {j : Nat} (h : j < o) : (w.setCells g o vs).cell? ⟨g, j, none⟩ = w.cell? ⟨g, j, none⟩ :=
  World.cell?_setCells_out g vs o w _ (fun _ _ => .inl h)
theorem BkP.sets {W : World} {g cap : Nat} {D : List Pa} (h : BkP W g cap D) {i o : Nat} (hi : i ≤ D.length) (ho : i * 2 ≤ o) (vs : List Value) : BkP (W.setCells g o vs) g cap (D.take i) := by
  have h2 := h.take i
  refine ⟨blk_sets vs o h.blk, h2.len, h.mx, fun k p hp => ?_⟩
  have hk : k < i := by have := (List.getElem?_eq_some_iff.1 hp).1; rw [List.length_take] at this; omega
  obtain ⟨c1, c2⟩ := h2.at' k p hp
  exact ⟨(cell_sets (by omega)).trans c1, (cell_sets (by omega)).trans c2⟩
theorem below_sets {B g : Nat} (hg : B ≤ g) : ∀ (vs : List Value) (o : Nat) {a w : World}, Below B a w → Below B a (w.setCells g o vs)
  | [], _, _, _, h => h
  | v :: r, o, a, w, h => below_sets hg r (o + 1) (h.setCell (p := ⟨g, o, none⟩) hg v)
theorem filter_next {f : Pa → Bool} {l : List Pa} {j : Nat} {x : Pa} (h : l[j]? = some x) : (l.take (j + 1)).filter f = (l.take j).filter f ++ if f x = true then [x] else [] := by
  rw [take_nextP h, List.filter_append]
  congr 1
  by_cases hf : f x = true
  · rw [if_pos hf, List.filter_cons, if_pos hf]; rfl
  · rw [if_neg hf, List.filter_cons, if_neg hf]; rfl
theorem set_take {D : List Pa} {i : Nat} (h : i < D.length) (x : Pa) : (D.set i x).take (i + 1) = D.take i ++ [x] := by
  rw [List.take_succ_eq_append_getElem (by simpa using h), List.take_set_of_le (Nat.le_refl _)]
  simp
theorem set_drop {D : List Pa} {i j : Nat} (h : i < j) (x : Pa) : (D.set i x).drop j = D.drop j := by
  rw [List.drop_set_of_lt h]
theorem drop_next {D l : List Pa} {j : Nat} (h : D.drop j = l.drop j) : D.drop (j + 1) = l.drop (j + 1) := by
  rw [← List.drop_drop, h, List.drop_drop]
theorem woP_keep {l : List Pa} {key : ByteArray} {k : Nat} (h : ∀ j p, j < k → l[j]? = some p → tE p.k key = false) (hk : k ≤ l.length) : (l.take k).filter (fun p => !tE p.k key) = l.take k := by
  rw [List.filter_eq_self]
  intro p hp
  obtain ⟨j, hj⟩ := List.getElem?_of_mem hp
  rw [List.getElem?_take] at hj
  split at hj
  · rw [h j p (by assumption) hj]; rfl
  · cases hj
end Go.Proofs.YtcgclhahonndbaaGreat
