/- Layer 12: a leaf's own records: rows of records; the first place that is told among them. -/
import Derived.Test.YtcgclhahonndbaaPai
import Derived.Test.YtcgclhahonndbaaAmown
namespace Go.Proofs.Ytcgclhahonndbaa
open Go.RowKit Go.Shelf
set_option linter.unusedVariables false

/-- The cells of records. -/
def rx1 (x : Rc) : List Value := [.int .i64 x.k, .string x.key, .string x.val, .int .i64 x.ch]
def rxs (l : List Rc) : List Value := l.flatMap rx1
theorem rxs_length (l : List Rc) : (rxs l).length = l.length * 4 := by
  induction l with
  | nil => rfl
  | cons p ps ih => simp only [rxs, List.flatMap_cons, List.length_append, List.length_cons] at *; rw [ih]; simp [rx1]; omega
theorem rxs_append (ps qs : List Rc) : rxs (ps ++ qs) = rxs ps ++ rxs qs := by simp [rxs]
theorem rxs_at (ps : List Rc) (k : Nat) (hk : k < ps.length) (i : Nat) (hi : i < 4) : (rxs ps)[k * 4 + i]? = (rx1 (ps[k]'hk))[i]? := by
  induction ps generalizing k with
  | nil => simp at hk
  | cons p ps ih =>
    have e : rxs (p :: ps) = rx1 p ++ rxs ps := by simp [rxs]
    rw [e]
    cases k with
    | zero =>
      rw [Nat.zero_mul, Nat.zero_add, List.getElem?_append_left (by simp [rx1]; omega)]
      rfl
    | succ k =>
      rw [List.getElem?_append_right (by simp [rx1]; omega)]
      have : (k + 1) * 4 + i - (rx1 p).length = k * 4 + i := by simp [rx1]; omega
      rw [this, ih k (by simpa using hk)]
      rfl
theorem rx1_one (x : Rc) : ∀ u ∈ rx1 x, u.oneCell' = true := by
  intro u hu
  simp only [rx1, List.mem_cons, List.not_mem_nil, or_false] at hu
  rcases hu with rfl | rfl | rfl | rfl <;> rfl
/-- A block of records, which has these first. -/
structure BkR (W : World) (g : Nat) (D : List Rc) : Prop where
  blk : ∃ cur, W.heap[g]? = some (.cells cur 48 (0, 0))
  at' : ∀ k x, D[k]? = some x → W.cell? ⟨g, k * 4, none⟩ = some (.int .i64 x.k) ∧ W.cell? ⟨g, k * 4 + 1, none⟩ = some (.string x.key) ∧ W.cell? ⟨g, k * 4 + 2, none⟩ = some (.string x.val) ∧ W.cell? ⟨g, k * 4 + 3, none⟩ = some (.int .i64 x.ch)
theorem BkR.lt {W : World} {g : Nat} {D : List Rc} (h : BkR W g D) : g < W.heap.size := by
  obtain ⟨cur, h⟩ := h.blk
  exact (Array.getElem?_eq_some_iff.1 h).1
/-- Whatever keeps the block keeps the records. -/
theorem BkR.of_blk {W W' : World} {g : Nat} {D : List Rc} (h : BkR W g D) (hb : ∀ cs fz, W.heap[g]? = some (.cells cs 48 fz) → W'.heap[g]? = some (.cells cs 48 fz)) : BkR W' g D := by
  obtain ⟨cur, h1⟩ := h.blk
  have h2 := hb _ _ h1
  have hc : ∀ j, W'.cell? ⟨g, j, none⟩ = W.cell? ⟨g, j, none⟩ := fun j => by simp [World.cell?, h1, h2]
  refine ⟨⟨cur, h2⟩, fun k x hx => ?_⟩
  rw [hc, hc, hc, hc]
  exact h.at' k x hx
theorem BkR.below {W W' : World} {g : Nat} {D : List Rc} (h : BkR W g D) (hb : Below W.heap.size W W') : BkR W' g D :=
  h.of_blk fun cs fz hc => (hb.block g h.lt).trans hc
theorem BkR.take {W : World} {g : Nat} {D : List Rc} (h : BkR W g D) (i : Nat) : BkR W g (D.take i) := by
  refine ⟨h.blk, fun k p hp => ?_⟩
  rw [List.getElem?_take] at hp
  split at hp
  · exact h.at' k p hp
  · cases hp
/-- A row of records of the call's own, or a beginning of one. -/
def OwR (W : World) (base : Nat) (v : Value) (D : List Rc) : Prop := ∃ a c, v = .slice a D.length c ∧ D.length ≤ c ∧ c ≤ maxLen ∧ ((D = [] ∧ (a = none → c = 0)) ∨ ∃ g, a = some ⟨g, 0, none⟩ ∧ base ≤ g ∧ BkR W g D)
theorem OwR.below {W W' : World} {base : Nat} {v : Value} {D : List Rc} (h : OwR W base v D) (hb : Below W.heap.size W W') : OwR W' base v D := by
  obtain ⟨a, c, e, h1, h2, h3⟩ := h
  refine ⟨a, c, e, h1, h2, ?_⟩
  rcases h3 with h | ⟨g, e, h4, h5⟩
  · exact .inl h
  · exact .inr ⟨g, e, h4, h5.below hb⟩
theorem OwR.of_own {W : World} {base : Nat} {v : Value} {D : List Rc} (h : W.ownsRow base 48 4 v D.length (rxs D)) : OwR W base v D := by
  have h0 := h
  rcases h.2 with ⟨rfl, e⟩ | ⟨g, cap, cur, rfl, hg, hgb, hncap, hmax, hsz, htk⟩
  · exact ⟨none, 0, by rw [e], by omega, by unfold maxLen; omega, .inl ⟨List.eq_nil_of_length_eq_zero e, fun _ => rfl⟩⟩
  · refine ⟨_, _, rfl, hncap, hmax, .inr ⟨g, rfl, hg, ⟨cur, hgb⟩, fun k x hx => ?_⟩⟩
    obtain ⟨hk, rfl⟩ := List.getElem?_eq_some_iff.1 hx
    have key : ∀ (i : Nat) u, i < 4 → (rx1 D[k])[i]? = some u → W.cell? ⟨g, k * 4 + i, none⟩ = some u := fun i u hi hu => by
      have := h0.cells rfl (k * 4 + i) u (by rw [rxs_at D k hk i hi]; exact hu)
      rwa [Addr.add_lit, Nat.zero_add] at this
    exact ⟨key 0 _ (by omega) rfl, key 1 _ (by omega) rfl, key 2 _ (by omega) rfl, key 3 _ (by omega) rfl⟩
theorem Try.info48 : (Try.prog.info? 48).map (fun i => (i.zero, i.size, i.bytes)) = some (some (.agg #[.int .i64 0, .string ⟨#[]⟩, .string ⟨#[]⟩, .int .i64 0]), 4, 48) := by kernel_rfl
theorem lit_rdc (W : World) (t : TypeId) (cs : List Value) (k b : Nat) (h : cs.length = k) (hb : b = W.heap.size) : RdC (W.alloc (.cells cs.toArray t)) k (.slice (some ⟨b, 0, none⟩) 1 1) 1 cs := by
  subst hb
  refine ⟨by omega, by omega, _, _, rfl, Nat.le_refl _, .inr ⟨W.heap.size, 0, rfl, by simp, fun j u hu => ?_⟩⟩
  have := World.cell?_alloc_at (w := W) cs.toArray t W.heap.size (0 + j) rfl
  rw [this, Nat.zero_add]
  simpa using hu
theorem take_nextR {α : Type} {l : List α} {k : Nat} {x : α} (h : l[k]? = some x) : l.take (k + 1) = l.take k ++ [x] := by
  obtain ⟨hk, rfl⟩ := List.getElem?_eq_some_iff.1 h
  exact List.take_succ_eq_append_getElem hk

set_option maxRecDepth 100000 in
set_option maxHeartbeats 1000000 in
theorem placeR_any (g : Nat) (lb : Array Value) (test : Rc → Bool) (eg : ∀ args w, (callFunc g args).run Try.prog w = .ok (.enter g args) w) (base : Nat) (v : Value) (l : List Rc) (w : World) (hR : OwR w base v l)
    (hT : ∀ (p : Rc) (W : World), Below w.heap.size w W → Calls Try.prog g (#[.agg #[.int .i64 p.k, .string p.key, .string p.val, .int .i64 p.ch]] ++ lb) W fun e w' => e = .returned (.bool (test p)) ∧ Below W.heap.size W w') :
    Calls Try.prog 86 #[v, .func (.func g) #[] lb] w fun e w' => e = .returned (.int .i64 (fiG test l : Nat)) ∧ Below w.heap.size w w' := by
  have HR : Hid (OwR w base v l) := hR
  obtain ⟨a, cap, rfl, hc, hm, h3⟩ := hR
  have HT : Hid (∀ (p : Rc) (W : World), Below w.heap.size w W → Calls Try.prog g (#[.agg #[.int .i64 p.k, .string p.key, .string p.val, .int .i64 p.ch]] ++ lb) W fun e w' => e = .returned (.bool (test p)) ∧ Below W.heap.size W w') := hT
  clear h3 hT
  unfold maxLen at hm
  go_enter Try.func86, Try.ntmps86
  go_wp2
  go_loopw [9] (fun i wr => ∃ k : Nat, k ≤ l.length ∧ i = .int .i64 k ∧ (∀ j p, j < k → l[j]? = some p → test p = false) ∧ Below w.heap.size w wr) (fun i _ => l.length - (Go.RowKit.intOf i).toNat)
  case atStart => exact ⟨0, Nat.zero_le _, rfl, fun j p hj => by omega, Below.refl _ _⟩
  case round =>
    obtain ⟨k, hk, rfl, hno, hbel⟩ := hrel
    have HN : Hid (∀ j p, j < k → l[j]? = some p → test p = false) := hno
    have HB : Hid (Below w.heap.size w wr) := hbel
    clear hno hbel
    by_cases hlt : k < l.length
    · have hltI : (k : Int) < (l.length : Int) := by omega
      obtain ⟨x, hx⟩ : ∃ x, l[k]? = some x := ⟨_, List.getElem?_eq_getElem hlt⟩
      obtain ⟨a', c', e', _, _, h3⟩ := HR.out.below HB.out
      cases e'
      rcases h3 with ⟨h0, _⟩ | ⟨b, rfl, _, hbk⟩
      · rw [h0] at hlt; simp at hlt
      obtain ⟨x0, x1, x2, x3⟩ := hbk.at' k x hx
      have Hx : Hid (l[k]? = some x) := hx
      have C := HT.out x (wr.alloc (.cells #[.int .i64 x.k, .string x.key, .string x.val, .int .i64 x.ch] 48)) (pal HB.out _)
      clear hx hbk
      cases ht : test x with
      | true =>
        rw [ht] at C
        have HC := C
        have Hf : Hid (fiG test l = k) := fiG_hit HN.out Hx.out ht
        clear ht C
        go_wp2_with (go_at_fn g; refine HC.mono ?_; rintro e w' ⟨rfl, hb⟩)
        go_ret
        exact ⟨ret_int (by rw [Hf.out]), bstep (pal HB.out _) hb⟩
      | false =>
        rw [ht] at C
        have HC := C
        have Hn : Hid (∀ j p, j < k + 1 → l[j]? = some p → test p = false) := fun j p hj hp => by
          by_cases e : j = k
          · subst e
            rw [Hx.out] at hp
            cases hp
            exact ht
          · exact HN.out j p (by omega) hp
        clear ht C
        go_wp2_with (go_at_fn g; refine HC.mono ?_; rintro e w' ⟨rfl, hb⟩)
        go_roundw
        case rel => exact ⟨k + 1, by omega, by go_num, Hn.out, bstep (pal HB.out _) hb⟩
        case measure => simp [Go.RowKit.intOf]; omega
    · have hge : ¬ (k : Int) < (l.length : Int) := by omega
      have Hf : Hid (fiG test l = l.length) := fiG_none fun p hp => by
        obtain ⟨j, hj⟩ := List.getElem?_of_mem hp
        have hj' := (List.getElem?_eq_some_iff.1 hj).1
        exact HN.out j p (by omega) hj
      go_wp2
      go_ret
      exact ⟨ret_int (by rw [Hf.out]), HB.out⟩
theorem ge_any (p : Rc) (key : ByteArray) (b : Nat) (w : World) (hc : w.cell? ⟨b, 0, none⟩ = some (.string key)) : Calls Try.prog 87 (#[.agg #[.int .i64 p.k, .string p.key, .string p.val, .int .i64 p.ch]] ++ #[.pointer (some ⟨b, 0, none⟩)]) w fun e w' => e = .returned (.bool (!tL p.key key)) ∧ Below w.heap.size w w' := by
  have hlt := World.block_lt_of_cell? _ _ hc
  go_enter Try.func87, Try.ntmps87
  go_wp2
  go_ret
  exact ⟨ret_bool rfl, (Below.refl _ _).alloc (Nat.le_refl _) _⟩
end Go.Proofs.Ytcgclhahonndbaa
