/- Layer 12: slices.Insert of one pair into a row of the call's own; Without, With. -/
import Derived.Test.YtcgclhahonndbaaGreatPah
namespace Go.Proofs.YtcgclhahonndbaaGreat
open Go.RowKit Go.Shelf Go.Lib
set_option linter.unusedVariables false
set_option linter.unusedSimpArgs false

/-- One is put in at a place. -/
def insP (D : List Pa) (i : Nat) (x : Pa) : List Pa := D.take i ++ x :: D.drop i
theorem insP_length {D : List Pa} {i : Nat} {x : Pa} (h : i ≤ D.length) : (insP D i x).length = D.length + 1 := by
  simp [insP]; omega
theorem insP_lt {D : List Pa} {i : Nat} {x : Pa} (h : i ≤ D.length) {j : Nat} (hj : j < i) : (insP D i x)[j]? = D[j]? := by
  unfold insP
  rw [List.getElem?_append_left (by simp; omega), List.getElem?_take, if_pos hj]
theorem insP_eq {D : List Pa} {i : Nat} {x : Pa} (h : i ≤ D.length) : (insP D i x)[i]? = some x := by
  unfold insP
  rw [List.getElem?_append_right (by simp; exact Nat.min_le_left _ _)]
  simp [Nat.min_eq_left h]
theorem insP_gt {D : List Pa} {i : Nat} {x : Pa} (h : i ≤ D.length) {j : Nat} (hj : i ≤ j) : (insP D i x)[j + 1]? = D[j]? := by
  unfold insP
  rw [List.getElem?_append_right (by simp; omega)]
  simp only [List.length_take, Nat.min_eq_left h]
  rw [show j + 1 - i = (j - i) + 1 by omega, List.getElem?_cons_succ, List.getElem?_drop]
  congr 1
  omega
theorem insP_end (D : List Pa) (x : Pa) : insP D D.length x = D ++ [x] := by simp [insP]
theorem inP_ins (x : Pa) : ∀ (D : List Pa), inP x D = insP D (fiG (fun q => tL x.k q.k) D) x
  | [] => rfl
  | q :: r => by
    unfold inP fiG
    split
    · rfl
    · rw [inP_ins x r]; rfl
theorem BkP.of_ins {W : World} {g cap i : Nat} {D : List Pa} {x : Pa} (hblk : ∃ cur, W.heap[g]? = some (.cells cur 45 (0, 0)) ∧ cur.size = cap * 2) (hmx : cap ≤ maxLen) (hlen : D.length + 1 ≤ cap) (hi : i ≤ D.length)
    (hA : ∀ k p, k < i → D[k]? = some p → W.cell? ⟨g, k * 2, none⟩ = some (.string p.k) ∧ W.cell? ⟨g, k * 2 + 1, none⟩ = some (.string p.v))
    (hX : W.cell? ⟨g, i * 2, none⟩ = some (.string x.k) ∧ W.cell? ⟨g, i * 2 + 1, none⟩ = some (.string x.v))
    (hR : ∀ k p, i ≤ k → D[k]? = some p → W.cell? ⟨g, (k + 1) * 2, none⟩ = some (.string p.k) ∧ W.cell? ⟨g, (k + 1) * 2 + 1, none⟩ = some (.string p.v)) : BkP W g cap (insP D i x) := by
  refine ⟨hblk, by rw [insP_length hi]; omega, hmx, fun k p hp => ?_⟩
  by_cases h1 : k < i
  · rw [insP_lt hi h1] at hp
    exact hA k p h1 hp
  · by_cases h2 : k = i
    · subst h2
      rw [insP_eq hi] at hp
      cases hp
      exact hX
    · obtain ⟨j, rfl⟩ : ∃ j, k = j + 1 := ⟨k - 1, by omega⟩
      rw [insP_gt hi (by omega)] at hp
      exact hR j p (by omega) hp
theorem sets_in {W : World} {g o : Nat} {D : List Pa} (hs : ∀ j, j < D.length * 2 → (W.cell? ⟨g, o + j, none⟩).isSome = true) {k : Nat} {p : Pa} (hp : D[k]? = some p) :
    (W.setCells g o (pcs D)).cell? ⟨g, o + k * 2, none⟩ = some (.string p.k) ∧ (W.setCells g o (pcs D)).cell? ⟨g, o + (k * 2 + 1), none⟩ = some (.string p.v) := by
  have hk := (List.getElem?_eq_some_iff.1 hp).1
  have h1 := World.cell?_setCells_in g (pcs D) o W (by rw [pcs_length]; exact hs) (k * 2) (by rw [pcs_length]; omega)
  have h2 := World.cell?_setCells_in g (pcs D) o W (by rw [pcs_length]; exact hs) (k * 2 + 1) (by rw [pcs_length]; omega)
  have e1 := pcs_k hp
  have e2 := pcs_v hp
  rw [List.getElem?_eq_getElem (by rw [pcs_length]; omega)] at e1 e2
  rw [h1, h2]
  exact ⟨e1, e2⟩
theorem sets_out {W : World} {g o j : Nat} {vs : List Value} (h : j < o ∨ o + vs.length ≤ j) : (W.setCells g o vs).cell? ⟨g, j, none⟩ = W.cell? ⟨g, j, none⟩ := World.cell?_setCells_out g vs o W _ (fun _ _ => h)

set_option maxRecDepth 100000 in
set_option maxHeartbeats 2000000 in
theorem insertP_any (v : Value) (l : List Pa) (i : Nat) (x : Pa) (base vb : Nat) (w : World) (hO : OwnP w base v l) (hi : i ≤ l.length) (hl : l.length ≤ 1000) (hb : w.heap[vb]? = some (.cells #[.string x.k, .string x.v] 45 (0, 0)))
    (hne : ∀ g, v.ownBlock = some g → vb ≠ g) (hbase : base ≤ w.heap.size) :
    Calls Tryz.prog 31 #[v, .int .i64 i, .slice (some ⟨vb, 0, none⟩) 1 1] w fun e w' => ∃ v', e = .returned v' ∧ OwnP w' base v' (insP l i x) ∧ Below base w w' := by
  have hvs : ∀ (j : Nat) u, (pcs [x])[j]? = some u → w.cell? ⟨vb, 0 + j, none⟩ = some u := by
    refine pcs_all (f := fun j => w.cell? ⟨vb, 0 + j, none⟩) ?_
    intro k p hp
    match k, hp with
    | 0, hp => cases hp; exact ⟨by simp [World.cell?, hb], by simp [World.cell?, hb]⟩
    | k + 1, hp => simp at hp
  by_cases hlt : i < l.length
  · rcases hO.form with ⟨_, rfl⟩ | ⟨g, cap, rfl, hg, hB⟩
    · simp at hlt
    have hcs : ∀ (j : Nat) u, (pcs l)[j]? = some u → w.cell? ⟨g, 0 + j, none⟩ = some u := pcs_all (f := fun j => w.cell? ⟨g, 0 + j, none⟩) (fun k p hp => by simpa using hB.at' k p hp)
    have hvg : vb ≠ g := hne g rfl
    obtain ⟨cur, hgb, hsz⟩ := hB.blk
    by_cases hroom : l.length + 1 ≤ cap
    · refine (insert_shift g 0 l.length cap i vb 0 1 1 l [x] w hlt (by omega) hroom (by have := hB.mx; unfold maxLen at this; omega) hvg rfl rfl hcs (fun j hj => by rw [Nat.zero_add]; exact hB.sm j (by omega)) (fun j _ => by rw [Nat.zero_add]; exact hB.frozen j) hvs 45 45 2 (cap * 2) (by simp [World.shape?, hb]) (by simp [World.shape?, hgb, hsz]) (by omega) (by simp [World.frozen?, hb]) (by simp [World.frozen?, hb])).mono ?_
      rintro e w' ⟨rfl, rfl⟩
      rw [Nat.zero_add, Nat.zero_add]
      have hsm : ∀ j, j < cap * 2 → ((w.drew).cell? ⟨g, j, none⟩).isSome = true := fun j hj => hB.sm j hj
      have hsm1 : ∀ j, j < cap * 2 → ((w.drew.setCells g ((i + 1) * 2) (pcs (l.drop i))).cell? ⟨g, j, none⟩).isSome = true := fun j hj => isSome_setCells _ _ _ _ (fun t ht => hsm _ (by rw [pcs_length, List.length_drop] at ht; omega)) _ (hsm j hj)
      have hfin : BkP ((w.drew.setCells g ((i + 1) * 2) (pcs (l.drop i))).setCells g (i * 2) (pcs [x])) g cap (insP l i x) := by
        refine BkP.of_ins (blk_sets _ _ (blk_sets _ _ ⟨cur, hgb, hsz⟩)) hB.mx hroom hi ?_ ?_ ?_
        · intro k p hk hp
          obtain ⟨c1, c2⟩ := hB.at' k p hp
          refine ⟨?_, ?_⟩
          · rw [sets_out (.inl (by omega)), sets_out (.inl (by omega))]; exact c1
          · rw [sets_out (.inl (by omega)), sets_out (.inl (by omega))]; exact c2
        · have := sets_in (D := [x]) (o := i * 2) (fun j hj => hsm1 _ (by simp at hj; omega)) (k := 0) (p := x) rfl
          simpa using this
        · intro k p hk hp
          have := sets_in (W := w.drew) (D := l.drop i) (o := (i + 1) * 2) (fun j hj => hsm _ (by rw [List.length_drop] at hj; omega)) (k := k - i) (p := p) (by rw [List.getElem?_drop, show i + (k - i) = k by omega]; exact hp)
          rw [show (i + 1) * 2 + (k - i) * 2 = (k + 1) * 2 by omega, show (i + 1) * 2 + ((k - i) * 2 + 1) = (k + 1) * 2 + 1 by omega] at this
          have hx2 : (pcs [x]).length = 2 := rfl
          refine ⟨?_, ?_⟩
          · rw [sets_out (.inr (by rw [hx2]; omega))]; exact this.1
          · rw [sets_out (.inr (by rw [hx2]; omega))]; exact this.2
      have hown := hfin.own hg
      rw [insP_length hi] at hown
      exact ⟨_, rfl, hown, below_sets hg _ _ (below_sets hg _ _ ((Below.refl _ _).drew))⟩
    · refine (insert_grow g 0 l.length cap i vb 0 1 1 l [x] w hlt (by omega) hB.len (by omega) (by omega) rfl rfl hcs hvs).mono ?_
      rintro e w' ⟨ROW, G, rfl, hR1, hR2, hR3, hR4, rfl⟩
      have hgb1 : (w.alloc (.cells ROW 45)).drew.heap[w.heap.size]? = some (.cells ROW 45 (0, 0)) := heap_alloc_new w (.cells ROW 45)
      have hcR : ∀ j, (w.alloc (.cells ROW 45)).drew.cell? ⟨w.heap.size, j, none⟩ = ROW[j]? := fun j => World.cell?_alloc_at (w := w) ROW _ w.heap.size j rfl
      have hsm : ∀ j, j < G * 2 → ((w.alloc (.cells ROW 45)).drew.cell? ⟨w.heap.size, j, none⟩).isSome = true := fun j hj => by rw [hcR, Array.getElem?_eq_getElem (by omega)]; rfl
      have hx2 : (pcs [x]).length = 2 := rfl
      have hsm1 : ∀ j, j < G * 2 → (((w.alloc (.cells ROW 45)).drew.setCells w.heap.size (i * 2) (pcs [x])).drew.cell? ⟨w.heap.size, j, none⟩).isSome = true := fun j hj => isSome_setCells _ _ _ _ (fun t ht => hsm _ (by rw [hx2] at ht; omega)) _ (hsm j hj)
      have hfin : BkP (((w.alloc (.cells ROW 45)).drew.setCells w.heap.size (i * 2) (pcs [x])).drew.setCells w.heap.size ((i + 1) * 2) (pcs (l.drop i))) w.heap.size G (insP l i x) := by
        refine BkP.of_ins (blk_sets _ _ (W := ((w.alloc (.cells ROW 45)).drew.setCells w.heap.size (i * 2) (pcs [x])).drew) (blk_sets (W := (w.alloc (.cells ROW 45)).drew) _ _ ⟨ROW, hgb1, hR1⟩)) hR3 (by omega) hi ?_ ?_ ?_
        · intro k p hk hp
          have h1 := hR4 (k * 2) _ (pcs_k (l := l.take i) (k := k) (p := p) (by rw [List.getElem?_take, if_pos hk]; exact hp))
          have h2 := hR4 (k * 2 + 1) _ (pcs_v (l := l.take i) (k := k) (p := p) (by rw [List.getElem?_take, if_pos hk]; exact hp))
          refine ⟨?_, ?_⟩
          · rw [sets_out (.inl (by omega))]
            exact (sets_out (.inl (by omega))).trans ((hcR _).trans h1)
          · rw [sets_out (.inl (by omega))]
            exact (sets_out (.inl (by omega))).trans ((hcR _).trans h2)
        · have := sets_in (W := (w.alloc (.cells ROW 45)).drew) (D := [x]) (o := i * 2) (fun j hj => hsm _ (by simp at hj; omega)) (k := 0) (p := x) rfl
          refine ⟨?_, ?_⟩
          · rw [sets_out (.inl (by omega))]
            simpa using this.1
          · rw [sets_out (.inl (by omega))]
            simpa using this.2
        · intro k p hk hp
          have := sets_in (W := ((w.alloc (.cells ROW 45)).drew.setCells w.heap.size (i * 2) (pcs [x])).drew) (D := l.drop i) (o := (i + 1) * 2) (fun j hj => hsm1 _ (by rw [List.length_drop] at hj; omega)) (k := k - i) (p := p) (by rw [List.getElem?_drop, show i + (k - i) = k by omega]; exact hp)
          rwa [show (i + 1) * 2 + (k - i) * 2 = (k + 1) * 2 by omega, show (i + 1) * 2 + ((k - i) * 2 + 1) = (k + 1) * 2 + 1 by omega] at this
      have hown := hfin.own (base := base) hbase
      rw [insP_length hi] at hown
      exact ⟨_, rfl, hown, below_sets hbase _ _ ((below_sets hbase _ _ (((Below.refl base w).alloc hbase _).drew)).drew)⟩
  · obtain rfl : i = l.length := by omega
    obtain ⟨i0, hi0, hz0, hz1, hz2⟩ := info_parts Tryz.info45
    have H : Hid (∀ (a : Act) (ops : Array Oper) (rest : List Oper) (o : Oper) (Q : Exit → Act → World → Prop) (s t : Operand), o.guard = none → o.op = .call { callee := .builtin .append, args := #[s, t], argTypes := #[23, 23] } → a.eval s = v → a.eval t = .slice (some ⟨vb, 0, none⟩) 1 1 →
        (∀ v' w', OwnP w' base v' (insP l l.length x) → Below base w w' → wpList Tryz.prog ops Q rest (a.put o.dst v') w') → wpList Tryz.prog ops Q (o :: rest) a w) := fun a ops rest o Q s t hgd ho hs ht hk =>
      wpList_append_own w hgd s t 23 ho base 45 i0 _ 2 32 Tryz.underlying23 hi0 hz0 hz1 hz2 rfl (by decide) v l.length (pcs l) hs hO ⟨vb, 0, none⟩ 1 1 (pcs [x]) ht rfl (fun j u hj => by rw [Addr.add_lit]; exact hvs j u hj) (pcs_one _) (by unfold maxLen; omega) (by omega) hbase (fun v' w' h1 h2 _ => hk v' w' (by
        rw [insP_end]
        unfold OwnP
        rw [List.length_append, pcs_append]
        exact h1) ((Below.refl base w).grown h2 hbase (fun k hk => (World.ownsRow.lt hO k hk).1)))
    rcases hO.form with ⟨rfl, rfl⟩ | ⟨g, cap, rfl, hg, hB⟩
    · clear hvs hO
      go_enter Tryz.func31, Tryz.ntmps31
      go_wp2_with (at_builtin; refine H.out _ _ _ _ _ _ _ rfl rfl rfl rfl ?_; intro v' w' o1 b1)
      go_ret
      exact ⟨_, rfl, o1, b1⟩
    · have hcI : (l.length : Int) ≤ (cap : Int) := by have := hB.len; omega
      clear hvs hO hB
      go_enter Tryz.func31, Tryz.ntmps31
      go_wp2_with (at_builtin; refine H.out _ _ _ _ _ _ _ rfl rfl rfl rfl ?_; intro v' w' o1 b1)
      all_goals
        go_ret
        exact ⟨_, rfl, o1, b1⟩

set_option maxRecDepth 100000 in
set_option maxHeartbeats 1000000 in
theorem without_any (v : Value) (l : List Pa) (key : ByteArray) (w : World) (hR : RdP w v l) : Calls Tryz.prog 15 #[v, .string key] w fun e w' => ∃ v', e = .returned v' ∧ OwnP w' w.heap.size v' (woP l key) ∧ Below w.heap.size w w' := by
  have B0 := (Below.refl w.heap.size w).alloc (Nat.le_refl _) (.cells #[.string key] 9)
  have HB0 : Hid (Below w.heap.size w (w.alloc (.cells #[.string key] 9))) := B0
  have HR : Hid (RdP (w.alloc (.cells #[.string key] 9)) v l) := hR.below B0
  have hl := hR.form.1
  have hcell : (w.alloc (.cells #[.string key] 9)).cell? ⟨w.heap.size, 0, none⟩ = some (.string key) := by have := cell_one_new w (.string key) 9 0 (.string key) rfl; rwa [Addr.add_lit] at this
  have HC : Hid ((w.alloc (.cells #[.string key] 9)).cell? ⟨w.heap.size, 0, none⟩ = some (.string key)) := hcell
  have hsz : (w.alloc (.cells #[.string key] 9)).heap.size = w.heap.size + 1 := by simp
  have HS : Hid ((w.alloc (.cells #[.string key] 9)).heap.size = w.heap.size + 1) := hsz
  have hmf : ∀ (fn : Fn) (first cap : Array Value) (w : World), (Instr.makeFunc fn first cap).run Tryz.prog w = .ok (.func fn first cap) w := fun _ _ _ _ => rfl
  clear hR B0 hcell hsz
  go_enter Tryz.func15, Tryz.ntmps15
  go_wp2_with (first
    | (go_at_call 33; refine (cloneP_any _ _ _ HR.out).mono ?_; rintro e w1 ⟨v1, rfl, o1, hb1⟩; have O1 : Hid (OwnP w1 (w.heap.size + 1) v1 l) := (by have := o1; rwa [HS.out] at this); have B1 : Hid (Below (w.heap.size + 1) (w.alloc (.cells #[.string key] 9)) w1) := (by have := hb1; rwa [HS.out] at this); clear o1 hb1)
    | (go_at_call 32; refine (deleteP_any _ l (w.heap.size + 1) w.heap.size key _ O1.out hl ((B1.out.cell (p := ⟨w.heap.size, 0, none⟩) (Nat.lt_succ_self _)).trans HC.out) (Nat.lt_succ_self _) (by have := B1.out.size; have := HS.out; omega)).mono ?_; rintro e w2 ⟨v2, rfl, o2, hb2⟩))
  go_ret
  exact ⟨_, rfl, o2.mono (Nat.le_succ _), HB0.out.trans ((B1.out.trans hb2).mono (Nat.le_succ _))⟩

set_option maxRecDepth 100000 in
set_option maxHeartbeats 1000000 in
theorem with_any (v : Value) (l : List Pa) (key val : ByteArray) (w : World) (hR : RdP w v l) : Calls Tryz.prog 13 #[v, .string key, .string val] w fun e w' => ∃ v', e = .returned v' ∧ OwnP w' w.heap.size v' (wiP l key val) ∧ Below w.heap.size w w' := by
  have B0 := (Below.refl w.heap.size w).alloc (Nat.le_refl _) (.cells #[.string key] 9)
  have HB0 : Hid (Below w.heap.size w (w.alloc (.cells #[.string key] 9))) := B0
  have HR : Hid (RdP (w.alloc (.cells #[.string key] 9)) v l) := hR.below B0
  have hl := hR.form.1
  have hcell : (w.alloc (.cells #[.string key] 9)).cell? ⟨w.heap.size, 0, none⟩ = some (.string key) := by have := cell_one_new w (.string key) 9 0 (.string key) rfl; rwa [Addr.add_lit] at this
  have HC : Hid ((w.alloc (.cells #[.string key] 9)).cell? ⟨w.heap.size, 0, none⟩ = some (.string key)) := hcell
  have hsz : (w.alloc (.cells #[.string key] 9)).heap.size = w.heap.size + 1 := by simp
  have HS : Hid ((w.alloc (.cells #[.string key] 9)).heap.size = w.heap.size + 1) := hsz
  have hmf : ∀ (fn : Fn) (first cap : Array Value) (w : World), (Instr.makeFunc fn first cap).run Tryz.prog w = .ok (.func fn first cap) w := fun _ _ _ _ => rfl
  have hlw : (woP l key).length ≤ 1000 := Nat.le_trans (woP_len l key) hl
  have Hin : Hid (wiP l key val = insP (woP l key) (fiG (fun q => tL key q.k) (woP l key)) ⟨key, val⟩) := inP_ins ⟨key, val⟩ _
  have hfl := fiG_le (t := fun q : Pa => tL key q.k) (woP l key)
  obtain ⟨M, hM⟩ : ∃ M, M = woP l key := ⟨_, rfl⟩
  have Wo : Hid (∀ v W, RdP W v l → Calls Tryz.prog 15 #[v, .string key] W fun e w' => ∃ v', e = .returned v' ∧ OwnP w' W.heap.size v' M ∧ Below W.heap.size W w') := fun v W h => by rw [hM]; exact without_any v l key W h
  rw [← hM] at Hin hfl hlw
  obtain ⟨f, hf⟩ : ∃ f, f = fiG (fun q : Pa => tL key q.k) M := ⟨_, rfl⟩
  have Pl : Hid (∀ v W, RdP W v M → W.cell? ⟨w.heap.size, 0, none⟩ = some (.string key) → Calls Tryz.prog 28 #[v, .func (.func 30) #[] #[.pointer (some ⟨w.heap.size, 0, none⟩)]] W fun e w' => e = .returned (.int .i64 (f : Nat)) ∧ Below W.heap.size W w') := fun v W h hc => by
    rw [hf]
    exact placeP_any 30 #[.pointer (some ⟨w.heap.size, 0, none⟩)] (fun q => tL key q.k) (enters_of Tryz.func30 (by kernel_rfl) rfl) v M W h (fun p W' hb => gt_any p key w.heap.size W' ((hb.cell (p := ⟨w.heap.size, 0, none⟩) (World.block_lt_of_cell? _ _ hc)).trans hc))
  rw [← hf] at Hin hfl
  clear hR B0 hcell hsz hf hM
  go_enter Tryz.func13, Tryz.ntmps13
  go_wp2_with (first
    | (go_at_call 15; refine (Wo.out _ _ HR.out).mono ?_; rintro e w1 ⟨v1, rfl, o1, hb1⟩; have O1 : Hid (OwnP w1 (w.heap.size + 1) v1 M) := (by have := o1; rwa [HS.out] at this); have B1 : Hid (Below (w.heap.size + 1) (w.alloc (.cells #[.string key] 9)) w1) := (by have := hb1; rwa [HS.out] at this); have C1 : Hid (w1.cell? ⟨w.heap.size, 0, none⟩ = some (.string key)) := (B1.out.cell (p := ⟨w.heap.size, 0, none⟩) (Nat.lt_succ_self _)).trans HC.out; clear o1 hb1)
    | (go_at_call 28; refine (Pl.out _ _ (O1.out.rd hlw) C1.out).mono ?_; rintro e w2 ⟨rfl, hb2⟩; have O2 : Hid (OwnP w2 (w.heap.size + 1) v1 M) := O1.out.below hb2; have hz1 : w.heap.size + 1 ≤ w1.heap.size := (by have := B1.out.size; have := HS.out; omega); have B2 : Hid (Below (w.heap.size + 1) (w.alloc (.cells #[.string key] 9)) w2) := B1.out.trans (hb2.mono hz1); have hc2 : w2.cell? ⟨w.heap.size, 0, none⟩ = some (.string key) := (hb2.cell (p := ⟨w.heap.size, 0, none⟩) (World.block_lt_of_cell? _ _ C1.out)).trans C1.out; have hz2 : w.heap.size + 1 ≤ w2.heap.size := Nat.le_trans hz1 hb2.size; clear hb2 hz1)
    | (go_at_call 31; refine (insertP_any _ M f ⟨key, val⟩ (w.heap.size + 1) w2.heap.size _ (O2.out.below ((Below.refl _ _).alloc (Nat.le_refl _) _)) hfl hlw (heap_alloc_new w2 _) (fun g hg => by have := (World.ownsRow.lt O2.out g hg).2; omega) (by simp; omega)).mono ?_; rintro e w3 ⟨v3, rfl, o3, hb3⟩))
  go_ret
  exact ⟨_, rfl, by rw [Hin.out]; exact o3.mono (Nat.le_succ _), HB0.out.trans (((B2.out.alloc hz2 _).trans hb3).mono (Nat.le_succ _))⟩
end Go.Proofs.YtcgclhahonndbaaGreat
