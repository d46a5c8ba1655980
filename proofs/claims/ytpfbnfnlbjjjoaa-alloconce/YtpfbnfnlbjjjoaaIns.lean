/- Walks of layer 10: slices.Insert of one number into a row of the call's own. -/
import Derived.Test.YtpfbnfnlbjjjoaaAlla
import Derived.Test.YtpfbnfnlbjjjoaaLay
namespace Go.Proofs.Ytpfbnfnlbjjjoaa
open Go.RowKit
set_option linter.unusedVariables false

theorem below_sets {B g : Nat} (hg : B ≤ g) : ∀ (vs : List Value) (o : Nat) {a w : World}, Below B a w → Below B a (w.setCells g o vs)
  | [], _, _, _, h => h
  | v :: r, o, a, w, h => below_sets hg r (o + 1) (h.setCell (p := ⟨g, o, none⟩) hg v)
theorem heap_sets {g : Nat} {t : TypeId} {fr : Nat × Nat} : ∀ (vs : List Value) (o : Nat) {w : World} {cur : Array Value}, w.heap[g]? = some (.cells cur t fr) → ∃ cur', (w.setCells g o vs).heap[g]? = some (.cells cur' t fr) ∧ cur'.size = cur.size
  | [], _, _, cur, h => ⟨cur, h, rfl⟩
  | v :: r, o, w, cur, h => by
    have h1 : ∃ c1, (w.setCell ⟨g, o, none⟩ v).heap[g]? = some (.cells c1 t fr) ∧ c1.size = cur.size := by
      obtain ⟨hlt, he⟩ := Array.getElem?_eq_some_iff.1 h
      refine ⟨cur.setIfInBounds o v, ?_, by simp⟩
      simp [World.setCell, Array.getElem?_modify, h]
    obtain ⟨c1, h1, e1⟩ := h1
    obtain ⟨c2, h2, e2⟩ := heap_sets r (o + 1) h1
    exact ⟨c2, h2, e2.trans e1⟩
theorem zc (n : Nat) : (Builtin.zeroCells (Value.int .i64 0).cells n).size = n := by
  rw [size_zeroCells]
  exact Nat.mul_one n
/-- A block of which cells are told is a row of one's own. -/
theorem own_cells {W : World} {base g cap : Nat} {cur : Array Value} {zs : List Int} (hg : base ≤ g) (hb : W.heap[g]? = some (.cells cur 3 (0, 0))) (hs : cur.size = cap) (hm : cap ≤ maxLen) (hn : zs.length ≤ cap)
    (hc : ∀ (j : Nat) z, zs[j]? = some z → W.cell? ⟨g, j, none⟩ = some (.int .i64 z)) : OwnI W base (.slice (some ⟨g, 0, none⟩) zs.length cap) zs := by
  refine ⟨by simp, .inr ⟨g, cap, cur, rfl, hg, hb, hn, hm, by omega, ?_⟩⟩
  refine List.ext_getElem? fun j => ?_
  rw [List.getElem?_take]
  by_cases hj : j < zs.length
  · rw [if_pos (by omega), List.getElem?_map]
    obtain ⟨z, hz⟩ : ∃ z, zs[j]? = some z := ⟨_, List.getElem?_eq_getElem hj⟩
    have h1 := hc j z hz
    simp [World.cell?, hb] at h1
    rw [hz, Option.map_some, ← h1]
    simp
  · rw [if_neg (by omega), List.getElem?_eq_none (by simp; omega)]
/-- One is put in at a place. -/
def ins (zs : List Int) (i : Nat) (x : Int) : List Int := zs.take i ++ x :: zs.drop i
theorem ins_length (zs : List Int) (i : Nat) (x : Int) (h : i ≤ zs.length) : (ins zs i x).length = zs.length + 1 := by
  simp [ins]; omega
theorem ins_lt {zs : List Int} {i : Nat} {x : Int} (h : i ≤ zs.length) {j : Nat} (hj : j < i) : (ins zs i x)[j]? = zs[j]? := by
  unfold ins
  rw [List.getElem?_append_left (by simp; omega), List.getElem?_take, if_pos hj]
theorem ins_eq {zs : List Int} {i : Nat} {x : Int} (h : i ≤ zs.length) : (ins zs i x)[i]? = some x := by
  unfold ins
  rw [List.getElem?_append_right (by simp; exact Nat.min_le_left _ _)]
  simp [Nat.min_eq_left h]
theorem ins_gt {zs : List Int} {i : Nat} {x : Int} (h : i ≤ zs.length) {j : Nat} (hj : i ≤ j) : (ins zs i x)[j + 1]? = zs[j]? := by
  unfold ins
  rw [List.getElem?_append_right (by simp; omega)]
  simp only [List.length_take, Nat.min_eq_left h]
  rw [show j + 1 - i = (j - i) + 1 by omega, List.getElem?_cons_succ, List.getElem?_drop]
  congr 1
  omega
theorem ins_end (zs : List Int) (x : Int) : ins zs zs.length x = zs ++ [x] := by simp [ins]
theorem mapget {zs : List Int} {j : Nat} {z : Int} (h : zs[j]? = some z) : (zs.map (Value.int .i64))[j]? = some (.int .i64 z) := by simp [h]
theorem mapget' {zs : List Int} {j : Nat} {v : Value} (h : (zs.map (Value.int .i64))[j]? = some v) : ∃ z, zs[j]? = some z ∧ v = .int .i64 z := by
  rw [List.getElem?_map] at h
  obtain ⟨z, hz, rfl⟩ := Option.map_eq_some_iff.1 h
  exact ⟨z, hz, rfl⟩
theorem one_at {x : Int} {j : Nat} {v : Value} (h : [Value.int .i64 x][j]? = some v) : j = 0 ∧ v = .int .i64 x := by
  match j, h with
  | 0, h => cases h; exact ⟨rfl, rfl⟩
  | j + 1, h => simp at h

set_option maxRecDepth 100000 in
set_option maxHeartbeats 1000000 in
theorem insert_any (v : Value) (zs : List Int) (i : Nat) (x : Int) (base vb : Nat) (w : World) (hO : OwnI w base v zs) (hi : i ≤ zs.length) (hl : zs.length ≤ 1000) (hb : w.heap[vb]? = some (.cells #[.int .i64 x] 3 (0, 0))) (hne : ∀ g, v.ownBlock = some g → vb ≠ g) (hbase : base ≤ w.heap.size) :
    Calls Try.prog 22 #[v, .int .i64 i, .slice (some ⟨vb, 0, none⟩) 1 1] w fun e w' => ∃ v', e = .returned v' ∧ OwnI w' base v' (ins zs i x) ∧ Below base w w' := by
  have hvs : ∀ (j : Nat) v, [Value.int .i64 x][j]? = some v → w.cell? ⟨vb, 0 + j, none⟩ = some v := by
    intro j v hj
    obtain ⟨rfl, rfl⟩ := one_at hj
    simp [World.cell?, hb]
  have h1v : ∀ v ∈ [Value.int .i64 x], v.oneCell' = true := by simp [Value.oneCell']
  have hcl : (zs.map (Value.int .i64)).length = zs.length := by simp
  rcases hO.2 with ⟨rfl, h0⟩ | ⟨g, cap, cur, rfl, hg, hgb, hncap, hmax, hsz, htk⟩
  · have hz : zs = [] := List.eq_nil_of_length_eq_zero h0
    subst hz
    have hi0 : i = 0 := by simpa using hi
    subst hi0
    refine (Any2.slices_Insert_int_end_grow insLay none 0 0 vb 0 1 1 [] [.int .i64 x] w (by omega) (by omega) (by omega) (by omega) rfl rfl (fun _ => rfl) (by intro a h; cases h) hvs h1v).mono ?_
    rintro e w' ⟨rfl, rfl⟩
    have hge := grownCap_ge w (0 + 1) 0 (insRen.t 3)
    have hcm := grownCap_le_maxLen w (0 + 1) 0 (insRen.t 3) (by unfold maxLen; omega)
    generalize grownCap w (0 + 1) 0 (insRen.t 3) = C at *
    refine ⟨_, rfl, ?_, ((Below.refl _ _).drew).alloc hbase _⟩
    refine own_cells (cap := C) (zs := ins [] 0 x) hbase (heap_alloc_new w.drew _) (by simp [zc]; omega) hcm (by simp [ins]; omega) ?_
    intro j z hz
    have hj : j = 0 ∧ z = x := by
      match j, hz with
      | 0, h => cases h; exact ⟨rfl, rfl⟩
      | j + 1, h => simp [ins] at h
    obtain ⟨rfl, rfl⟩ := hj
    have := heap_alloc_new w.drew (.cells (([] ++ [Value.int .i64 z]).toArray ++ Builtin.zeroCells (Value.int .i64 0).cells (C - (0 + 1))) (insRen.t 3))
    have hsd : w.drew.heap.size = w.heap.size := rfl
    rw [hsd] at this
    simp only [World.cell?, this]
    rw [Array.getElem?_append_left (by simp)]
    rfl
  · have hcs : ∀ (j : Nat) u, (zs.map (Value.int .i64))[j]? = some u → w.cell? ⟨g, 0 + j, none⟩ = some u := by
      intro j u hu
      have := hO.cells rfl j u hu
      rwa [Addr.add_lit] at this
    have hcell : ∀ (j : Nat) z, zs[j]? = some z → w.cell? ⟨g, j, none⟩ = some (.int .i64 z) := by
      intro j z hz
      have := hcs j _ (mapget hz)
      rwa [Nat.zero_add] at this
    have hcurs : cur.size = cap := by omega
    have hsome : ∀ j, j < cap → (w.cell? ⟨g, j, none⟩).isSome = true := by
      intro j hj
      simp [World.cell?, hgb, hcurs, hj]
    have hfro : ∀ j, w.frozen? ⟨g, j, none⟩ = false := by
      intro j
      simp [World.frozen?, hgb]
    have hvg : vb ≠ g := hne g rfl
    by_cases hroom : zs.length + 1 ≤ cap
    · by_cases hlt : i < zs.length
      · refine (Any2.slices_Insert_int_shift insLay g 0 zs.length cap i vb 0 1 1 (zs.map (Value.int .i64)) [.int .i64 x] w hlt (by omega) hroom (by unfold maxLen at hmax; omega) hvg hcl rfl hcs (fun j hj => by rw [Nat.zero_add]; exact hsome j (by omega)) (fun j _ => by rw [Nat.zero_add]; exact hfro j) hvs (ints_one zs) h1v 3 3 1 cap (by simp [World.shape?, hb]) (by simp [World.shape?, hgb, hcurs]) (by omega) (by simp [World.frozen?, hb]) (by simp [World.frozen?, hb])).mono ?_
        rintro e w' ⟨rfl, rfl⟩
        obtain ⟨c1, h1, e1⟩ := heap_sets (g := g) ((zs.map (Value.int .i64)).drop i) (0 + (i + 1)) (w := w.drew) hgb
        obtain ⟨c2, h2, e2⟩ := heap_sets (g := g) [.int .i64 x] (0 + i) h1
        refine ⟨_, rfl, ?_, below_sets hg _ _ (below_sets hg _ _ (Below.refl _ _).drew)⟩
        rw [show zs.length + 1 = (ins zs i x).length from (ins_length zs i x hi).symm]
        refine own_cells hg h2 (by omega) hmax (by rw [ins_length zs i x hi]; exact hroom) ?_
        have hin1 : ∀ k, k < ((zs.map (Value.int .i64)).drop i).length → (w.drew.cell? ⟨g, 0 + (i + 1) + k, none⟩).isSome = true := by
          intro k hk
          rw [List.length_drop, hcl] at hk
          exact hsome _ (by omega)
        intro j z hz
        by_cases hj : j < i
        · rw [World.cell?_setCells_out _ _ _ _ _ (fun _ _ => .inl (by show j < 0 + i; omega)), World.cell?_setCells_out _ _ _ _ _ (fun _ _ => .inl (by show j < 0 + (i + 1); omega))]
          rw [ins_lt hi hj] at hz
          exact hcell j z hz
        · by_cases hji : j = i
          · subst hji
            rw [ins_eq hi] at hz
            cases hz
            have := World.cell?_setCells_in g [.int .i64 x] (0 + j) (w.drew.setCells g (0 + (j + 1)) ((zs.map (Value.int .i64)).drop j)) (by
              intro k hk
              have : k = 0 := by simpa using hk
              subst this
              rw [World.cell?_setCells_out _ _ _ _ _ (fun _ _ => .inl (by show 0 + j + 0 < 0 + (j + 1); omega))]
              exact hsome _ (by omega)) 0 (by simp)
            simpa using this
          · obtain ⟨m, rfl⟩ : ∃ m, j = m + 1 := ⟨j - 1, by omega⟩
            rw [ins_gt hi (by omega)] at hz
            have hml : m < zs.length := (List.getElem?_eq_some_iff.1 hz).1
            rw [World.cell?_setCells_out _ _ _ _ _ (fun _ _ => .inr (by show 0 + i + 1 ≤ m + 1; omega))]
            have := World.cell?_setCells_in g ((zs.map (Value.int .i64)).drop i) (0 + (i + 1)) w.drew hin1 (m - i) (by simp; omega)
            rw [show 0 + (i + 1) + (m - i) = m + 1 by omega] at this
            rw [this]
            rw [List.getElem_drop]
            have e3 : i + (m - i) = m := by omega
            have : (zs.map (Value.int .i64))[i + (m - i)]? = some (.int .i64 z) := by rw [e3]; exact mapget hz
            rw [← List.getElem?_eq_getElem]
            exact this
      · have hie : i = zs.length := by omega
        subst hie
        refine (Any2.slices_Insert_int_end_room insLay g 0 zs.length cap vb 0 1 1 [.int .i64 x] w (by omega) hroom (by unfold maxLen at hmax; omega) rfl (fun j hj => hsome _ (by omega)) (fun j _ => hfro _) hvs h1v).mono ?_
        rintro e w' ⟨rfl, rfl⟩
        obtain ⟨c2, h2, e2⟩ := heap_sets (g := g) [.int .i64 x] (0 + zs.length) hgb
        refine ⟨_, rfl, ?_, below_sets hg _ _ (Below.refl _ _)⟩
        rw [show zs.length + 1 = (ins zs zs.length x).length from (ins_length zs _ x hi).symm]
        refine own_cells hg h2 (by omega) hmax (by rw [ins_length zs _ x hi]; exact hroom) ?_
        intro j z hz
        by_cases hj : j < zs.length
        · rw [World.cell?_setCells_out _ _ _ _ _ (fun _ _ => .inl (by show j < 0 + zs.length; omega))]
          rw [ins_lt hi hj] at hz
          exact hcell j z hz
        · have hjl := (List.getElem?_eq_some_iff.1 hz).1
          rw [ins_length zs _ x hi] at hjl
          have hje : j = zs.length := by omega
          subst hje
          rw [ins_eq hi] at hz
          cases hz
          have := World.cell?_setCells_in g [.int .i64 x] (0 + zs.length) w (by
            intro k hk
            have : k = 0 := by simpa using hk
            subst this
            exact hsome _ (by omega)) 0 (by simp)
          simpa using this
    · have hcn : cap = zs.length := by omega
      have hbig : (zs.length + 1) * 8 ≤ 140737488355328 := by omega
      have hge := grownCap_ge w (zs.length + 1) cap (insRen.t 3)
      have hcm := grownCap_le_maxLen w (zs.length + 1) cap (insRen.t 3) (by unfold maxLen; omega)
      by_cases hlt : i < zs.length
      · refine (Any2.slices_Insert_int_grow insLay g 0 zs.length cap i vb 0 1 1 (zs.map (Value.int .i64)) [.int .i64 x] w hlt (by omega) (by omega) (by omega) hbig hcl rfl hcs hvs (ints_one zs) h1v).mono ?_
        rintro e w' ⟨rfl, rfl⟩
        generalize grownCap w (zs.length + 1) cap (insRen.t 3) = C at *
        have h0 := heap_alloc_new w (.cells (((zs.map (Value.int .i64)).take i).toArray ++ Builtin.zeroCells (Value.int .i64 0).cells (zs.length + 1 - i) ++ Builtin.zeroCells (Value.int .i64 0).cells (C - (zs.length + 1))) (insRen.t 3))
        have hs0 : (((zs.map (Value.int .i64)).take i).toArray ++ Builtin.zeroCells (Value.int .i64 0).cells (zs.length + 1 - i) ++ Builtin.zeroCells (Value.int .i64 0).cells (C - (zs.length + 1))).size = C := by
          simp [zc]; omega
        have hfirst : ∀ (j : Nat), j < i → (((zs.map (Value.int .i64)).take i).toArray ++ Builtin.zeroCells (Value.int .i64 0).cells (zs.length + 1 - i) ++ Builtin.zeroCells (Value.int .i64 0).cells (C - (zs.length + 1)))[j]? = (zs.map (Value.int .i64))[j]? := by
          intro j hj
          rw [Array.getElem?_append_left (by simp; omega), Array.getElem?_append_left (by simp; omega)]
          simp [hj]
        generalize (((zs.map (Value.int .i64)).take i).toArray ++ Builtin.zeroCells (Value.int .i64 0).cells (zs.length + 1 - i) ++ Builtin.zeroCells (Value.int .i64 0).cells (C - (zs.length + 1))) = A at *
        have hA : ∀ j, (w.alloc (.cells A (insRen.t 3))).cell? ⟨w.heap.size, j, none⟩ = A[j]? := by
          intro j
          simp only [World.cell?, h0]
          rfl
        obtain ⟨c1, h1, e1⟩ := heap_sets (g := w.heap.size) [.int .i64 x] i (w := (w.alloc (.cells A (insRen.t 3))).drew) h0
        obtain ⟨c2, h2, e2⟩ := heap_sets (g := w.heap.size) ((zs.map (Value.int .i64)).drop i) (i + 1) (w := ((w.alloc (.cells A (insRen.t 3))).drew.setCells w.heap.size i [.int .i64 x]).drew) h1
        refine ⟨_, rfl, ?_, below_sets hbase _ _ ((below_sets hbase _ _ ((Below.refl _ _).alloc hbase _).drew).drew)⟩
        rw [show zs.length + 1 = (ins zs i x).length from (ins_length zs i x hi).symm]
        refine own_cells hbase h2 (by omega) hcm (by rw [ins_length zs i x hi]; exact hge) ?_
        have hin1 : ∀ k, k < [Value.int .i64 x].length → ((w.alloc (.cells A (insRen.t 3))).drew.cell? ⟨w.heap.size, i + k, none⟩).isSome = true := by
          intro k hk
          have hk0 : k = 0 := by simpa using hk
          subst hk0
          show ((w.alloc (.cells A (insRen.t 3))).cell? ⟨w.heap.size, i + 0, none⟩).isSome = true
          rw [hA]
          simp [hs0]
          omega
        have hin2 : ∀ k, k < ((zs.map (Value.int .i64)).drop i).length → (((w.alloc (.cells A (insRen.t 3))).drew.setCells w.heap.size i [.int .i64 x]).drew.cell? ⟨w.heap.size, i + 1 + k, none⟩).isSome = true := by
          intro k hk
          rw [List.length_drop, hcl] at hk
          show (((w.alloc (.cells A (insRen.t 3))).drew.setCells w.heap.size i [.int .i64 x]).cell? ⟨w.heap.size, i + 1 + k, none⟩).isSome = true
          rw [World.cell?_setCells_out _ _ _ _ _ (fun _ _ => .inr (by show i + 1 ≤ i + 1 + k; omega))]
          show ((w.alloc (.cells A (insRen.t 3))).cell? ⟨w.heap.size, i + 1 + k, none⟩).isSome = true
          rw [hA]
          simp [hs0]
          omega
        intro j z hz
        by_cases hj : j < i
        · rw [World.cell?_setCells_out _ _ _ _ _ (fun _ _ => .inl (by show j < i + 1; omega))]
          show ((w.alloc (.cells A (insRen.t 3))).drew.setCells w.heap.size i [.int .i64 x]).cell? ⟨w.heap.size, j, none⟩ = _
          rw [World.cell?_setCells_out _ _ _ _ _ (fun _ _ => .inl (by show j < i; omega))]
          show (w.alloc (.cells A (insRen.t 3))).cell? ⟨w.heap.size, j, none⟩ = _
          rw [hA, hfirst j hj]
          rw [ins_lt hi hj] at hz
          exact mapget hz
        · by_cases hji : j = i
          · subst hji
            rw [ins_eq hi] at hz
            cases hz
            rw [World.cell?_setCells_out _ _ _ _ _ (fun _ _ => .inl (by show j < j + 1; omega))]
            show ((w.alloc (.cells A (insRen.t 3))).drew.setCells w.heap.size j [.int .i64 x]).cell? ⟨w.heap.size, j, none⟩ = _
            have := World.cell?_setCells_in w.heap.size [.int .i64 x] j (w.alloc (.cells A (insRen.t 3))).drew hin1 0 (by simp)
            simpa using this
          · obtain ⟨m, rfl⟩ : ∃ m, j = m + 1 := ⟨j - 1, by omega⟩
            rw [ins_gt hi (by omega)] at hz
            have hml : m < zs.length := (List.getElem?_eq_some_iff.1 hz).1
            have := World.cell?_setCells_in w.heap.size ((zs.map (Value.int .i64)).drop i) (i + 1) _ hin2 (m - i) (by simp; omega)
            rw [show i + 1 + (m - i) = m + 1 by omega] at this
            rw [this, List.getElem_drop]
            have e3 : i + (m - i) = m := by omega
            have : (zs.map (Value.int .i64))[i + (m - i)]? = some (.int .i64 z) := by rw [e3]; exact mapget hz
            rw [← List.getElem?_eq_getElem]
            exact this
      · have hie : i = zs.length := by omega
        subst hie
        refine (Any2.slices_Insert_int_end_grow insLay (some ⟨g, 0, none⟩) zs.length cap vb 0 1 1 (zs.map (Value.int .i64)) [.int .i64 x] w (by omega) (by omega) (by omega) hbig hcl rfl (by intro h; cases h) (by intro a ha j u hu; cases ha; rw [Addr.add_lit]; exact hcs j u hu) hvs h1v).mono ?_
        rintro e w' ⟨rfl, rfl⟩
        generalize grownCap w (zs.length + 1) cap (insRen.t 3) = C at *
        have h0 := heap_alloc_new w.drew (.cells ((zs.map (Value.int .i64) ++ [Value.int .i64 x]).toArray ++ Builtin.zeroCells (Value.int .i64 0).cells (C - (zs.length + 1))) (insRen.t 3))
        refine ⟨_, rfl, ?_, ((Below.refl _ _).drew).alloc hbase _⟩
        refine (fun key => by rw [ins_length zs _ x hi] at key; exact key : OwnI _ base (.slice (some ⟨w.heap.size, 0, none⟩) (ins zs zs.length x).length C) (ins zs zs.length x) → OwnI _ base (.slice (some ⟨w.heap.size, 0, none⟩) (zs.length + 1) C) (ins zs zs.length x)) ?_
        refine own_cells hbase h0 (by simp [zc]; omega) hcm (by rw [ins_length zs _ x hi]; exact hge) ?_
        intro j z hz
        have hjl := (List.getElem?_eq_some_iff.1 hz).1
        rw [ins_length zs _ x hi] at hjl
        have hsd : w.drew.heap.size = w.heap.size := rfl
        rw [hsd] at h0
        rw [ins_end] at hz
        have hz2 : (zs.map (Value.int .i64) ++ [Value.int .i64 x])[j]? = some (.int .i64 z) := by
          have := mapget hz
          simpa using this
        simp only [World.cell?, h0]
        rw [Array.getElem?_append_left (by simp; omega)]
        simpa using hz2
end Go.Proofs.Ytpfbnfnlbjjjoaa
