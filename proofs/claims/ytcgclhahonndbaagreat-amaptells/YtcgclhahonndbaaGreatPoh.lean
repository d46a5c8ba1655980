/- Layer 12: the leaves of a sound arena; Pairs, Own. · Layer 12: what the leaves of a sound arena have is what is told of them. -/
import Derived.Test.YtcgclhahonndbaaGreatPod
namespace Go.Proofs.YtcgclhahonndbaaGreat
open Go.RowKit Go.Shelf
set_option linter.unusedVariables false

theorem lvL_ok {zs : List Int} : (lvL zs).length ≤ 256 := by
  unfold lvL
  cases h : lvA zs with
  | none => simp
  | some L =>
    obtain ⟨hB, hnd, hok, _⟩ := lvA_out h
    exact lv_len hB hnd (fun b hb => (hok b hb).2.1)
/-- The leaves, if the arena is sound. -/
def slL (zs : List Int) : List Int := if sndB zs = true then lvL zs else []
theorem ret_sl {v : Value} {a b : Int} (h : a = b) : Ending.returned (.tuple #[v, .int .i64 a]) = .returned (.tuple #[v, .int .i64 b]) := by rw [h]

set_option maxRecDepth 100000 in
set_option maxHeartbeats 1000000 in
theorem soundL_any (v : Value) (zs : List Int) (w : World) (hR : Rl w v zs) (hF : Fits zs) : Calls Tryz.prog 20 #[v] w fun e w' => ∃ v', e = .returned (.tuple #[v', .int .i64 (chE zs)]) ∧ Rd w' v' (slL zs) ∧ Below w.heap.size w w' := by
  have HR : Hid (Rl w v zs) := hR
  have hl := lvL_ok (zs := zs)
  have K9 : Hid (∀ W, Rl W v zs → Calls Tryz.prog 40 #[v] W fun e w' => e = .returned (.int .i64 (chE zs)) ∧ Below W.heap.size W w') := fun W h => check_any v zs W h hF
  have K10 : Hid (∀ W, Rl W v zs → Calls Tryz.prog 41 #[v] W fun e w' => ∃ v', e = .returned (.tuple #[v', .int .i64 (lvE zs)]) ∧ Rd w' v' (lvL zs) ∧ Below W.heap.size W w') := fun W h => (leaves_any v zs W h).mono fun e w' ⟨v', h1, h2, h3⟩ => ⟨v', h1, h2.rd (by omega), h3⟩
  cases hs : sndB zs with
  | false =>
    have Hc : Hid (chE zs = 110) := by (show _ = _; unfold chE; rw [hs]; rfl)
    have Hn : Hid (slL zs = []) := by (show _ = _; unfold slL; rw [hs]; rfl)
    rw [Hc.out] at K9 ⊢
    clear hR hF hl hs
    go_enter Tryz.func20, Tryz.ntmps20
    go_wp2_with (first
      | (go_at_call 40; refine (K9.out _ HR.out).mono ?_; rintro e w1 ⟨rfl, hb1⟩))
    go_ret2
    exact ⟨_, rfl, by rw [Hn.out]; exact nil_rd _, hb1⟩
  | true =>
    obtain ⟨L, hL⟩ := snd_leaves hs
    have Hc : Hid (chE zs = 0) := by (show _ = _; unfold chE; rw [hs]; rfl)
    have He : Hid (lvE zs = 0) := by (show _ = _; unfold lvE; rw [hL])
    have Hn : Hid (slL zs = lvL zs) := by (show _ = _; unfold slL; rw [hs]; rfl)
    rw [Hc.out] at K9 ⊢
    rw [He.out] at K10
    clear hR hF hl hs hL
    go_enter Tryz.func20, Tryz.ntmps20
    go_wp2_with (first
      | (go_at_call 40; refine (K9.out _ HR.out).mono ?_; rintro e w1 ⟨rfl, hb1⟩)
      | (go_at_call 41; refine (K10.out _ (HR.out.below hb1)).mono ?_; rintro e w2 ⟨v2, rfl, r2, hb2⟩; have R2 : Hid (Rd w2 v2 (lvL zs)) := r2; have B2 : Hid (Below w.heap.size w w2) := bstep hb1 hb2; clear r2 hb2))
    go_ret2
    exact ⟨_, rfl, by rw [Hn.out]; exact R2.out, B2.out⟩

set_option maxRecDepth 100000 in
set_option maxHeartbeats 1000000 in
theorem pairs_any (v : Value) (zs : List Int) (w : World) (hR : Rl w v zs) (hF : Fits zs) : Calls Tryz.prog 8 #[v] w fun e w' => ∃ v', e = .returned (.tuple #[v', .int .i64 (chE zs)]) ∧ OwnP w' w.heap.size v' ((slL zs).flatMap (ownL zs)) ∧ Below w.heap.size w w' := by
  have HR : Hid (Rl w v zs) := hR
  have HF : Hid (Fits zs) := hF
  obtain ⟨_, va, vc, rfl, _⟩ := hR.form
  have hl := lvL_ok (zs := zs)
  have hs2 : (slL zs).length ≤ 300 := by
    unfold slL
    split
    · omega
    · exact Nat.zero_le _
  have K21 : Hid (∀ W, Rl W (.slice va zs.length vc) zs → Calls Tryz.prog 20 #[.slice va zs.length vc] W fun e w' => ∃ v', e = .returned (.tuple #[v', .int .i64 (chE zs)]) ∧ Rd w' v' (slL zs) ∧ Below W.heap.size W w') := fun W h => soundL_any _ zs W h hF
  have K22 : Hid (∀ u W, Rl W (.slice va zs.length vc) zs → Rd W u (slL zs) → Calls Tryz.prog 23 #[.slice va zs.length vc, u] W fun e w' => ∃ v', e = .returned v' ∧ OwnP w' W.heap.size v' ((slL zs).flatMap (ownL zs)) ∧ Below W.heap.size W w') := fun u W h1 h2 => listed_any va vc u zs (slL zs) W h1 hF h2 hs2
  cases hs : sndB zs with
  | false =>
    have Hc : Hid (chE zs = 110) := by (show _ = _; unfold chE; rw [hs]; rfl)
    have Hn : Hid (slL zs = []) := by (show _ = _; unfold slL; rw [hs]; rfl)
    rw [Hc.out] at K21 ⊢
    clear hR hF hl hs hs2
    go_enter Tryz.func8, Tryz.ntmps8
    go_wp2_with (first
      | (go_at_call 20; refine (K21.out _ HR.out).mono ?_; rintro e w1 ⟨v1, rfl, r1, hb1⟩))
    go_ret2
    exact ⟨_, rfl, by rw [Hn.out]; exact OwnP.bare _ _, hb1⟩
  | true =>
    have Hc : Hid (chE zs = 0) := by (show _ = _; unfold chE; rw [hs]; rfl)
    rw [Hc.out] at K21 ⊢
    clear hR hF hl hs hs2
    generalize (slL zs).flatMap (ownL zs) = P at *
    generalize slL zs = S at *
    go_enter Tryz.func8, Tryz.ntmps8
    go_wp2_with (first
      | (go_at_call 20; refine (K21.out _ HR.out).mono ?_; rintro e w1 ⟨v1, rfl, r1, hb1⟩; have R1 : Hid (Rd w1 v1 S) := r1; have B1 : Hid (Below w.heap.size w w1) := hb1; clear r1 hb1)
      | (go_at_call 23; refine (K22.out _ _ (HR.out.below B1.out) R1.out).mono ?_; rintro e w2 ⟨v2, rfl, o2, hb2⟩; have O2 : Hid (OwnP w2 w1.heap.size v2 P) := o2; have B2 : Hid (Below w.heap.size w w2) := bstep B1.out hb2; clear o2 hb2))
    go_ret2
    exact ⟨_, rfl, O2.out.mono B1.out.size, B2.out⟩

set_option maxRecDepth 100000 in
set_option maxHeartbeats 1000000 in
theorem placeI_any (g : Nat) (lb : Array Value) (test : Int → Bool) (eg : ∀ args w, (callFunc g args).run Tryz.prog w = .ok (.enter g args) w) (v : Value) (l : List Int) (w : World) (hR : Rd w v l)
    (hT : ∀ (p : Int) (W : World), Below w.heap.size w W → Calls Tryz.prog g (#[.int .i64 p] ++ lb) W fun e w' => e = .returned (.bool (test p)) ∧ Below W.heap.size W w') :
    Calls Tryz.prog 21 #[v, .func (.func g) #[] lb] w fun e w' => e = .returned (.int .i64 (fiG test l : Nat)) ∧ Below w.heap.size w w' := by
  have HR : Hid (Rd w v l) := hR
  obtain ⟨hl, a, cap, rfl⟩ := hR.form
  have HT : Hid (∀ (p : Int) (W : World), Below w.heap.size w W → Calls Tryz.prog g (#[.int .i64 p] ++ lb) W fun e w' => e = .returned (.bool (test p)) ∧ Below W.heap.size W w') := hT
  clear hR hT
  go_enter Tryz.func21, Tryz.ntmps21
  go_wp2
  go_loopw [9] (fun i wr => ∃ k : Nat, k ≤ l.length ∧ i = .int .i64 k ∧ (∀ j p, j < k → l[j]? = some p → test p = false) ∧ Below w.heap.size w wr) (fun i _ => l.length - (Go.RowKit.intOf i).toNat)
  case atStart => exact ⟨0, Nat.zero_le _, rfl, fun j p hj => by omega, Below.refl _ _⟩
  case round =>
    obtain ⟨k, hk, rfl, hno, hbel⟩ := hrel
    have HN : Hid (∀ j p, j < k → l[j]? = some p → test p = false) := hno
    have HB : Hid (Below w.heap.size w wr) := hbel
    clear hno hbel
    by_cases hlt : k < l.length
    · have hltI : (k : Int) < (l.length : Int) := by omega
      obtain ⟨x, hx⟩ : ∃ x, l[k]? = some x := ⟨_, List.getElem?_eq_getElem hlt⟩
      obtain ⟨b, off, e2, hcell⟩ := (HR.out.below HB.out).at k hlt
      have hs2 : l[k] = x := by rw [List.getElem?_eq_getElem hlt] at hx; exact Option.some.inj hx
      rw [hs2] at hcell
      cases e2
      have Hx : Hid (l[k]? = some x) := hx
      have C := HT.out x wr HB.out
      clear hx hs2
      cases ht : test x with
      | true =>
        rw [ht] at C
        have HC := C
        have Hf : Hid (fiG test l = k) := fiG_hit HN.out Hx.out ht
        clear ht C
        go_wp2_with (go_at_fn g; refine HC.mono ?_; rintro e w' ⟨rfl, hb⟩)
        go_ret
        exact ⟨ret_int (by rw [Hf.out]), bstep HB.out hb⟩
      | false =>
        rw [ht] at C
        have HC := C
        have Hn : Hid (∀ j p, j < k + 1 → l[j]? = some p → test p = false) := fun j p hj hp => by
          by_cases e : j = k
          · subst e
            rw [Hx.out] at hp
            cases hp
            exact ht
          · exact HN.out j p (by omega) hp
        clear ht C
        go_wp2_with (go_at_fn g; refine HC.mono ?_; rintro e w' ⟨rfl, hb⟩)
        go_roundw
        case rel => exact ⟨k + 1, by omega, by go_num, Hn.out, bstep HB.out hb⟩
        case measure => simp [Go.RowKit.intOf]; omega
    · have hge : ¬ (k : Int) < (l.length : Int) := by omega
      have Hf : Hid (fiG test l = l.length) := fiG_none fun p hp => by
        obtain ⟨j, hj⟩ := List.getElem?_of_mem hp
        have hj' := (List.getElem?_eq_some_iff.1 hj).1
        exact HN.out j p (by omega) hj
      go_wp2
      go_ret
      exact ⟨ret_int (by rw [Hf.out]), HB.out⟩
theorem is_any (p b : Int) (g : Nat) (w : World) (hc : w.cell? ⟨g, 0, none⟩ = some (.int .i64 b)) : Calls Tryz.prog 22 (#[.int .i64 p] ++ #[.pointer (some ⟨g, 0, none⟩)]) w fun e w' => e = .returned (.bool (p == b)) ∧ Below w.heap.size w w' := by
  have hlt := World.block_lt_of_cell? _ _ hc
  go_enter Tryz.func22, Tryz.ntmps22
  go_wp2
  go_ret
  exact ⟨ret_bool rfl, Below.refl _ _⟩

/-- What Own tells. -/
def owE (zs : List Int) (b : Int) : Int := if sndB zs = true then (if b ∈ lvL zs then 0 else 1) else 110
def owL (zs : List Int) (b : Int) : List Pa := if sndB zs = true ∧ b ∈ lvL zs then ownL zs b else []

set_option maxRecDepth 100000 in
set_option maxHeartbeats 1000000 in
theorem owns_any (v : Value) (zs : List Int) (b : Int) (w : World) (hR : Rl w v zs) (hF : Fits zs) : Calls Tryz.prog 6 #[v, .int .i64 b] w fun e w' => ∃ v', e = .returned (.tuple #[v', .int .i64 (owE zs b)]) ∧ OwnP w' w.heap.size v' (owL zs b) ∧ Below w.heap.size w w' := by
  obtain ⟨_, va, vc, rfl, _⟩ := hR.form
  have B0 := (Below.refl w.heap.size w).alloc (Nat.le_refl _) (.cells #[.int .i64 b] 3)
  have HB0 : Hid (Below w.heap.size w (w.alloc (.cells #[.int .i64 b] 3))) := B0
  have HR : Hid (Rl (w.alloc (.cells #[.int .i64 b] 3)) (.slice va zs.length vc) zs) := hR.below B0
  have hcell : (w.alloc (.cells #[.int .i64 b] 3)).cell? ⟨w.heap.size, 0, none⟩ = some (.int .i64 b) := by have := cell_one_new w (.int .i64 b) 3 0 (.int .i64 b) rfl; rwa [Addr.add_lit] at this
  have HC : Hid ((w.alloc (.cells #[.int .i64 b] 3)).cell? ⟨w.heap.size, 0, none⟩ = some (.int .i64 b)) := hcell
  have hl := lvL_ok (zs := zs)
  have K21 : Hid (∀ W, Rl W (.slice va zs.length vc) zs → Calls Tryz.prog 20 #[.slice va zs.length vc] W fun e w' => ∃ v', e = .returned (.tuple #[v', .int .i64 (chE zs)]) ∧ Rd w' v' (slL zs) ∧ Below W.heap.size W w') := fun W h => soundL_any _ zs W h hF
  have K22 : Hid (∀ u W, Rl W (.slice va zs.length vc) zs → Rd W u [b] → Calls Tryz.prog 23 #[.slice va zs.length vc, u] W fun e w' => ∃ v', e = .returned v' ∧ OwnP w' W.heap.size v' (ownL zs b) ∧ Below W.heap.size W w') := fun u W h1 h2 => by
    have := listed_any va vc u zs [b] W h1 hF h2 (by simp)
    simpa using this
  have hmf : ∀ (fn : Fn) (first cap : Array Value) (w : World), (Instr.makeFunc fn first cap).run Tryz.prog w = .ok (.func fn first cap) w := fun _ _ _ _ => rfl
  cases hs : sndB zs with
  | false =>
    have Hc : Hid (chE zs = 110) := by (show _ = _; unfold chE; rw [hs]; rfl)
    have Ho : Hid (owE zs b = 110 ∧ owL zs b = []) := by (show _ ∧ _; unfold owE owL; rw [hs]; exact ⟨rfl, rfl⟩)
    rw [Hc.out] at K21
    rw [Ho.out.1, Ho.out.2]
    clear hR hF hl hs B0 hcell Ho
    go_enter Tryz.func6, Tryz.ntmps6
    go_wp2_with (first
      | (go_at_call 20; refine (K21.out _ HR.out).mono ?_; rintro e w1 ⟨v1, rfl, r1, hb1⟩))
    go_ret2
    exact ⟨_, rfl, OwnP.bare _ _, bstep HB0.out hb1⟩
  | true =>
    have Hc : Hid (chE zs = 0) := by (show _ = _; unfold chE; rw [hs]; rfl)
    have hn : slL zs = lvL zs := by unfold slL; rw [hs]; rfl
    have hE : owE zs b = if b ∈ lvL zs then 0 else 1 := by unfold owE; rw [hs]; rfl
    have hO : owL zs b = if b ∈ lvL zs then ownL zs b else [] := by unfold owL; rw [hs]; simp
    rw [Hc.out] at K21
    rw [hn] at K21
    rw [hE, hO]
    clear hR hF hs B0 hcell hn hE hO
    generalize ownL zs b = P at *
    generalize lvL zs = S at *
    have hfl := fiG_le (t := fun x : Int => x == b) S
    have hfa := @fiG_at _ (fun x : Int => x == b) S
    have hfn := @fiG_all _ (fun x : Int => x == b) S
    obtain ⟨f, hf⟩ : ∃ f, f = fiG (fun x : Int => x == b) S := ⟨_, rfl⟩
    have PI : Hid (∀ u W, Rd W u S → W.cell? ⟨w.heap.size, 0, none⟩ = some (.int .i64 b) → Calls Tryz.prog 21 #[u, .func (.func 22) #[] #[.pointer (some ⟨w.heap.size, 0, none⟩)]] W fun e w' => e = .returned (.int .i64 (f : Nat)) ∧ Below W.heap.size W w') := fun u W h hc => by
      rw [hf]
      exact placeI_any 22 #[.pointer (some ⟨w.heap.size, 0, none⟩)] (fun x => x == b) (enters_of Tryz.func22 (by kernel_rfl) rfl) u S W h (fun p W' hb => is_any p b w.heap.size W' ((hb.cell (p := ⟨w.heap.size, 0, none⟩) (World.block_lt_of_cell? _ _ hc)).trans hc))
    rw [← hf] at hfl hfa hfn
    clear hf
    by_cases hlt : f < S.length
    · have hm : b ∈ S := by
        obtain ⟨q, hq, hq2⟩ := hfa hlt
        obtain rfl : q = b := by simpa using hq2
        exact List.mem_of_getElem? hq
      rw [if_pos hm, if_pos hm]
      have e1 : ((f : Int) == (S.length : Int)) = false := beq_eq_false_iff_ne.2 (by omega)
      clear hm hfa hfn
      go_enter Tryz.func6, Tryz.ntmps6
      go_wp2_with (first
        | (go_at_call 20; refine (K21.out _ HR.out).mono ?_; rintro e w1 ⟨v1, rfl, r1, hb1⟩; obtain ⟨_, a1, c1, rfl⟩ := r1.form; have R1 : Hid (Rd w1 (.slice a1 S.length c1) S) := r1; have B1 : Hid (Below (w.alloc (.cells #[.int .i64 b] 3)).heap.size (w.alloc (.cells #[.int .i64 b] 3)) w1) := hb1; have hc1 : w1.cell? ⟨w.heap.size, 0, none⟩ = some (.int .i64 b) := (hb1.cell (p := ⟨w.heap.size, 0, none⟩) (World.block_lt_of_cell? _ _ HC.out)).trans HC.out; have C1 : Hid (w1.cell? ⟨w.heap.size, 0, none⟩ = some (.int .i64 b)) := hc1; clear r1 hb1 hc1)
        | (go_at_call 21; refine (PI.out _ _ R1.out C1.out).mono ?_; rintro e w2 ⟨rfl, hb2⟩; have B2 : Hid (Below (w.alloc (.cells #[.int .i64 b] 3)).heap.size (w.alloc (.cells #[.int .i64 b] 3)) w2) := bstep B1.out hb2; have hc2 : w2.cell? ⟨w.heap.size, 0, none⟩ = some (.int .i64 b) := (hb2.cell (p := ⟨w.heap.size, 0, none⟩) (World.block_lt_of_cell? _ _ C1.out)).trans C1.out; clear hb2)
        | (go_at_call 23; refine (K22.out _ _ (HR.out.below (pal B2.out _)) (rd_lit [b] rfl (by simp))).mono ?_; rintro e w3 ⟨v3, rfl, o3, hb3⟩; have O3 : Hid (OwnP w3 w.heap.size v3 P) := o3.mono (by have := (bstep HB0.out (pal B2.out (.cells #[.int .i64 b] 3))).size; exact this); have B3 : Hid (Below w.heap.size w w3) := bstep HB0.out (bstep (pal B2.out _) hb3); clear o3 hb3))
      go_ret2
      exact ⟨_, rfl, O3.out, B3.out⟩
    · obtain rfl : f = S.length := by omega
      have hm : b ∉ S := fun hm => by
        have := hfn rfl b hm
        simp at this
      rw [if_neg hm, if_neg hm]
      clear hm hfa hfn
      go_enter Tryz.func6, Tryz.ntmps6
      go_wp2_with (first
        | (go_at_call 20; refine (K21.out _ HR.out).mono ?_; rintro e w1 ⟨v1, rfl, r1, hb1⟩; obtain ⟨_, a1, c1, rfl⟩ := r1.form; have R1 : Hid (Rd w1 (.slice a1 S.length c1) S) := r1; have B1 : Hid (Below (w.alloc (.cells #[.int .i64 b] 3)).heap.size (w.alloc (.cells #[.int .i64 b] 3)) w1) := hb1; have C1 : Hid (w1.cell? ⟨w.heap.size, 0, none⟩ = some (.int .i64 b)) := (hb1.cell (p := ⟨w.heap.size, 0, none⟩) (World.block_lt_of_cell? _ _ HC.out)).trans HC.out; clear r1 hb1)
        | (go_at_call 21; refine (PI.out _ _ R1.out C1.out).mono ?_; rintro e w2 ⟨rfl, hb2⟩; have B2 : Hid (Below (w.alloc (.cells #[.int .i64 b] 3)).heap.size (w.alloc (.cells #[.int .i64 b] 3)) w2) := bstep B1.out hb2; clear hb2))
      go_ret2
      exact ⟨_, rfl, OwnP.bare _ _, bstep HB0.out B2.out⟩
end Go.Proofs.YtcgclhahonndbaaGreat
namespace Go.Proofs.YtcgclhahonndbaaGreat
open Go.RowKit Go.Shelf
set_option linter.unusedVariables false

theorem fiG_map {α β : Type} (f : α → β) (t : β → Bool) : ∀ (l : List α), fiG t (l.map f) = fiG (fun x => t (f x)) l
  | [] => rfl
  | x :: r => by
    rw [List.map_cons]
    unfold fiG
    rw [fiG_map f t r]
theorem rise_take (c : ByteArray) : ∀ {l : List Pa}, Ri l → l.take (fiG (fun p => !tL p.k c) l) = l.filter fun p => tL p.k c
  | [], _ => rfl
  | p :: r, h => by
    have h' := h
    unfold Ri at h'
    rw [List.pairwise_cons] at h'
    unfold fiG
    cases e : tL p.k c with
    | true =>
      rw [if_neg (by simp), List.take_succ_cons, List.filter_cons, if_pos e, rise_take c h'.2]
    | false =>
      rw [if_pos (by simp), List.take_zero, List.filter_cons, if_neg (by rw [e]; decide)]
      symm
      rw [List.filter_eq_nil_iff]
      intro q hq hc
      have h2 := tL_tr (h'.1 q hq) hc
      rw [e] at h2
      cases h2
theorem slR_kv (zs : List Int) (b : Int) : (slR zs b).map prR = kvL zs b := by
  unfold slR kvL
  rw [List.map_map]
  rfl
theorem leaf_ne {zs L : List Int} (hL : lvA zs = some L) {b : Int} (hb : b ∈ L) : b ≠ 0 := by
  obtain ⟨_, _, hok, _⟩ := lvA_out hL
  obtain ⟨h0, hE, _⟩ := hok b hb
  have := (rnK_iff.1 (rn_may hE).1).1
  omega
theorem lv_few {zs L : List Int} (hL : lvA zs = some L) (hz : zs.length ≤ 1000) : L.length ≤ 62 := by
  obtain ⟨_, hn, hok, _⟩ := lvA_out hL
  refine nodup_len 62 L hn (fun b hb => ?_)
  have h3 := rnK_iff.1 (rn_may (hok b hb).2.1).1
  omega
/-- A leaf's own pairs are those ahead of the key from which on the next one is. -/
theorem ownL_at {zs L : List Int} (hL : lvA zs = some L) (hs : sndB zs = true) {i : Nat} {b : Int} (hb : L[i]? = some b) : ownL zs b = ownR zs b (L.drop (i + 1)) := by
  have hx := leaf_next hL hb
  have hr := (leaf_ri hL hs (List.mem_of_getElem? hb)).1
  unfold ownL cutR
  cases hc : L[i + 1]? with
  | none =>
    rw [hc] at hx
    have hd : L.drop (i + 1) = [] := List.drop_eq_nil_of_le (by
      have := List.getElem?_eq_none_iff.1 hc
      omega)
    rw [if_pos (show (rnN zs b).nx = 0 from hx), hd, slR_kv]
    rfl
  | some c =>
    rw [hc] at hx
    have hx : (rnN zs b).nx = c := hx
    have hn := leaf_ne hL (List.mem_of_getElem? hc)
    obtain ⟨hi, hci⟩ := List.getElem?_eq_some_iff.1 hc
    rw [hx, if_neg hn, List.drop_eq_getElem_cons hi, hci]
    show _ = (kvL zs b).filter fun p => tL p.k (loS zs c)
    rw [← rise_take (loS zs c) hr, ← slR_kv, fiG_map, List.map_take]
    rfl
theorem flat_drop {zs L : List Int} (hL : lvA zs = some L) (hs : sndB zs = true) : ∀ (n i : Nat), L.length - i = n → (L.drop i).flatMap (ownL zs) = prsR zs (L.drop i)
  | 0, i, h => by rw [List.drop_eq_nil_of_le (by omega)]; rfl
  | n + 1, i, h => by
    have hi : i < L.length := by omega
    have hb : L[i]? = some L[i] := List.getElem?_eq_getElem hi
    rw [List.drop_eq_getElem_cons hi, List.flatMap_cons, ownL_at hL hs hb, flat_drop hL hs n (i + 1) (by omega)]
    rfl
/-- All pairs. -/
theorem flat_prs {zs L : List Int} (hL : lvA zs = some L) (hs : sndB zs = true) : L.flatMap (ownL zs) = prsR zs L := by
  have := flat_drop hL hs L.length 0 rfl
  rwa [List.drop_zero] at this
theorem flat_ri {zs L : List Int} (hL : lvA zs = some L) (hs : sndB zs = true) : Ri (L.flatMap (ownL zs)) := by
  rw [flat_prs hL hs]
  exact (prs_ri (gd_of hL hs)).1
theorem own_low {zs L : List Int} (hL : lvA zs = some L) (hs : sndB zs = true) {i : Nat} {b : Int} (hb : L[i]? = some b) : ∀ p ∈ ownL zs b, tL p.k (loS zs b) = false := by
  rw [ownL_at hL hs hb]
  intro p hp
  exact (leaf_ri hL hs (List.mem_of_getElem? hb)).2 p (own_sub p hp)
/-- A key is got from all pairs just as from the own ones of the leaf that may have it. -/
theorem get_leaf {zs L : List Int} (hL : lvA zs = some L) (hs : sndB zs = true) {j : Nat} {b : Int} {key : ByteArray} (hb : L[j]? = some b) (h1 : tL key (loS zs b) = false) (h2 : ∀ (i : Nat) c, j < i → L[i]? = some c → tL key (loS zs c) = true) :
    geP (L.flatMap (ownL zs)) key = geP (ownL zs b) key := by
  obtain ⟨hj, hbj⟩ := List.getElem?_eq_some_iff.1 hb
  have hsp : L = L.take j ++ b :: L.drop (j + 1) := by
    rw [← hbj, ← List.drop_eq_getElem_cons hj, List.take_append_drop]
  rw [flat_prs hL hs, ownL_at hL hs hb]
  have hg := gd_of hL hs
  rw [hsp] at hg
  have := get_at (key := key) h1 (fun c hc => by
    obtain ⟨i, hi⟩ := List.getElem?_of_mem hc
    rw [List.getElem?_drop] at hi
    exact h2 _ c (by omega) hi) hg
  rwa [← hsp] at this
end Go.Proofs.YtcgclhahonndbaaGreat
