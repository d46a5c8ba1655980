/- Layer 11: In (out of layer 10), New. -/
import Derived.Test.YtgcdhenbpkcmgaaArr
import Derived.Test.YtgcdhenbpkcmgaaSSupc
import Derived.Test.YtgcdhenbpkcmgaaNNodw
namespace Go.Proofs.Ytgcdhenbpkcmgaa
open Go.RowKit Go.Shelf
set_option linter.unusedVariables false

set_option maxRecDepth 100000 in
set_option maxHeartbeats 1000000 in
theorem in_any (v : Value) (zs : List Int) (n : Int) (w : World) (hR : Rd w v zs) : Calls Try.prog 15 #[v, .int .i64 n] w fun e w' => e = .returned (.bool (decide (n ∈ zs))) ∧ w' = w := by
  have hR' : Hid (Rd w v zs) := hR
  obtain ⟨hz, a, cap, rfl⟩ := hR.form
  clear hR
  have h0 : Hid (n ∉ zs.take 0) := (by show _ ∉ _; simp)
  go_enter Try.func15, Try.ntmps15
  go_wp2
  go_loop [5] (fun s5 => ∃ k : Nat, k ≤ zs.length ∧ s5 = .int .i64 k ∧ n ∉ zs.take k) (fun s5 => zs.length - (intOf s5).toNat)
  case atStart => exact ⟨0, Nat.zero_le _, rfl, h0.out⟩
  case round =>
    obtain ⟨k, hk, rfl, hc⟩ := hrel
    have Hc : Hid (n ∉ zs.take k) := hc
    clear hc
    by_cases hlt : k < zs.length
    · have hltI : (k : Int) < (zs.length : Int) := by omega
      obtain ⟨x, hx⟩ : ∃ x, zs[k]? = some x := ⟨_, List.getElem?_eq_getElem hlt⟩
      obtain ⟨b, off, rfl, hcell⟩ := hR'.out.at k hlt
      rw [show zs[k] = x from by rw [List.getElem?_eq_getElem hlt] at hx; exact Option.some.inj hx] at hcell
      by_cases he : x = n
      · have F : Hid (decide (n ∈ zs) = true) := decide_eq_true (by rw [← he]; exact List.mem_of_getElem? hx)
        clear hx
        go_wp2
        go_ret
        exact ⟨ret_bool F.out.symm, rfl⟩
      · have F : Hid (n ∉ zs.take (k + 1)) := (by show _ ∉ _; rw [take_next hx, List.mem_append, List.mem_singleton]; rintro (h | h); · exact Hc.out h
                                                  · exact he h.symm)
        clear hx
        go_wp2
        go_round
        case rel => exact ⟨k + 1, by omega, by go_num, F.out⟩
        case measure => simp [intOf]; omega
    · have hge : ¬ (k : Int) < (zs.length : Int) := by omega
      have F : Hid (decide (n ∈ zs) = false) := decide_eq_false (by have := Hc.out; rwa [List.take_of_length_le (by omega)] at this)
      go_wp2
      go_ret
      exact ⟨ret_bool F.out.symm, rfl⟩

/-- What is read is copied into a block of ints. -/
theorem wpList_copy_rd {ops : Array Oper} {rest : List Oper} {o : Oper} {a : Act} {w : World} {Q : Exit → Act → World → Prop} (hgd : o.guard = none) (d s : Operand)
    (ho : o.op = .call { callee := .builtin .copy, args := #[d, s], argTypes := #[23, 23] }) (g off n c : Nat) (zs L : List Int) (v : Value) (hd : a.eval d = .slice (some ⟨g, off, none⟩) n c) (hs : a.eval s = v)
    (hR : Rd w v zs) (hg : w.heap[g]? = some (.cells (L.map (Value.int .i64)).toArray 3 (0, 0))) (hn : zs.length ≤ n) (hL : off + zs.length ≤ L.length) (B : Nat) (w0 : World) (hb : Below B w0 w) (hBg : B ≤ g)
    (h : ∀ w', Hid (w'.heap[g]? = some (.cells ((splice L off zs).map (Value.int .i64)).toArray 3 (0, 0))) → Below B w0 w' → wpList Try.prog ops Q rest (a.put o.dst (goInt zs.length)) w') : wpList Try.prog ops Q (o :: rest) a w := by
  have hsz : (Try.prog.info? 3).map (·.size) = some 1 := by
    obtain ⟨i0, hi, _, hz1, _⟩ := info_parts Try.info3
    rw [hi]; simp [hz1]
  obtain ⟨_, _, ad, cap, rfl, _, h3⟩ := hR
  refine wpList_copy_splice hgd d s 23 23 ho 3 Try.underlying23 hsz _ _ n c zs.length cap hd hs g off (L.map (Value.int .i64)) 3 hg (zs.map (Value.int .i64)) (by rw [List.length_map]; exact (Nat.min_eq_left hn).symm) ?_ (by simpa using hL) (ints_one _) B w0 hb hBg ?_
  · intro h0
    refine ⟨rfl, ?_⟩
    rcases h3 with ⟨hz, _⟩ | ⟨b, o', rfl, _, hc⟩
    · simp [hz] at h0
    · refine ⟨_, rfl, fun j v hv => ?_⟩
      rw [Addr.add_lit]
      exact hc j v hv
  · intro w' h1 h2
    have e : splice (L.map (Value.int .i64)) off (zs.map (Value.int .i64)) = (splice L off zs).map (Value.int .i64) := by simp [splice]
    rw [e] at h1
    have := h w' h1 h2
    rwa [List.length_map]
/-- A new arena's words. -/
def nwB (n : Int) : Bool := mbB n 1
def nwL (n : Int) : List Int := if mbB n 1 then splice (splice (List.replicate (16 * n.toNat) 0) 0 (hdW n 1)) 16 (imN nilN) else []
def nwE (n : Int) : Int := if mbB n 1 then 0 else 1
theorem nil_may : May nilN := ⟨by decide, by decide, by decide, by decide, by decide, by decide, by decide, by decide, by decide, fun x hx => by cases hx⟩
theorem hdW_len (n r : Int) : (hdW n r).length = 16 := by rw [hdW_eq]; rfl
theorem rl_cells {W : World} {g : Nat} {zs : List Int} (h : W.heap[g]? = some (.cells (zs.map (Value.int .i64)).toArray 3 (0, 0))) (hl : zs.length ≤ 6000) : Rl W (.slice (some ⟨g, 0, none⟩) zs.length zs.length) zs := by
  refine ⟨hl, _, _, rfl, Nat.le_refl _, .inr ⟨g, 0, rfl, ?_, fun j u hj => ?_⟩⟩
  · exact (Array.getElem?_eq_some_iff.1 h).1
  · simp only [World.cell?, h, Nat.zero_add]
    simpa using hj
theorem cells_zeros (n : Nat) : madeCells #[Value.int .i64 0] n = ((List.replicate n (0 : Int)).map (Value.int .i64)).toArray := by
  apply Array.ext
  · simp [size_madeCells]
  · intro i h1 h2
    simp [madeCells, Nat.mod_one]
theorem make_zeros (m : Nat) (h : m ≤ 256) (w : World) : (Instr.makeSlice 23 (.int .i64 ((m : Int) * 16)) (.int .i64 ((m : Int) * 16))).run Try.prog w = .ok (.slice (some ⟨w.heap.size, 0, none⟩) (16 * m) (16 * m)) (w.alloc (.cells ((List.replicate (16 * m) (0 : Int)).map (Value.int .i64)).toArray 3)) := by
  obtain ⟨i0, hi, hz0, hz1, hz2⟩ := info_parts Try.info3
  have := run_make (P := Try.prog) w 23 3 i0 (.int .i64 0) Try.underlying23 hi hz0 .i64 .i64 (16 * (m : Int)) (16 * (m : Int)) (by omega) (Int.le_refl _) (by rw [hz2]; omega) (by omega)
  rw [show ((m : Int) * 16) = (16 * (m : Int)) by omega]
  have t : (16 * (m : Int)).toNat = 16 * m := by omega
  rw [t] at this
  rw [this]
  rw [hz1, Nat.mul_one, show (Value.int IntKind.i64 0).cells = #[Value.int .i64 0] by simp [Value.cells], cells_zeros]
theorem zeros_at (m : Nat) (W : World) : (W.alloc (.cells (Array.replicate (16 * m) (Value.int .i64 0)) 3)).heap[W.heap.size]? = some (.cells ((List.replicate (16 * m) (0 : Int)).map (Value.int .i64)).toArray 3 (0, 0)) := by
  rw [show Array.replicate (16 * m) (Value.int .i64 0) = ((List.replicate (16 * m) (0 : Int)).map (Value.int .i64)).toArray by simp]
  show (W.heap.push _)[W.heap.size]? = _
  rw [Array.getElem?_push_size]
set_option maxRecDepth 100000 in
set_option maxHeartbeats 2000000 in
theorem new_any (n : Int) (w : World) : Calls Try.prog 10 #[.int .i64 n] w fun e w' => ∃ v, e = .returned (.tuple #[v, .int .i64 (nwE n)]) ∧ Rl w' v (nwL n) ∧ Below w.heap.size w w' := by
  have k18 := words_any n 1 w
  cases hB : mbB n 1 with
  | false =>
    obtain ⟨e1, e2⟩ := wd_no hB
    rw [e1, e2] at k18
    have K18 : Hid (Calls Try.prog 18 #[.int .i64 n, .int .i64 1] w fun e w' => ∃ v, e = .returned (.tuple #[v, .int .i64 1]) ∧ Rd w' v [] ∧ Below w.heap.size w w') := k18
    have H1 : nwE n = 1 := by unfold nwE; rw [hB]; rfl
    have H2 : nwL n = [] := by unfold nwL; rw [hB]; rfl
    rw [H1, H2]
    clear k18 hB e1 e2 H1 H2
    go_enter Try.func10, Try.ntmps10
    go_wp2_with (first
      | (go_at_call 18; refine K18.out.mono ?_; rintro e w1 ⟨v1, rfl, r1, hb1⟩; obtain ⟨_, a1, c1, rfl⟩ := r1.form))
    exact bodyPost_ret (results_tmp2 rfl _ _ _) rfl ⟨_, rfl, (nil_rd _).rl, hb1⟩
  | true =>
    obtain ⟨e1, e2⟩ := wd_yes hB
    rw [e1, e2] at k18
    have hm := mbB_iff.1 hB
    obtain ⟨m, rfl⟩ : ∃ m : Nat, n = (m : Int) := ⟨n.toNat, by omega⟩
    have h2 : 2 ≤ m := by omega
    have h256 : m ≤ 256 := by omega
    have K18 : Hid (Calls Try.prog 18 #[.int .i64 (m : Int), .int .i64 1] w fun e w' => ∃ v, e = .returned (.tuple #[v, .int .i64 0]) ∧ Rd w' v (hdW m 1) ∧ Below w.heap.size w w') := k18
    have k19 := fun W => words_node nilN (.slice none 0 0) W (nil_rd W)
    obtain ⟨f1, f2⟩ := wn_yes (nnB_iff.2 nil_may)
    rw [f1, f2] at k19
    have K19 : Hid (∀ W, Calls Try.prog 19 #[.agg #[.int .i64 0, .int .i64 0, .int .i64 0, .int .i64 0, .slice none 0 0]] W fun e w' => ∃ v', e = .returned (.tuple #[v', .int .i64 0]) ∧ Rd w' v' (imN nilN) ∧ Below W.heap.size W w') := k19
    have H1 : nwE (m : Int) = 0 := by unfold nwE; rw [hB]; rfl
    have H2 : Hid (nwL (m : Int) = splice (splice (List.replicate (16 * m) 0) 0 (hdW m 1)) 16 (imN nilN)) := show _ = _ by unfold nwL; rw [hB]; rfl
    rw [H1]
    have l1 : Hid ((hdW (m : Int) 1).length = 16) := hdW_len (m : Int) 1
    have l2 : Hid ((imN nilN).length = 16) := imN_length (by decide)
    have hmk : ∀ w, (Instr.makeSlice 23 (.int .i64 ((m : Int) * 16)) (.int .i64 ((m : Int) * 16))).run Try.prog w = .ok (.slice (some ⟨w.heap.size, 0, none⟩) (16 * m) (16 * m)) (w.alloc (.cells ((List.replicate (16 * m) (0 : Int)).map (Value.int .i64)).toArray 3)) := make_zeros m h256
    clear k18 hB e1 e2 H1 k19 f1 f2 hm
    go_enter Try.func10, Try.ntmps10
    go_wp2_with (first
      | (go_at_call 18; refine K18.out.mono ?_; rintro e w1 ⟨v1, rfl, r1, hb1⟩; obtain ⟨_, a1, c1, rfl⟩ := r1.form; have R1 : Hid (Rd w1 (.slice a1 (hdW m 1).length c1) (hdW m 1)) := r1; have B1 : Hid (Below w.heap.size w w1) := hb1; clear r1 hb1)
      | (go_at_call 19; refine (K19.out _).mono ?_; rintro e w2 ⟨v2, rfl, r2, hb2⟩; obtain ⟨_, a2, c2, rfl⟩ := r2.form; have R2 : Hid (Rd w2 (.slice a2 (imN nilN).length c2) (imN nilN)) := r2; have S2 : Hid (Rd w2 (.slice a1 (hdW m 1).length c1) (hdW m 1)) := R1.out.below hb2; have B2 : Hid (Below w.heap.size w w2) := bstep B1.out hb2; clear r2 hb2)
      | (refine wpList_copy_rd rfl (.tmp 24) (.tmp 25) rfl w2.heap.size 0 (16 * m) (16 * m) (hdW m 1) (List.replicate (16 * m) 0) _ rfl rfl (S2.out.below ((Below.refl _ _).alloc (Nat.le_refl _) _)) (zeros_at m w2) (by rw [l1.out]; omega) (by rw [l1.out, List.length_replicate]; omega) w2.heap.size w2 ((Below.refl _ _).alloc (Nat.le_refl _) _) (Nat.le_refl _) ?_; intro w3 hc3 hb3)
      | (refine wpList_copy_rd rfl (.tmp 28) (.tmp 29) rfl w2.heap.size 16 _ _ (imN nilN) (splice (List.replicate (16 * m) 0) 0 (hdW m 1)) _ rfl rfl (R2.out.below hb3) hc3.out (by rw [l2.out]; omega) (by rw [l2.out, length_splice _ _ _ (by rw [l1.out, List.length_replicate]; omega), List.length_replicate]; omega) w2.heap.size w2 hb3 (Nat.le_refl _) ?_; intro w4 hc4 hb4))
    have L4 : (splice (splice (List.replicate (16 * m) 0) 0 (hdW m 1)) 16 (imN nilN)).length = 16 * m := by
      rw [length_splice _ _ _ (by rw [l2.out, length_splice _ _ _ (by rw [l1.out, List.length_replicate]; omega), List.length_replicate]; omega), length_splice _ _ _ (by rw [l1.out, List.length_replicate]; omega), List.length_replicate]
    have := rl_cells hc4.out (by rw [L4]; omega)
    rw [L4, ← H2.out] at this
    exact bodyPost_ret (results_tmp2 rfl _ _ _) rfl ⟨_, rfl, this, bstep B2.out hb4⟩
end Go.Proofs.Ytgcdhenbpkcmgaa
