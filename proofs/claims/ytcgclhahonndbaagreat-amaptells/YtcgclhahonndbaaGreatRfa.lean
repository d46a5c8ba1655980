/- Set over from a lower layer: Fastf. · The document's In and Leaves. -/
import Derived.Test.YtcgclhahonndbaaGreatFFastd
import Derived.Test.YtcgclhahonndbaaGreatNNumz
import Derived.Test.YtcgclhahonndbaaGreatRRech
import Derived.Test.YtcgclhahonndbaaGreatRKeywalkc
import Derived.Test.YtcgclhahonndbaaGreatXRRecj
import Derived.Test.YtcgclhahonndbaaGreatBase
import Derived.Test.YtcgclhahonndbaaGreatXNNoda
import Derived.Test.YtcgclhahonndbaaGreatXNNody
import Derived.Test.YtcgclhahonndbaaGreatXRKeywalka
import Derived.Test.YtcgclhahonndbaaGreatArq
namespace Go.Proofs.YtcgclhahonndbaaGreat
open Go.RowKit Go.Shelf Classical
set_option linter.unusedVariables false
/-- One number that was just laid is appended to a row of the call's own. -/
theorem append_i1 {W w0 : World} {ops : Array Oper} {rest : List Oper} {o : Oper} {a : Act} {Q : Exit → Act → World → Prop} (hgd : o.guard = none) (s x : Operand)
    (ho : o.op = .call { callee := .builtin .append, args := #[s, x], argTypes := #[22, 22] }) (base : Nat) (v : Value) (zs : List Int) (z : Int)
    (hown : OwnI w0 base v zs) (hn : zs.length ≤ 2000) (hbase : base ≤ w0.heap.size)
    (hW : W = w0.alloc (.cells #[.int .i64 z] 3)) (hs : a.eval s = v) (H : Nat) (hH : w0.heap.size = H) (hx : a.eval x = .slice (some ⟨H, 0, none⟩) 1 1)
    (h : ∀ g cap w', OwnI w' base (.slice (some ⟨g, 0, none⟩) (zs.length + 1) cap) (zs ++ [z]) → Below base w0 w' → wpList Tryz.prog ops Q rest (a.put o.dst (.slice (some ⟨g, 0, none⟩) (zs.length + 1) cap)) w') :
    wpList Tryz.prog ops Q (o :: rest) a W := by
  obtain ⟨i0, hi, hz0, hz1, hz2⟩ := info_parts Tryz.info3
  subst hW
  subst hH
  refine wpList_append_lies _ hgd s x 22 ho base 3 i0 _ 1 8 Tryz.underlying22 hi hz0 hz1 hz2 rfl (by decide) v zs.length (zs.map (Value.int .i64)) hs (World.ownsRow.alloc hown _) ⟨w0.heap.size, 0, none⟩ 1 1 [.int .i64 z] hx rfl ?_ (fun u hu => by simp at hu; rcases hu with rfl; rfl) (by omega) (by unfold maxLen; omega) (by omega) (by simp; omega) (w0.heap.size + 1) (by simp) ?_
  · exact World.news_of_block (heap_alloc_new w0 _)
  · intro g cap w' h1 h2 h3 h4
    refine h g cap w' ?_ ((Below.refl _ w0).grown (row := v.ownBlock) ⟨h2.os, h2.tape, h2.output, ?_, fun j hj hne => (h2.block j (by simp; omega) hne).trans (Below.heap_alloc w0 _ j hj)⟩ hbase (fun k hk => (World.ownsRow.lt hown k hk).1))
    · unfold OwnI
      rw [List.length_append, List.map_append]
      exact h1
    · have := h2.size
      simp at this
      omega
theorem OwnI.bare (W : World) (base : Nat) : OwnI W base (.slice none 0 0) [] := ⟨rfl, .inl ⟨rfl, rfl⟩⟩
set_option maxRecDepth 100000 in
set_option maxHeartbeats 2000000 in
theorem plainR_any (v : Value) (zs : List Int) (w : World) (hR : Rd w v zs) : Calls Tryz.prog 47 #[v] w fun e w' => ∃ v', e = .returned v' ∧ Rd w' v' (plN zs) ∧ Below w.heap.size w w' := by
  have HR : Hid (Rd w v zs) := hR
  obtain ⟨hl, a, cap, rfl⟩ := hR.form
  clear hR
  go_enter Tryz.func47, Tryz.ntmps47
  go_wp2
  go_loopw [3, 4] (fun o i w1 => ∃ (k : Nat) (L : List Int), k ≤ zs.length ∧ i = .int .i64 k ∧ OwnI w1 w.heap.size o L ∧ L = plN (zs.take k) ∧ Below w.heap.size w w1) (fun _ i _ => zs.length - (Go.RowKit.intOf i).toNat)
  case atStart => exact ⟨0, [], Nat.zero_le _, rfl, OwnI.bare _ _, rfl, Below.refl _ _⟩
  case round =>
    obtain ⟨k, L, hk, rfl, hO, hE, hB⟩ := hrel
    have hsz : w.heap.size ≤ wr.heap.size := hB.size
    have HB : Hid (Below w.heap.size w wr) := hB
    have HO : Hid (OwnI wr w.heap.size _ L) := hO
    have HE : Hid (L = plN (zs.take k)) := hE
    have hlen : L.length ≤ 1000 := by
      rw [hE]
      have := plN_length (zs.take k)
      rw [List.length_take] at this
      omega
    clear hO hB hE
    by_cases hlt : k < zs.length
    · have hltI : (k : Int) < (zs.length : Int) := by omega
      obtain ⟨x, hx⟩ : ∃ x, zs[k]? = some x := ⟨_, List.getElem?_eq_getElem hlt⟩
      obtain ⟨blk, off, rfl, hat⟩ := (HR.out.below HB.out).base (by omega)
      have hc := hat _ _ hx
      have HOq : ∀ q, Hid (OwnI (wr.drewN q) w.heap.size _ L) := fun q => HO.out.below (below_drewN (Below.refl _ _) _)
      have t0 : Hid (0 = 0) := rfl
      by_cases h0 : k = 0
      · subst h0
        have Hn : Hid (L ++ [x] = plN (zs.take (0 + 1))) := by
          show _ = _
          rw [plN_take1, take_next hx, HE.out]
          rfl
        rw [Nat.add_zero] at hc
        clear hx hat
        go_wp2
        go_quiet (fail)
        go_wp2_with (first
          | (at_builtin; clear t0; refine append_i1 rfl _ _ rfl w.heap.size _ L x (HOq _).out (by omega) hsz rfl rfl wr.heap.size rfl rfl ?_; intro g5 c5 w5 o5 b5; have HO5 : Hid (OwnI w5 w.heap.size _ (L ++ [x])) := o5; have HB5 : Hid (Below w.heap.size w w5) := (below_drewN HB.out _).trans b5; clear o5 b5))
        go_roundw
        case rel => exact ⟨0 + 1, _, by omega, by go_num, HO5.out, Hn.out, HB5.out⟩
        case measure => simp [Go.RowKit.intOf]; omega
      · obtain ⟨m, rfl⟩ : ∃ m, k = m + 1 := ⟨k - 1, by omega⟩
        obtain ⟨y, hy⟩ : ∃ y, zs[m]? = some y := ⟨_, List.getElem?_eq_getElem (by omega)⟩
        have hcy := hat _ _ hy
        have Hpt : Hid (plN (zs.take (m + 1 + 1)) = if x = y then plN (zs.take (m + 1)) else plN (zs.take (m + 1)) ++ [x]) := plN_take hx hy
        have d0 : (((m : Int) + 1) == 0) = false := beq_eq_false_iff_ne.2 (by omega)
        have d00 : decide ((m : Int) + 1 = 0) = false := decide_eq_false (by omega)
        clear hx hy hat h0
        by_cases hne : x = y
        · have hdn : (x != y) = false := by simpa using hne
          have Hn : Hid (L = plN (zs.take (m + 1 + 1))) := by (show _ = _; rw [Hpt.out, if_pos hne, HE.out])
          clear hne
          go_wp2
          go_quiet (fail)
          go_wp2
          go_roundw
          case rel => exact ⟨m + 1 + 1, _, by omega, by go_num, (HOq _).out, Hn.out, below_drewN HB.out _⟩
          case measure => simp [Go.RowKit.intOf]; omega
        · have hdn : (x != y) = true := by simpa using hne
          have Hn : Hid (L ++ [x] = plN (zs.take (m + 1 + 1))) := by (show _ = _; rw [Hpt.out, if_neg hne, HE.out])
          clear hne
          go_wp2
          go_quiet (fail)
          go_wp2_with (first
            | (at_builtin; clear t0; refine append_i1 rfl _ _ rfl w.heap.size _ L x (HOq _).out (by omega) hsz rfl rfl wr.heap.size rfl rfl ?_; intro g5 c5 w5 o5 b5; have HO5 : Hid (OwnI w5 w.heap.size _ (L ++ [x])) := o5; have HB5 : Hid (Below w.heap.size w w5) := (below_drewN HB.out _).trans b5; clear o5 b5))
          go_roundw
          case rel => exact ⟨m + 1 + 1, _, by omega, by go_num, HO5.out, Hn.out, HB5.out⟩
          case measure => simp [Go.RowKit.intOf]; omega
    · have hge : ¬ (k : Int) < (zs.length : Int) := by omega
      have Hn : Hid (L = plN zs) := by (show _ = _; rw [HE.out, List.take_of_length_le (by omega)])
      go_wp2
      go_ret
      exact ⟨_, rfl, by rw [← Hn.out]; exact HO.out.rd hlen, HB.out⟩
end Go.Proofs.YtcgclhahonndbaaGreat
namespace Go.Proofs.YtcgclhahonndbaaGreat
open Go.RowKit Go.Shelf
set_option linter.unusedVariables false

theorem take_nextz {α : Type} {l : List α} {k : Nat} {x : α} (h : l[k]? = some x) : l.take (k + 1) = l.take k ++ [x] := by
  rw [List.take_add_one, h]; rfl
set_option maxRecDepth 100000 in
set_option maxHeartbeats 1000000 in
theorem in_any (v : Value) (zs : List Int) (n : Int) (w : World) (hR : Rd w v zs) : Calls Tryz.prog 26 #[v, .int .i64 n] w fun e w' => e = .returned (.bool (decide (n ∈ zs))) ∧ w' = w := by
  have hR' : Hid (Rd w v zs) := hR
  obtain ⟨hz, a, cap, rfl⟩ := hR.form
  clear hR
  have h0 : Hid (n ∉ zs.take 0) := (by show _ ∉ _; simp)
  go_enter Tryz.func26, Tryz.ntmps26
  go_wp2
  go_loop [5] (fun s5 => ∃ k : Nat, k ≤ zs.length ∧ s5 = .int .i64 k ∧ n ∉ zs.take k) (fun s5 => zs.length - (Go.RowKit.intOf s5).toNat)
  case atStart => exact ⟨0, Nat.zero_le _, rfl, h0.out⟩
  case round =>
    obtain ⟨k, hk, rfl, hc⟩ := hrel
    have Hc : Hid (n ∉ zs.take k) := hc
    clear hc
    by_cases hlt : k < zs.length
    · have hltI : (k : Int) < (zs.length : Int) := by omega
      obtain ⟨x, hx⟩ : ∃ x, zs[k]? = some x := ⟨_, List.getElem?_eq_getElem hlt⟩
      obtain ⟨b, off, rfl, hcell⟩ := hR'.out.at k hlt
      rw [show zs[k] = x from by rw [List.getElem?_eq_getElem hlt] at hx; exact Option.some.inj hx] at hcell
      by_cases he : x = n
      · have F : Hid (decide (n ∈ zs) = true) := decide_eq_true (by rw [← he]; exact List.mem_of_getElem? hx)
        clear hx
        go_wp2
        go_ret
        exact ⟨ret_bool F.out.symm, rfl⟩
      · have F : Hid (n ∉ zs.take (k + 1)) := (by show _ ∉ _; rw [take_nextz hx, List.mem_append, List.mem_singleton]; rintro (h | h); · exact Hc.out h
                                                  · exact he h.symm)
        clear hx
        go_wp2
        go_round
        case rel => exact ⟨k + 1, by omega, by go_num, F.out⟩
        case measure => simp [Go.RowKit.intOf]; omega
    · have hge : ¬ (k : Int) < (zs.length : Int) := by omega
      have F : Hid (decide (n ∈ zs) = false) := decide_eq_false (by have := Hc.out; rwa [List.take_of_length_le (by omega)] at this)
      go_wp2
      go_ret
      exact ⟨ret_bool F.out.symm, rfl⟩

/-- What the document's look for the leaves knows ahead of each round. -/
structure LwI (zs : List Int) (w : World) (W : World) (v : Value) (D : List Int) (b : Int) : Prop where
  ow : OwnI W w.heap.size v D
  be : Below w.heap.size w W
  nd : D.Nodup
  ok : ∀ c ∈ D, rnE zs c = 0
  go : lvF (ndA zs) (300 - D.length) D b = lvF (ndA zs) 300 [] 1
theorem LwI.len {zs : List Int} {w : World} {W : World} {v : Value} {D : List Int} {b : Int} (h : LwI zs w W v D b) (hl : zs.length ≤ 1000) : D.length ≤ 62 := by
  refine nodup_len 62 D h.nd (fun b hb => ?_)
  have h3 := rnK_iff.1 (rn_may (h.ok b hb)).1
  omega
theorem LwI.bad {zs : List Int} {w : World} {W : World} {v : Value} {D : List Int} {b : Int} (h : LwI zs w W v D b) (hB : rdB zs = true) (h0 : b ≠ 0) (hx : ∀ n, ndA zs b = some n → n.lv = 0 → b ∈ D) : lvA zs = none := by
  unfold lvA
  rw [if_pos hB, ← h.go]
  exact lvF_bad h0 hx
theorem LwI.done {zs : List Int} {w : World} {W : World} {v : Value} {D : List Int} (h : LwI zs w W v D 0) (hB : rdB zs = true) : lvA zs = some D := by
  unfold lvA
  rw [if_pos hB, ← h.go, lvF_end]
theorem LwI.next {zs : List Int} {w : World} {W W' : World} {v v' : Value} {D : List Int} {b : Int} (h : LwI zs w W v D b) (hl9 : zs.length ≤ 1000) (h0 : b ≠ 0) (hE : rnE zs b = 0) (hl : (rnN zs b).lv = 0) (hn : b ∉ D)
    (hO : OwnI W' w.heap.size v' (D ++ [b])) (hb : Below w.heap.size w W') : LwI zs w W' v' (D ++ [b]) (rnN zs b).nx := by
  have hlen := h.len hl9
  refine ⟨hO, hb, ?_, ?_, ?_⟩
  · rw [List.nodup_append]
    exact ⟨h.nd, by simp, fun a ha c hc => by rw [List.mem_singleton] at hc; subst hc; exact fun e => hn (e ▸ ha)⟩
  · intro c hc
    rw [List.mem_append, List.mem_singleton] at hc
    rcases hc with hc | rfl
    · exact h.ok c hc
    · exact hE
  · rw [← h.go, List.length_append, List.length_singleton, show 300 - D.length = (300 - (D.length + 1)) + 1 by omega, lvF_step h0 (nd_yes hE) hl hn]
set_option maxRecDepth 100000 in
set_option maxHeartbeats 4000000 in
theorem leavesR_any (v : Value) (zs : List Int) (w : World) (hR : Rl w v zs) (hl : zs.length ≤ 1000) : Calls Tryz.prog 25 #[v] w fun e w' => ∃ v', e = .returned (.tuple #[v', .int .i64 (lvE zs)]) ∧ Rd w' v' (lvL zs) ∧ Below w.heap.size w w' := by
  have k46 := fun W (hW : Rl W v zs) => SreadR_any v zs W hW
  have HR : Hid (Rl w v zs) := hR
  have HL9 : Hid (zs.length ≤ 1000) := hl
  clear hR hl
  cases hB : rdB zs with
  | false =>
    have hv : lvA zs = none := by unfold lvA; rw [hB]; rfl
    have hE : lvE zs = 110 := by unfold lvE; rw [hv]
    have hL : lvL zs = [] := by unfold lvL; rw [hv]; rfl
    obtain ⟨e1, e2, e3⟩ := rd_no hB
    rw [e1, e2, e3] at k46
    rw [hE, hL]
    have K46 : Hid (∀ W (hW : Rl W v zs), Calls Tryz.prog 46 #[v] W fun e w' => e = .returned (.tuple #[.int .i64 0, .int .i64 0, .int .i64 80]) ∧ Below W.heap.size W w') := k46
    clear k46 hB e1 e2 e3 hv hE hL
    go_enter Tryz.func25, Tryz.ntmps25
    go_wp2_with (first
      | (go_at_call 46; refine (K46.out _ HR.out).mono ?_; rintro e w1 ⟨rfl, hb1⟩))
    exact bodyPost_ret (results_tmp2 rfl _ _ _) rfl ⟨_, rfl, nil_rd _, hb1⟩
  | true =>
    obtain ⟨e1, e2, e3⟩ := rd_yes hB
    rw [e1, e2, e3] at k46
    have K46 : Hid (∀ W (hW : Rl W v zs), Calls Tryz.prog 46 #[v] W fun e w' => e = .returned (.tuple #[.int .i64 (nbI zs), .int .i64 (rtI zs), .int .i64 0]) ∧ Below W.heap.size W w') := k46
    have HB : Hid (rdB zs = true) := hB
    clear k46 hB e1 e2 e3
    generalize nbI zs = nb at *
    generalize rtI zs = rt at *
    have NO : Hid (lvA zs = none → lvE zs = 110 ∧ lvL zs = []) := fun h => ⟨by unfold lvE; rw [h], by unfold lvL; rw [h]; rfl⟩
    have YES : Hid (∀ D, lvA zs = some D → lvE zs = 0 ∧ lvL zs = D) := fun D h => ⟨by unfold lvE; rw [h], by unfold lvL; rw [h]; rfl⟩
    go_enter Tryz.func25, Tryz.ntmps25
    go_wp2_with (first
      | (go_at_call 46; refine (K46.out _ HR.out).mono ?_; rintro e w1 ⟨rfl, hb1⟩; have B1 : Hid (Below w.heap.size w w1) := hb1; clear hb1))
    have I0 : Hid (LwI zs w w1 (.slice none 0 0) [] 1) := ⟨own_nil _ _, B1.out, List.nodup_nil, fun c hc => (by cases hc), rfl⟩
    go_loopw [7, 8] (fun o i wr => ∃ D b u, u = o ∧ i = .int .i64 b ∧ LwI zs w wr u D b) (fun o _ _ => 300 - lenV o)
    case atStart => exact ⟨[], 1, _, rfl, rfl, I0.out⟩
    case round =>
      obtain ⟨D, b, o, rfl, rfl, hI⟩ := hrel
      have HI : Hid (LwI zs w wr o D b) := hI
      clear hI I0
      by_cases h0 : b = 0
      · subst h0
        obtain ⟨y1, y2⟩ := YES.out D (HI.out.done HB.out)
        have hD := HI.out.len HL9.out
        have Y1 : Hid (lvE zs = 0) := y1
        have Y2 : Hid (lvL zs = D) := y2
        clear y1 y2
        go_wp2
        refine bodyPost_ret (results_tmp2 rfl _ _ _) rfl ?_; dsimp only; rw [Y1.out, Y2.out]; exact ⟨_, rfl, HI.out.ow.rd (by omega), HI.out.be⟩
      · have hE0 : (b != 0) = true := by simp [h0]
        have H0 : Hid (b ≠ 0) := h0
        clear h0
        have k43 := fun W (h : Rl W v zs) => readR_any v zs b W (h.rd HL9.out)
        have HE : Hid (rnE zs b = 0 → (rnN zs b).lv = 0 → b ∉ D → ∀ W' v', OwnI W' w.heap.size v' (D ++ [b]) → Below w.heap.size w W' → LwI zs w W' v' (D ++ [b]) (rnN zs b).nx) := fun h1 h2 h3 W' v' h4 h5 => HI.out.next HL9.out H0.out h1 h2 h3 h4 h5
        have HX : Hid ((rnE zs b = 0 → (rnN zs b).lv = 0 → b ∈ D) → lvE zs = 110 ∧ lvL zs = []) := fun h => NO.out (HI.out.bad HB.out H0.out (fun n hn hl => by obtain ⟨q1, rfl⟩ := nd_out hn; exact h q1 hl))
        generalize rnN zs b = n at *
        obtain ⟨lv, tu, nx, lo, sl⟩ := n
        dsimp only at k43 HE HX
        generalize rnE zs b = E at *
        have K43 : Hid (∀ W, Rl W v zs → Calls Tryz.prog 43 #[v, .int .i64 b] W fun e w' => ∃ v', e = .returned (.tuple #[.agg #[.int .i64 lv, .int .i64 tu, .int .i64 nx, .int .i64 lo, v'], .int .i64 E]) ∧ Rd w' v' sl ∧ Below W.heap.size W w') := k43
        clear k43
        have hD := HI.out.len HL9.out
        have OD : Hid (OwnI wr w.heap.size o D) := HI.out.ow
        have HBr : Hid (Below w.heap.size w wr) := HI.out.be
        have HLV : Hid (lenV o = D.length) := show _ = _ by obtain ⟨oa, oc, rfl⟩ := OD.out.form; rfl
        by_cases hE : E = 0
        · subst hE
          by_cases hl : lv = 0
          · subst hl
            by_cases hin : b ∈ D
            · obtain ⟨x1, x2⟩ := HX.out (fun _ _ => hin)
              have hd : decide (b ∈ D) = true := decide_eq_true hin
              have X1 : Hid (lvE zs = 110) := x1
              have X2 : Hid (lvL zs = []) := x2
              clear hin x1 x2
              go_wp2_with (first
                | (go_at_call 43; refine (K43.out _ (HR.out.below HBr.out)).mono ?_; rintro e w2 ⟨v1, rfl, r1, hb2⟩; obtain ⟨_, a1, c1, rfl⟩ := r1.form; have N2 : Hid (Nb (w2.alloc (.cells #[.int .i64 0, .int .i64 tu, .int .i64 nx, .int .i64 lo, .slice a1 sl.length c1] 43)) w2.heap.size 0 tu nx lo (.slice a1 sl.length c1)) := nb_new w2 0 tu nx lo _; obtain ⟨n0, n1, n2, n3, n4⟩ := N2.out.c; have B2 : Hid (Below wr.heap.size wr (w2.alloc (.cells #[.int .i64 0, .int .i64 tu, .int .i64 nx, .int .i64 lo, .slice a1 sl.length c1] 43))) := hb2.alloc hb2.size _; clear r1 hb2)
                | (go_at_call 26; refine (in_any _ D b _ ((OD.out.below B2.out).rd (by omega))).mono ?_; rintro e w3 ⟨rfl, rfl⟩; rw [hd]))
              refine bodyPost_ret (results_tmp2 rfl _ _ _) rfl ?_; dsimp only; rw [X1.out, X2.out]; exact ⟨_, rfl, nil_rd _, bstep HBr.out B2.out⟩
            · have NX : Hid (∀ W' v', OwnI W' w.heap.size v' (D ++ [b]) → Below w.heap.size w W' → LwI zs w W' v' (D ++ [b]) nx) := HE.out rfl rfl hin
              have hd : decide (b ∈ D) = false := decide_eq_false hin
              obtain ⟨M, hM⟩ : ∃ M, M = D ++ [b] := ⟨_, rfl⟩
              have HM : Hid (D ++ [b] = M) := hM.symm
              rw [← hM] at NX
              have hML : M.length = D.length + 1 := by rw [hM]; simp
              clear hin hM
              go_wp2_with (first
                | (go_at_call 43; refine (K43.out _ (HR.out.below HBr.out)).mono ?_; rintro e w2 ⟨v1, rfl, r1, hb2⟩; obtain ⟨_, a1, c1, rfl⟩ := r1.form; have N2 : Hid (Nb (w2.alloc (.cells #[.int .i64 0, .int .i64 tu, .int .i64 nx, .int .i64 lo, .slice a1 sl.length c1] 43)) w2.heap.size 0 tu nx lo (.slice a1 sl.length c1)) := nb_new w2 0 tu nx lo _; obtain ⟨n0, n1, n2, n3, n4⟩ := N2.out.c; have B2 : Hid (Below wr.heap.size wr (w2.alloc (.cells #[.int .i64 0, .int .i64 tu, .int .i64 nx, .int .i64 lo, .slice a1 sl.length c1] 43))) := hb2.alloc hb2.size _; clear r1 hb2)
                | (go_at_call 26; refine (in_any _ D b _ ((OD.out.below B2.out).rd (by omega))).mono ?_; rintro e w3 ⟨rfl, rfl⟩; rw [hd])
                | (at_builtin; have t1 := rd_lit (W := w2.alloc (.cells #[.int .i64 0, .int .i64 tu, .int .i64 nx, .int .i64 lo, .slice a1 sl.length c1] 43)) (b := w2.heap.size + 1) [b] (by simp) (by simp); have t2 := (OD.out.below B2.out).below (below_new _ (.cells #[.int .i64 b] 3)); have t4 := ((bstep HBr.out B2.out).alloc (bstep HBr.out B2.out).size (.cells #[.int .i64 b] 3)); have t3 := Below.size t4; have t5 := (N2.out.below (below_new _ (.cells #[.int .i64 b] 3))); refine append_rdc rfl _ _ 22 rfl w.heap.size 3 1 _ 8 Tryz.underlying22 Tryz.info3 rfl (by decide) (by decide) _ _ _ rfl t2 _ 1 ([b].map (Value.int .i64)) rfl t1 (ints_one [b]) (by omega) t3 ?_; intro v4 w4 o4 g4; have B4 : Hid (Below w.heap.size w w4) := t4.grown g4 t3 (fun q hq => (World.ownsRow.lt t2 q hq).1); have N4 : Hid (Nb w4 w2.heap.size 0 tu nx lo (.slice a1 sl.length c1)) := own_ne t2 g4 t5 (fun cs f e => by cases e); have O4 : Hid (OwnI w4 w.heap.size v4 M) := (by rw [← HM.out]; unfold OwnI; rw [List.map_append, List.length_append]; exact o4); clear o4 g4 n0 n1 n2 n3 n4 t1 t2 t3 t4 t5; obtain ⟨n0, n1, n2, n3, n4⟩ := N4.out.c))
              obtain ⟨a4, c4, rfl⟩ := O4.out.form
              go_roundw
              case rel => exact ⟨M, nx, _, rfl, rfl, NX.out _ _ O4.out B4.out⟩
              case measure =>
                have := HLV.out
                simp [lenV] at this ⊢
                omega
          · obtain ⟨x1, x2⟩ := HX.out (fun _ h => absurd h hl)
            have hlE : (lv == 0) = false := by simp [hl]
            have hlN : (lv != 0) = true := by simp [hl]
            have X1 : Hid (lvE zs = 110) := x1
            have X2 : Hid (lvL zs = []) := x2
            clear hl x1 x2
            go_wp2_with (first
              | (go_at_call 43; refine (K43.out _ (HR.out.below HBr.out)).mono ?_; rintro e w2 ⟨v1, rfl, r1, hb2⟩; obtain ⟨_, a1, c1, rfl⟩ := r1.form; have N2 : Hid (Nb (w2.alloc (.cells #[.int .i64 lv, .int .i64 tu, .int .i64 nx, .int .i64 lo, .slice a1 sl.length c1] 43)) w2.heap.size lv tu nx lo (.slice a1 sl.length c1)) := nb_new w2 lv tu nx lo _; obtain ⟨n0, n1, n2, n3, n4⟩ := N2.out.c; have B2 : Hid (Below wr.heap.size wr (w2.alloc (.cells #[.int .i64 lv, .int .i64 tu, .int .i64 nx, .int .i64 lo, .slice a1 sl.length c1] 43))) := hb2.alloc hb2.size _; clear r1 hb2))
            refine bodyPost_ret (results_tmp2 rfl _ _ _) rfl ?_; dsimp only; rw [X1.out, X2.out]; exact ⟨_, rfl, nil_rd _, bstep HBr.out B2.out⟩
        · obtain ⟨x1, x2⟩ := HX.out (fun h _ => absurd h hE)
          have hEE : (E == 0) = false := by simp [hE]
          have hEN : (E != 0) = true := by simp [hE]
          have X1 : Hid (lvE zs = 110) := x1
          have X2 : Hid (lvL zs = []) := x2
          clear hE x1 x2
          go_wp2_with (first
            | (go_at_call 43; refine (K43.out _ (HR.out.below HBr.out)).mono ?_; rintro e w2 ⟨v1, rfl, r1, hb2⟩; obtain ⟨_, a1, c1, rfl⟩ := r1.form; have B2 : Hid (Below wr.heap.size wr (w2.alloc (.cells #[.int .i64 lv, .int .i64 tu, .int .i64 nx, .int .i64 lo, .slice a1 sl.length c1] 43))) := hb2.alloc hb2.size _; clear r1 hb2))
          refine bodyPost_ret (results_tmp2 rfl _ _ _) rfl ?_; dsimp only; rw [X1.out, X2.out]; exact ⟨_, rfl, nil_rd _, bstep HBr.out B2.out⟩
end Go.Proofs.YtcgclhahonndbaaGreat
