/- Set over from a lower layer: Arg. -/
import Derived.Test.YtcgclhahonndbaaArf
namespace Go.Proofs.Ytcgclhahonndbaa
open Go.RowKit Go.Shelf
set_option linter.unusedVariables false
/-- What the look for the leaves knows ahead of each round. -/
structure LvI (zs : List Int) (w : World) (m : Nat) (W : World) (v : Value) (P : List (Int × Value)) (b : Int) : Prop where
  lv : Lv zs W w.heap.size v P
  st : St W m (P.map Prod.fst)
  be : Below w.heap.size w W
  nd : (P.map Prod.fst).Nodup
  ok : ∀ c ∈ P.map Prod.fst, rnE zs c = 0
  go : lvF (ndA zs) (300 - P.length) (P.map Prod.fst) b = lvF (ndA zs) 300 [] 1
  b0 : 0 ≤ b ∧ b ≤ 255
theorem LvI.len {zs : List Int} {w : World} {m : Nat} {W : World} {v : Value} {P : List (Int × Value)} {b : Int} (h : LvI zs w m W v P b) (hB : rdB zs = true) : P.length ≤ 256 := by
  have := lv_len hB h.nd h.ok
  simpa using this
theorem LvI.bad {zs : List Int} {w : World} {m : Nat} {W : World} {v : Value} {P : List (Int × Value)} {b : Int} (h : LvI zs w m W v P b) (hB : rdB zs = true) (h0 : b ≠ 0) (hx : ∀ n, ndA zs b = some n → n.lv = 0 → b ∈ P.map Prod.fst) : lvA zs = none := by
  unfold lvA
  rw [if_pos hB, ← h.go]
  exact lvF_bad h0 hx
theorem LvI.done {zs : List Int} {w : World} {m : Nat} {W : World} {v : Value} {P : List (Int × Value)} (h : LvI zs w m W v P 0) (hB : rdB zs = true) : lvA zs = some (P.map Prod.fst) := by
  unfold lvA
  rw [if_pos hB, ← h.go, lvF_end]
/-- One leaf more: behind the look at its block. -/
theorem LvI.next {zs : List Int} {w : World} {m : Nat} {W W' : World} {v v' u : Value} {P : List (Int × Value)} {b : Int} (h : LvI zs w m W v P b) (hB : rdB zs = true) (h0 : b ≠ 0) (hE : rnE zs b = 0) (hl : (rnN zs b).lv = 0) (hn : b ∉ P.map Prod.fst)
    (hL : Lv zs W' w.heap.size v' (P ++ [(b, u)])) (hS : St W' m (P.map Prod.fst ++ [b])) (hb : Below w.heap.size w W') : LvI zs w m W' v' (P ++ [(b, u)]) (rnN zs b).nx := by
  have hlen := h.len hB
  have hmap : (P ++ [(b, u)]).map Prod.fst = P.map Prod.fst ++ [b] := by simp
  refine ⟨hL, by rw [hmap]; exact hS, hb, ?_, ?_, ?_, ?_⟩
  · rw [hmap, List.nodup_append]
    exact ⟨h.nd, by simp, fun a ha c hc => by rw [List.mem_singleton] at hc; subst hc; exact fun e => hn (e ▸ ha)⟩
  · rw [hmap]
    intro c hc
    rw [List.mem_append, List.mem_singleton] at hc
    rcases hc with hc | rfl
    · exact h.ok c hc
    · exact hE
  · rw [hmap, ← h.go, List.length_append, List.length_singleton, show 300 - P.length = (300 - (P.length + 1)) + 1 by omega, lvF_step h0 (nd_yes hE) hl hn]
  · have := (rn_may hE).2
    exact ⟨this.x0, this.x9⟩
theorem below_new (W : World) (o : Obj) : Below W.heap.size W (W.alloc o) := (Below.refl _ _).alloc (Nat.le_refl _) _
/-- A leaf is appended: all that is known stays so. -/
theorem leaf_pushed {zs : List Int} {w W W' : World} {base m g : Nat} {v v' u : Value} {P : List (Int × Value)} {b : Int} {l : List Int} {lv tu nx lo : Int} {y : Value} (hL : Lv zs W base v P) (hS : St W m l) (hB : Below base w W) (hbase : base ≤ W.heap.size) (hX : Nb W g lv tu nx lo y) {sl : List Int} (hO : OwnI W base u sl) (hsl : sl = (rnN zs b).sl)
    (o6 : W'.ownsRow base 60 6 v' (P.length + 1) (P.flatMap (lfC zs) ++ lfC zs (b, u))) (g6 : W.grownBy W' v.ownBlock) : Lv zs W' base v' (P ++ [(b, u)]) ∧ St W' m l ∧ Below base w W' ∧ Nb W' g lv tu nx lo y := by
  refine ⟨⟨?_, ?_⟩, ?_, ?_, ?_⟩
  · rw [List.length_append, List.length_singleton, List.flatMap_append]
    simpa using o6
  · intro p hp
    rw [List.mem_append, List.mem_singleton] at hp
    rcases hp with hp | rfl
    · exact own_grown hL.own g6 (hL.rd p hp) (by decide)
    · subst hsl
      exact own_grown hL.own g6 hO (by decide)
  · obtain ⟨es, ck, hb⟩ := hS.ma
    exact hS.same ((own_ne hL.own g6 hb (fun cs f e => by cases e)).trans hb.symm)
  · exact hB.grown g6 hbase (fun k hk => (World.ownsRow.lt hL.own k hk).1)
  · exact own_ne hL.own g6 hX (fun cs f e => by cases e)
/-- How long a slice is. -/
def lenV : Value → Nat
  | .slice _ n _ => n
  | _ => 0
theorem Lv.form {zs : List Int} {W : World} {base : Nat} {v : Value} {P : List (Int × Value)} (h : Lv zs W base v P) : ∃ a c, v = .slice a P.length c := by
  rcases h.own.2 with ⟨rfl, h0⟩ | ⟨g, cap, cur, rfl, _⟩
  · exact ⟨none, 0, by rw [h0]⟩
  · exact ⟨_, cap, rfl⟩
theorem Lv.len {zs : List Int} {W : World} {base : Nat} {v : Value} {P : List (Int × Value)} (h : Lv zs W base v P) : lenV v = P.length := by
  obtain ⟨a, c, rfl⟩ := h.form
  rfl
set_option maxRecDepth 100000 in
set_option maxHeartbeats 4000000 in
theorem leavesOf_any (v : Value) (zs : List Int) (w : World) (hR : Rl w v zs) : Calls Try.prog 28 #[v] w fun e w' =>
    (∃ v' P, lvA zs = some (P.map Prod.fst) ∧ e = .returned v' ∧ Lv zs w' w.heap.size v' P ∧ Below w.heap.size w w') ∨ (lvA zs = none ∧ e = .panicked [unS] ∧ Below w.heap.size w w') := by
  have k38 := fun W (hW : Rl W v zs) => Sread_any v zs W hW
  have HR : Hid (Rl w v zs) := hR
  clear hR
  have hmm := @run_makeMap Try.prog
  cases hB : rdB zs with
  | false =>
    have H : Hid (lvA zs = none) := show _ = _ by unfold lvA; rw [hB]; rfl
    obtain ⟨e1, e2, e3⟩ := rd_no hB
    rw [e1, e2, e3] at k38
    have K38 : Hid (∀ W (hW : Rl W v zs), Calls Try.prog 52 #[v] W fun e w' => e = .returned (.tuple #[.int .i64 0, .int .i64 0, .int .i64 80]) ∧ Below W.heap.size W w') := k38
    clear k38 hB e1 e2 e3
    go_enter Try.func28, Try.ntmps28
    go_wp2_with (first
      | (go_at_call 52; refine (K38.out _ HR.out).mono ?_; rintro e w1 ⟨rfl, hb1⟩)
      | (go_at_call 49; refine (demand_no _).mono ?_; rintro e w2 ⟨rfl, hw⟩; rw [hw]; clear hw w2))
    exact ⟨rfl, .inr ⟨H.out, rfl, hb1⟩⟩
  | true =>
    obtain ⟨e1, e2, e3⟩ := rd_yes hB
    rw [e1, e2, e3] at k38
    have K38 : Hid (∀ W (hW : Rl W v zs), Calls Try.prog 52 #[v] W fun e w' => e = .returned (.tuple #[.int .i64 (nbI zs), .int .i64 (rtI zs), .int .i64 0]) ∧ Below W.heap.size W w') := k38
    have HB : Hid (rdB zs = true) := hB
    clear k38 hB e1 e2 e3
    generalize nbI zs = nb at *
    generalize rtI zs = rt at *
    go_enter Try.func28, Try.ntmps28
    go_wp2_with (first
      | (go_at_call 52; refine (K38.out _ HR.out).mono ?_; rintro e w1 ⟨rfl, hb1⟩)
      | (go_at_call 49; refine (demand_yes _).mono ?_; rintro e w2 ⟨rfl, hw⟩; rw [hw]; clear hw w2))
    have I0 : Hid (LvI zs w w1.heap.size (w1.alloc (.map #[] 0)) (.slice none 0 0) [] 1) := by
      have hb2 := hb1.alloc hb1.size (.map #[] 0)
      exact ⟨⟨⟨rfl, .inl ⟨rfl, rfl⟩⟩, fun p hp => by cases hp⟩, st_new w1, hb2, List.nodup_nil, fun c hc => (by cases hc), rfl, by omega⟩
    have HM : Hid (w.heap.size ≤ w1.heap.size) := hb1.size
    clear hb1
    generalize w1.heap.size = m at *
    generalize w1.alloc (.map #[] 0) = W1 at *
    go_loopw [6, 8] (fun o i wr => ∃ P b u, u = o ∧ i = .int .i64 b ∧ LvI zs w m wr u P b) (fun o _ _ => 300 - lenV o)
    case atStart => exact ⟨[], 1, _, rfl, rfl, I0.out⟩
    case round =>
      obtain ⟨P, b, o, rfl, rfl, hI⟩ := hrel
      have HI : Hid (LvI zs w m wr o P b) := hI
      clear hI I0
      by_cases h0 : b = 0
      · subst h0
        have D : Hid (lvA zs = some (P.map Prod.fst)) := HI.out.done HB.out
        go_wp2
        exact bodyPost_ret (results_tmp rfl _ _ _) rfl (.inl ⟨o, P, D.out, rfl, HI.out.lv, HI.out.be⟩)
      · have hE0 : (b != 0) = true := by simp [h0]
        have H0 : Hid (b ≠ 0) := h0
        clear h0
        by_cases hE : rnE zs b = 0
        · have k31 := nodeOf_ok v zs b wr (HR.out.below HI.out.be) hE
          have HE : Hid (rnE zs b = 0) := hE
          have hmay := (rn_may hE).2
          obtain ⟨n, hn⟩ : ∃ n, n = rnN zs b := ⟨_, rfl⟩
          have HN : Hid (n = rnN zs b) := hn
          rw [← hn] at k31 hmay
          clear hn hE
          obtain ⟨lv, tu, nx, lo, sl⟩ := n
          dsimp only at k31
          have K31 : Hid (Calls Try.prog 34 #[v, .int .i64 b] wr fun e w' => ∃ v', e = .returned (.agg #[.int .i64 lv, .int .i64 tu, .int .i64 nx, .int .i64 lo, v']) ∧ OwnI w' wr.heap.size v' sl ∧ Below wr.heap.size wr w') := k31
          have Hm : Hid (May ⟨lv, tu, nx, lo, sl⟩) := hmay
          have Hb : Hid (-9223372036854775808 ≤ b ∧ b < 9223372036854775808) := show _ ∧ _ by have := HI.out.b0; omega
          clear k31 hmay
          by_cases hl : lv = 0
          · subst hl
            by_cases hin : b ∈ P.map Prod.fst
            · have D : Hid (lvA zs = none) := HI.out.bad HB.out H0.out (fun _ _ _ => hin)
              have hd : decide (b ∈ P.map Prod.fst) = true := decide_eq_true hin
              clear hin
              go_wp2_with (first
                | (go_at_call 34; refine K31.out.mono ?_; rintro e w2 ⟨v1, rfl, r1, hb2⟩; obtain ⟨a1, c1, rfl⟩ := r1.form; have B2 : Hid (Below wr.heap.size wr (w2.alloc (.cells #[.int .i64 0, .int .i64 tu, .int .i64 nx, .int .i64 lo, .slice a1 sl.length c1] 51))) := hb2.alloc hb2.size _; have X2 : Hid (Nb (w2.alloc (.cells #[.int .i64 0, .int .i64 tu, .int .i64 nx, .int .i64 lo, .slice a1 sl.length c1] 51)) w2.heap.size 0 tu nx lo (.slice a1 sl.length c1)) := nb_new w2 0 tu nx lo _; have O2 : Hid (OwnI (w2.alloc (.cells #[.int .i64 0, .int .i64 tu, .int .i64 nx, .int .i64 lo, .slice a1 sl.length c1] 51)) wr.heap.size (.slice a1 sl.length c1) sl) := r1.below ((Below.refl _ _).alloc (Nat.le_refl _) _); clear r1 hb2; obtain ⟨d0, d1, d2, d3, d4⟩ := X2.out.c; clear d1 d2 d3 d4)
                | (go_at_call 53; refine (has_any m (P.map Prod.fst) b _ (HI.out.st.below B2.out) Hb.out).mono ?_; rintro e w3 ⟨rfl, hb3⟩; rw [hd])
                | (go_at_call 49; refine (demand_no _).mono ?_; rintro e w4 ⟨rfl, hw⟩; rw [hw]; clear hw w4))
              exact ⟨rfl, .inr ⟨D.out, rfl, bstep (bstep HI.out.be B2.out) hb3⟩⟩
            · have hd : decide (b ∈ P.map Prod.fst) = false := decide_eq_false hin
              have Hin : Hid (b ∉ P.map Prod.fst) := hin
              clear hin
              have hlen := HI.out.len HB.out
              have Hlen : Hid (P.length ≤ 256) := hlen
              clear hlen
              go_wp2_with (first
                | (go_at_call 34; refine K31.out.mono ?_; rintro e w2 ⟨v1, rfl, r1, hb2⟩; obtain ⟨a1, c1, rfl⟩ := r1.form; have B2 : Hid (Below wr.heap.size wr (w2.alloc (.cells #[.int .i64 0, .int .i64 tu, .int .i64 nx, .int .i64 lo, .slice a1 sl.length c1] 51))) := hb2.alloc hb2.size _; have X2 : Hid (Nb (w2.alloc (.cells #[.int .i64 0, .int .i64 tu, .int .i64 nx, .int .i64 lo, .slice a1 sl.length c1] 51)) w2.heap.size 0 tu nx lo (.slice a1 sl.length c1)) := nb_new w2 0 tu nx lo _; have O2 : Hid (OwnI (w2.alloc (.cells #[.int .i64 0, .int .i64 tu, .int .i64 nx, .int .i64 lo, .slice a1 sl.length c1] 51)) wr.heap.size (.slice a1 sl.length c1) sl) := r1.below ((Below.refl _ _).alloc (Nat.le_refl _) _); clear r1 hb2; obtain ⟨d0, d1, d2, d3, d4⟩ := X2.out.c; clear d1 d2 d3 d4)
                | (go_at_call 53; refine (has_any m (P.map Prod.fst) b _ (HI.out.st.below B2.out) Hb.out).mono ?_; rintro e w3 ⟨rfl, hb3⟩; rw [hd]; have B3 : Hid (Below wr.heap.size wr w3) := bstep B2.out hb3; have X3 : Hid (Nb w3 w2.heap.size 0 tu nx lo (.slice a1 sl.length c1)) := X2.out.below hb3; have O3 : Hid (OwnI w3 wr.heap.size (.slice a1 sl.length c1) sl) := O2.out.below hb3; clear hb3 X2 O2 B2 d0)
                | (go_at_call 49; refine (demand_yes _).mono ?_; rintro e w4 ⟨rfl, hw⟩; rw [hw]; clear hw w4)
                | (go_at_call 54; refine (put_any m m (P.map Prod.fst) b _ (HI.out.st.below B3.out) (by have := Hlen.out; simp; omega) Hb.out).mono ?_; rintro e w5 ⟨rfl, s5, tn5⟩; have M3 := (HI.out.st.below B3.out).ma; have S5 : Hid (St w5 m (P.map Prod.fst ++ [b])) := s5; have X5 : Hid (Nb w5 w2.heap.size 0 tu nx lo (.slice a1 sl.length c1)) := X3.out.tn tn5 M3 M3; have O5 : Hid (OwnI w5 wr.heap.size (.slice a1 sl.length c1) sl) := own_tn O3.out tn5 M3 M3; have L5 : Hid (Lv zs w5 w.heap.size o P) := (HI.out.lv.below B3.out).tn tn5 M3 M3; have B5 : Hid (Below w.heap.size w w5) := (bstep HI.out.be B3.out).trans (tn5.below HM.out HM.out (bstep HI.out.be B3.out).size); obtain ⟨d0, d1, d2, d3, d4⟩ := X5.out.c; have Lf : Hid (RdC (w5.alloc (.cells #[.int .i64 0, .int .i64 tu, .int .i64 nx, .int .i64 lo, .slice a1 sl.length c1, .int .i64 b] 60)) 6 (.slice (some ⟨w5.heap.size, 0, none⟩) 1 1) 1 (lfC zs (b, .slice a1 sl.length c1))) := (by have := leaf_new w5 zs b (.slice a1 sl.length c1); rw [← HN.out] at this; exact this); clear s5 tn5 M3)
                | (at_builtin; refine append_rdc rfl _ _ 53 rfl w.heap.size 60 6 _ 64 Try.underlying53 Try.info60 rfl (by decide) (by decide) _ P.length _ rfl (L5.out.below (below_new w5 _)).own _ 1 _ rfl Lf.out (lfC_one zs b _ rfl) (Nat.le_trans Hlen.out (by omega)) (B5.out.alloc B5.out.size _).size ?_; intro v6 w6 o6 g6; obtain ⟨l6, s6, b6, x6⟩ := leaf_pushed (L5.out.below (below_new w5 _)) (S5.out.below (below_new w5 _)) (B5.out.alloc B5.out.size _) (B5.out.alloc B5.out.size _).size (X5.out.below (below_new w5 _)) ((O5.out.below (below_new w5 _)).less (show w.heap.size ≤ wr.heap.size from HI.out.be.size)) (by rw [← HN.out]) o6 g6; have L6 : Hid (Lv zs w6 w.heap.size v6 (P ++ [(b, .slice a1 sl.length c1)])) := l6; have S6 : Hid (St w6 m (P.map Prod.fst ++ [b])) := s6; have B6 : Hid (Below w.heap.size w w6) := b6; clear o6 g6 l6 s6 b6 d0 d1 d2 d3 d4; obtain ⟨d0, d1, d2, d3, d4⟩ := x6.c; clear d0 d1 d3 d4))
              have hnext : LvI zs w m w6 v6 (P ++ [(b, .slice a1 sl.length c1)]) nx := by
                have := HI.out.next HB.out H0.out HE.out (by rw [← HN.out]) Hin.out L6.out S6.out B6.out
                rw [← HN.out] at this
                exact this
              obtain ⟨a6, c6, rfl⟩ := hnext.lv.form
              go_roundw
              case rel => exact ⟨_, _, _, rfl, rfl, hnext⟩
              case measure =>
                have h6 := hnext.lv.len
                have h7 := HI.out.lv.len
                rw [List.length_append, List.length_singleton] at h6
                have := Hlen.out
                simp [lenV] at h6 h7 ⊢
                omega
          · have D : Hid (lvA zs = none) := HI.out.bad HB.out H0.out (fun n hn h => by rw [nd_yes HE.out] at hn; cases hn; rw [← HN.out] at h; exact absurd h hl)
            have hlE : (lv == 0) = false := by simp [hl]
            clear hl
            go_wp2_with (first
              | (go_at_call 34; refine K31.out.mono ?_; rintro e w2 ⟨v1, rfl, r1, hb2⟩; obtain ⟨a1, c1, rfl⟩ := r1.form; have B2 : Hid (Below wr.heap.size wr (w2.alloc (.cells #[.int .i64 lv, .int .i64 tu, .int .i64 nx, .int .i64 lo, .slice a1 sl.length c1] 51))) := hb2.alloc hb2.size _; have X2 : Hid (Nb (w2.alloc (.cells #[.int .i64 lv, .int .i64 tu, .int .i64 nx, .int .i64 lo, .slice a1 sl.length c1] 51)) w2.heap.size lv tu nx lo (.slice a1 sl.length c1)) := nb_new w2 lv tu nx lo _; have O2 : Hid (OwnI (w2.alloc (.cells #[.int .i64 lv, .int .i64 tu, .int .i64 nx, .int .i64 lo, .slice a1 sl.length c1] 51)) wr.heap.size (.slice a1 sl.length c1) sl) := r1.below ((Below.refl _ _).alloc (Nat.le_refl _) _); clear r1 hb2; obtain ⟨d0, d1, d2, d3, d4⟩ := X2.out.c; clear d1 d2 d3 d4)
              | (go_at_call 49; refine (demand_no _).mono ?_; rintro e w4 ⟨rfl, hw⟩; rw [hw]; clear hw w4))
            exact ⟨rfl, .inr ⟨D.out, rfl, bstep HI.out.be B2.out⟩⟩
        · have D : Hid (lvA zs = none) := HI.out.bad HB.out H0.out (fun n hn => by rw [nd_no hE] at hn; cases hn)
          have k31 := nodeOf_bad v zs b wr (HR.out.below HI.out.be) hE
          have K31 : Hid (Calls Try.prog 34 #[v, .int .i64 b] wr fun e w' => e = .panicked [unS] ∧ Below wr.heap.size wr w') := k31
          clear k31 hE
          go_wp2_with (first
            | (go_at_call 34; refine K31.out.mono ?_; rintro e w2 ⟨rfl, hb2⟩))
          exact ⟨rfl, .inr ⟨D.out, rfl, bstep HI.out.be hb2⟩⟩
end Go.Proofs.Ytcgclhahonndbaa
