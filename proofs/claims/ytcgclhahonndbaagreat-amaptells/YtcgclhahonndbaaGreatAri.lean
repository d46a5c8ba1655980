/- Set over from a lower layer: Arg. · Set over from a lower layer: Ari. -/
import Derived.Test.YtcgclhahonndbaaGreatNNumz
import Derived.Test.YtcgclhahonndbaaGreatArc
import Derived.Test.YtcgclhahonndbaaGreatAre
import Derived.Test.YtcgclhahonndbaaGreatArnum
import Derived.Test.YtcgclhahonndbaaGreatBase
import Derived.Test.YtcgclhahonndbaaGreatNNodp
import Derived.Test.YtcgclhahonndbaaGreatSSumz
import Derived.Test.YtcgclhahonndbaaGreatRKeywalkc
import Derived.Test.YtcgclhahonndbaaGreatArf
namespace Go.Proofs.YtcgclhahonndbaaGreat
open Go.RowKit Go.Shelf
set_option linter.unusedVariables false
/-- What the look for the leaves knows ahead of each round. -/
structure LvI (zs : List Int) (w : World) (m : Nat) (W : World) (v : Value) (P : List (Int × Value)) (b : Int) : Prop where
  lv : Lv zs W w.heap.size v P
  st : St W m (P.map Prod.fst)
  be : Below w.heap.size w W
  nd : (P.map Prod.fst).Nodup
  ok : ∀ c ∈ P.map Prod.fst, rnE zs c = 0
  go : lvF (ndA zs) (300 - P.length) (P.map Prod.fst) b = lvF (ndA zs) 300 [] 1
  b0 : 0 ≤ b ∧ b ≤ 255
theorem LvI.len {zs : List Int} {w : World} {m : Nat} {W : World} {v : Value} {P : List (Int × Value)} {b : Int} (h : LvI zs w m W v P b) (hB : rdB zs = true) : P.length ≤ 256 := by
  have := lv_len hB h.nd h.ok
  simpa using this
theorem LvI.bad {zs : List Int} {w : World} {m : Nat} {W : World} {v : Value} {P : List (Int × Value)} {b : Int} (h : LvI zs w m W v P b) (hB : rdB zs = true) (h0 : b ≠ 0) (hx : ∀ n, ndA zs b = some n → n.lv = 0 → b ∈ P.map Prod.fst) : lvA zs = none := by
  unfold lvA
  rw [if_pos hB, ← h.go]
  exact lvF_bad h0 hx
theorem LvI.done {zs : List Int} {w : World} {m : Nat} {W : World} {v : Value} {P : List (Int × Value)} (h : LvI zs w m W v P 0) (hB : rdB zs = true) : lvA zs = some (P.map Prod.fst) := by
  unfold lvA
  rw [if_pos hB, ← h.go, lvF_end]
/-- One leaf more: behind the look at its block. -/
theorem LvI.next {zs : List Int} {w : World} {m : Nat} {W W' : World} {v v' u : Value} {P : List (Int × Value)} {b : Int} (h : LvI zs w m W v P b) (hB : rdB zs = true) (h0 : b ≠ 0) (hE : rnE zs b = 0) (hl : (rnN zs b).lv = 0) (hn : b ∉ P.map Prod.fst)
    (hL : Lv zs W' w.heap.size v' (P ++ [(b, u)])) (hS : St W' m (P.map Prod.fst ++ [b])) (hb : Below w.heap.size w W') : LvI zs w m W' v' (P ++ [(b, u)]) (rnN zs b).nx := by
  have hlen := h.len hB
  have hmap : (P ++ [(b, u)]).map Prod.fst = P.map Prod.fst ++ [b] := by simp
  refine ⟨hL, by rw [hmap]; exact hS, hb, ?_, ?_, ?_, ?_⟩
  · rw [hmap, List.nodup_append]
    exact ⟨h.nd, by simp, fun a ha c hc => by rw [List.mem_singleton] at hc; subst hc; exact fun e => hn (e ▸ ha)⟩
  · rw [hmap]
    intro c hc
    rw [List.mem_append, List.mem_singleton] at hc
    rcases hc with hc | rfl
    · exact h.ok c hc
    · exact hE
  · rw [hmap, ← h.go, List.length_append, List.length_singleton, show 300 - P.length = (300 - (P.length + 1)) + 1 by omega, lvF_step h0 (nd_yes hE) hl hn]
  · have := (rn_may hE).2
    exact ⟨this.x0, this.x9⟩
theorem below_new (W : World) (o : Obj) : Below W.heap.size W (W.alloc o) := (Below.refl _ _).alloc (Nat.le_refl _) _
/-- A leaf is appended: all that is known stays so. -/
theorem leaf_pushed {zs : List Int} {w W W' : World} {base m g : Nat} {v v' u : Value} {P : List (Int × Value)} {b : Int} {l : List Int} {lv tu nx lo : Int} {y : Value} (hL : Lv zs W base v P) (hS : St W m l) (hB : Below base w W) (hbase : base ≤ W.heap.size) (hX : Nb W g lv tu nx lo y) {sl : List Int} (hO : OwnI W base u sl) (hsl : sl = (rnN zs b).sl)
    (o6 : W'.ownsRow base 100 6 v' (P.length + 1) (P.flatMap (lfC zs) ++ lfC zs (b, u))) (g6 : W.grownBy W' v.ownBlock) : Lv zs W' base v' (P ++ [(b, u)]) ∧ St W' m l ∧ Below base w W' ∧ Nb W' g lv tu nx lo y := by
  refine ⟨⟨?_, ?_⟩, ?_, ?_, ?_⟩
  · rw [List.length_append, List.length_singleton, List.flatMap_append]
    simpa using o6
  · intro p hp
    rw [List.mem_append, List.mem_singleton] at hp
    rcases hp with hp | rfl
    · exact own_grown hL.own g6 (hL.rd p hp) (by decide)
    · subst hsl
      exact own_grown hL.own g6 hO (by decide)
  · obtain ⟨es, ck, hb⟩ := hS.ma
    exact hS.same ((own_ne hL.own g6 hb (fun cs f e => by cases e)).trans hb.symm)
  · exact hB.grown g6 hbase (fun k hk => (World.ownsRow.lt hL.own k hk).1)
  · exact own_ne hL.own g6 hX (fun cs f e => by cases e)
/-- How long a slice is. -/
def lenV : Value → Nat
  | .slice _ n _ => n
  | _ => 0
theorem Lv.form {zs : List Int} {W : World} {base : Nat} {v : Value} {P : List (Int × Value)} (h : Lv zs W base v P) : ∃ a c, v = .slice a P.length c := by
  rcases h.own.2 with ⟨rfl, h0⟩ | ⟨g, cap, cur, rfl, _⟩
  · exact ⟨none, 0, by rw [h0]⟩
  · exact ⟨_, cap, rfl⟩
theorem Lv.len {zs : List Int} {W : World} {base : Nat} {v : Value} {P : List (Int × Value)} (h : Lv zs W base v P) : lenV v = P.length := by
  obtain ⟨a, c, rfl⟩ := h.form
  rfl
set_option maxRecDepth 100000 in
set_option maxHeartbeats 4000000 in
theorem leavesOf_any (v : Value) (zs : List Int) (w : World) (hR : Rl w v zs) : Calls Tryz.prog 68 #[v] w fun e w' =>
    (∃ v' P, lvA zs = some (P.map Prod.fst) ∧ e = .returned v' ∧ Lv zs w' w.heap.size v' P ∧ Below w.heap.size w w') ∨ (lvA zs = none ∧ e = .panicked [unS] ∧ Below w.heap.size w w') := by
  have k38 := fun W (hW : Rl W v zs) => Sread_any v zs W hW
  have HR : Hid (Rl w v zs) := hR
  clear hR
  have hmm := @run_makeMap Tryz.prog
  cases hB : rdB zs with
  | false =>
    have H : Hid (lvA zs = none) := show _ = _ by unfold lvA; rw [hB]; rfl
    obtain ⟨e1, e2, e3⟩ := rd_no hB
    rw [e1, e2, e3] at k38
    have K38 : Hid (∀ W (hW : Rl W v zs), Calls Tryz.prog 90 #[v] W fun e w' => e = .returned (.tuple #[.int .i64 0, .int .i64 0, .int .i64 80]) ∧ Below W.heap.size W w') := k38
    clear k38 hB e1 e2 e3
    go_enter Tryz.func68, Tryz.ntmps68
    go_wp2_with (first
      | (go_at_call 90; refine (K38.out _ HR.out).mono ?_; rintro e w1 ⟨rfl, hb1⟩)
      | (go_at_call 86; refine (demand_no _).mono ?_; rintro e w2 ⟨rfl, hw⟩; rw [hw]; clear hw w2))
    exact ⟨rfl, .inr ⟨H.out, rfl, hb1⟩⟩
  | true =>
    obtain ⟨e1, e2, e3⟩ := rd_yes hB
    rw [e1, e2, e3] at k38
    have K38 : Hid (∀ W (hW : Rl W v zs), Calls Tryz.prog 90 #[v] W fun e w' => e = .returned (.tuple #[.int .i64 (nbI zs), .int .i64 (rtI zs), .int .i64 0]) ∧ Below W.heap.size W w') := k38
    have HB : Hid (rdB zs = true) := hB
    clear k38 hB e1 e2 e3
    generalize nbI zs = nb at *
    generalize rtI zs = rt at *
    go_enter Tryz.func68, Tryz.ntmps68
    go_wp2_with (first
      | (go_at_call 90; refine (K38.out _ HR.out).mono ?_; rintro e w1 ⟨rfl, hb1⟩)
      | (go_at_call 86; refine (demand_yes _).mono ?_; rintro e w2 ⟨rfl, hw⟩; rw [hw]; clear hw w2))
    have I0 : Hid (LvI zs w w1.heap.size (w1.alloc (.map #[] 0)) (.slice none 0 0) [] 1) := by
      have hb2 := hb1.alloc hb1.size (.map #[] 0)
      exact ⟨⟨⟨rfl, .inl ⟨rfl, rfl⟩⟩, fun p hp => by cases hp⟩, st_new w1, hb2, List.nodup_nil, fun c hc => (by cases hc), rfl, by omega⟩
    have HM : Hid (w.heap.size ≤ w1.heap.size) := hb1.size
    clear hb1
    generalize w1.heap.size = m at *
    generalize w1.alloc (.map #[] 0) = W1 at *
    go_loopw [6, 8] (fun o i wr => ∃ P b u, u = o ∧ i = .int .i64 b ∧ LvI zs w m wr u P b) (fun o _ _ => 300 - lenV o)
    case atStart => exact ⟨[], 1, _, rfl, rfl, I0.out⟩
    case round =>
      obtain ⟨P, b, o, rfl, rfl, hI⟩ := hrel
      have HI : Hid (LvI zs w m wr o P b) := hI
      clear hI I0
      by_cases h0 : b = 0
      · subst h0
        have D : Hid (lvA zs = some (P.map Prod.fst)) := HI.out.done HB.out
        go_wp2
        exact bodyPost_ret (results_tmp rfl _ _ _) rfl (.inl ⟨o, P, D.out, rfl, HI.out.lv, HI.out.be⟩)
      · have hE0 : (b != 0) = true := by simp [h0]
        have H0 : Hid (b ≠ 0) := h0
        clear h0
        by_cases hE : rnE zs b = 0
        · have k31 := nodeOf_ok v zs b wr (HR.out.below HI.out.be) hE
          have HE : Hid (rnE zs b = 0) := hE
          have hmay := (rn_may hE).2
          obtain ⟨n, hn⟩ : ∃ n, n = rnN zs b := ⟨_, rfl⟩
          have HN : Hid (n = rnN zs b) := hn
          rw [← hn] at k31 hmay
          clear hn hE
          obtain ⟨lv, tu, nx, lo, sl⟩ := n
          dsimp only at k31
          have K31 : Hid (Calls Tryz.prog 91 #[v, .int .i64 b] wr fun e w' => ∃ v', e = .returned (.agg #[.int .i64 lv, .int .i64 tu, .int .i64 nx, .int .i64 lo, v']) ∧ OwnI w' wr.heap.size v' sl ∧ Below wr.heap.size wr w') := k31
          have Hm : Hid (May ⟨lv, tu, nx, lo, sl⟩) := hmay
          have Hb : Hid (-9223372036854775808 ≤ b ∧ b < 9223372036854775808) := show _ ∧ _ by have := HI.out.b0; omega
          clear k31 hmay
          by_cases hl : lv = 0
          · subst hl
            by_cases hin : b ∈ P.map Prod.fst
            · have D : Hid (lvA zs = none) := HI.out.bad HB.out H0.out (fun _ _ _ => hin)
              have hd : decide (b ∈ P.map Prod.fst) = true := decide_eq_true hin
              clear hin
              go_wp2_with (first
                | (go_at_call 91; refine K31.out.mono ?_; rintro e w2 ⟨v1, rfl, r1, hb2⟩; obtain ⟨a1, c1, rfl⟩ := r1.form; have B2 : Hid (Below wr.heap.size wr (w2.alloc (.cells #[.int .i64 0, .int .i64 tu, .int .i64 nx, .int .i64 lo, .slice a1 sl.length c1] 43))) := hb2.alloc hb2.size _; have X2 : Hid (Nb (w2.alloc (.cells #[.int .i64 0, .int .i64 tu, .int .i64 nx, .int .i64 lo, .slice a1 sl.length c1] 43)) w2.heap.size 0 tu nx lo (.slice a1 sl.length c1)) := nb_new w2 0 tu nx lo _; have O2 : Hid (OwnI (w2.alloc (.cells #[.int .i64 0, .int .i64 tu, .int .i64 nx, .int .i64 lo, .slice a1 sl.length c1] 43)) wr.heap.size (.slice a1 sl.length c1) sl) := r1.below ((Below.refl _ _).alloc (Nat.le_refl _) _); clear r1 hb2; obtain ⟨d0, d1, d2, d3, d4⟩ := X2.out.c; clear d1 d2 d3 d4)
                | (go_at_call 92; refine (has_any m (P.map Prod.fst) b _ (HI.out.st.below B2.out) Hb.out).mono ?_; rintro e w3 ⟨rfl, hb3⟩; rw [hd])
                | (go_at_call 86; refine (demand_no _).mono ?_; rintro e w4 ⟨rfl, hw⟩; rw [hw]; clear hw w4))
              exact ⟨rfl, .inr ⟨D.out, rfl, bstep (bstep HI.out.be B2.out) hb3⟩⟩
            · have hd : decide (b ∈ P.map Prod.fst) = false := decide_eq_false hin
              have Hin : Hid (b ∉ P.map Prod.fst) := hin
              clear hin
              have hlen := HI.out.len HB.out
              have Hlen : Hid (P.length ≤ 256) := hlen
              clear hlen
              go_wp2_with (first
                | (go_at_call 91; refine K31.out.mono ?_; rintro e w2 ⟨v1, rfl, r1, hb2⟩; obtain ⟨a1, c1, rfl⟩ := r1.form; have B2 : Hid (Below wr.heap.size wr (w2.alloc (.cells #[.int .i64 0, .int .i64 tu, .int .i64 nx, .int .i64 lo, .slice a1 sl.length c1] 43))) := hb2.alloc hb2.size _; have X2 : Hid (Nb (w2.alloc (.cells #[.int .i64 0, .int .i64 tu, .int .i64 nx, .int .i64 lo, .slice a1 sl.length c1] 43)) w2.heap.size 0 tu nx lo (.slice a1 sl.length c1)) := nb_new w2 0 tu nx lo _; have O2 : Hid (OwnI (w2.alloc (.cells #[.int .i64 0, .int .i64 tu, .int .i64 nx, .int .i64 lo, .slice a1 sl.length c1] 43)) wr.heap.size (.slice a1 sl.length c1) sl) := r1.below ((Below.refl _ _).alloc (Nat.le_refl _) _); clear r1 hb2; obtain ⟨d0, d1, d2, d3, d4⟩ := X2.out.c; clear d1 d2 d3 d4)
                | (go_at_call 92; refine (has_any m (P.map Prod.fst) b _ (HI.out.st.below B2.out) Hb.out).mono ?_; rintro e w3 ⟨rfl, hb3⟩; rw [hd]; have B3 : Hid (Below wr.heap.size wr w3) := bstep B2.out hb3; have X3 : Hid (Nb w3 w2.heap.size 0 tu nx lo (.slice a1 sl.length c1)) := X2.out.below hb3; have O3 : Hid (OwnI w3 wr.heap.size (.slice a1 sl.length c1) sl) := O2.out.below hb3; clear hb3 X2 O2 B2 d0)
                | (go_at_call 86; refine (demand_yes _).mono ?_; rintro e w4 ⟨rfl, hw⟩; rw [hw]; clear hw w4)
                | (go_at_call 93; refine (put_any m m (P.map Prod.fst) b _ (HI.out.st.below B3.out) (by have := Hlen.out; simp; omega) Hb.out).mono ?_; rintro e w5 ⟨rfl, s5, tn5⟩; have M3 := (HI.out.st.below B3.out).ma; have S5 : Hid (St w5 m (P.map Prod.fst ++ [b])) := s5; have X5 : Hid (Nb w5 w2.heap.size 0 tu nx lo (.slice a1 sl.length c1)) := X3.out.tn tn5 M3 M3; have O5 : Hid (OwnI w5 wr.heap.size (.slice a1 sl.length c1) sl) := own_tn O3.out tn5 M3 M3; have L5 : Hid (Lv zs w5 w.heap.size o P) := (HI.out.lv.below B3.out).tn tn5 M3 M3; have B5 : Hid (Below w.heap.size w w5) := (bstep HI.out.be B3.out).trans (tn5.below HM.out HM.out (bstep HI.out.be B3.out).size); obtain ⟨d0, d1, d2, d3, d4⟩ := X5.out.c; have Lf : Hid (RdC (w5.alloc (.cells #[.int .i64 0, .int .i64 tu, .int .i64 nx, .int .i64 lo, .slice a1 sl.length c1, .int .i64 b] 100)) 6 (.slice (some ⟨w5.heap.size, 0, none⟩) 1 1) 1 (lfC zs (b, .slice a1 sl.length c1))) := (by have := leaf_new w5 zs b (.slice a1 sl.length c1); rw [← HN.out] at this; exact this); clear s5 tn5 M3)
                | (at_builtin; refine append_rdc rfl _ _ 93 rfl w.heap.size 100 6 _ 64 Tryz.underlying93 Tryz.info100 rfl (by decide) (by decide) _ P.length _ rfl (L5.out.below (below_new w5 _)).own _ 1 _ rfl Lf.out (lfC_one zs b _ rfl) (Nat.le_trans Hlen.out (by omega)) (B5.out.alloc B5.out.size _).size ?_; intro v6 w6 o6 g6; obtain ⟨l6, s6, b6, x6⟩ := leaf_pushed (L5.out.below (below_new w5 _)) (S5.out.below (below_new w5 _)) (B5.out.alloc B5.out.size _) (B5.out.alloc B5.out.size _).size (X5.out.below (below_new w5 _)) ((O5.out.below (below_new w5 _)).less (show w.heap.size ≤ wr.heap.size from HI.out.be.size)) (by rw [← HN.out]) o6 g6; have L6 : Hid (Lv zs w6 w.heap.size v6 (P ++ [(b, .slice a1 sl.length c1)])) := l6; have S6 : Hid (St w6 m (P.map Prod.fst ++ [b])) := s6; have B6 : Hid (Below w.heap.size w w6) := b6; clear o6 g6 l6 s6 b6 d0 d1 d2 d3 d4; obtain ⟨d0, d1, d2, d3, d4⟩ := x6.c; clear d0 d1 d3 d4))
              have hnext : LvI zs w m w6 v6 (P ++ [(b, .slice a1 sl.length c1)]) nx := by
                have := HI.out.next HB.out H0.out HE.out (by rw [← HN.out]) Hin.out L6.out S6.out B6.out
                rw [← HN.out] at this
                exact this
              obtain ⟨a6, c6, rfl⟩ := hnext.lv.form
              go_roundw
              case rel => exact ⟨_, _, _, rfl, rfl, hnext⟩
              case measure =>
                have h6 := hnext.lv.len
                have h7 := HI.out.lv.len
                rw [List.length_append, List.length_singleton] at h6
                have := Hlen.out
                simp [lenV] at h6 h7 ⊢
                omega
          · have D : Hid (lvA zs = none) := HI.out.bad HB.out H0.out (fun n hn h => by rw [nd_yes HE.out] at hn; cases hn; rw [← HN.out] at h; exact absurd h hl)
            have hlE : (lv == 0) = false := by simp [hl]
            clear hl
            go_wp2_with (first
              | (go_at_call 91; refine K31.out.mono ?_; rintro e w2 ⟨v1, rfl, r1, hb2⟩; obtain ⟨a1, c1, rfl⟩ := r1.form; have B2 : Hid (Below wr.heap.size wr (w2.alloc (.cells #[.int .i64 lv, .int .i64 tu, .int .i64 nx, .int .i64 lo, .slice a1 sl.length c1] 43))) := hb2.alloc hb2.size _; have X2 : Hid (Nb (w2.alloc (.cells #[.int .i64 lv, .int .i64 tu, .int .i64 nx, .int .i64 lo, .slice a1 sl.length c1] 43)) w2.heap.size lv tu nx lo (.slice a1 sl.length c1)) := nb_new w2 lv tu nx lo _; have O2 : Hid (OwnI (w2.alloc (.cells #[.int .i64 lv, .int .i64 tu, .int .i64 nx, .int .i64 lo, .slice a1 sl.length c1] 43)) wr.heap.size (.slice a1 sl.length c1) sl) := r1.below ((Below.refl _ _).alloc (Nat.le_refl _) _); clear r1 hb2; obtain ⟨d0, d1, d2, d3, d4⟩ := X2.out.c; clear d1 d2 d3 d4)
              | (go_at_call 86; refine (demand_no _).mono ?_; rintro e w4 ⟨rfl, hw⟩; rw [hw]; clear hw w4))
            exact ⟨rfl, .inr ⟨D.out, rfl, bstep HI.out.be B2.out⟩⟩
        · have D : Hid (lvA zs = none) := HI.out.bad HB.out H0.out (fun n hn => by rw [nd_no hE] at hn; cases hn)
          have k31 := nodeOf_bad v zs b wr (HR.out.below HI.out.be) hE
          have K31 : Hid (Calls Tryz.prog 91 #[v, .int .i64 b] wr fun e w' => e = .panicked [unS] ∧ Below wr.heap.size wr w') := k31
          clear k31 hE
          go_wp2_with (first
            | (go_at_call 91; refine K31.out.mono ?_; rintro e w2 ⟨rfl, hb2⟩))
          exact ⟨rfl, .inr ⟨D.out, rfl, bstep HI.out.be hb2⟩⟩
end Go.Proofs.YtcgclhahonndbaaGreat
namespace Go.Proofs.YtcgclhahonndbaaGreat
open Go.RowKit Go.Shelf
set_option linter.unusedVariables false
theorem lfC_len (zs : List Int) (p : Int × Value) : (lfC zs p).length = 6 := rfl
theorem flat_at (zs : List Int) : ∀ (P : List (Int × Value)) (k : Nat) (p : Int × Value) (j : Nat), P[k]? = some p → j < 6 → (P.flatMap (lfC zs))[k * 6 + j]? = (lfC zs p)[j]?
  | [], k, p, j, h, _ => by simp at h
  | q :: P, 0, p, j, h, hj => by
    cases h
    rw [List.flatMap_cons, Nat.zero_mul, Nat.zero_add, List.getElem?_append_left (by rw [lfC_len]; exact hj)]
  | q :: P, k + 1, p, j, h, hj => by
    rw [List.flatMap_cons, List.getElem?_append_right (by rw [lfC_len]; omega), lfC_len, show (k + 1) * 6 + j - 6 = k * 6 + j by omega]
    exact flat_at zs P k p j (by simpa using h) hj
/-- A leaf in the row. -/
theorem Lv.get {zs : List Int} {W : World} {base : Nat} {v : Value} {P : List (Int × Value)} (h : Lv zs W base v P) {k : Nat} {b : Int} {u : Value} (hk : P[k]? = some (b, u)) :
    ∃ g off c, v = .slice (some ⟨g, off, none⟩) P.length c ∧ W.cell? ⟨g, off + k * 6, none⟩ = some (.int .i64 (rnN zs b).lv) ∧ W.cell? ⟨g, off + k * 6 + 1, none⟩ = some (.int .i64 (rnN zs b).tu) ∧ W.cell? ⟨g, off + k * 6 + 2, none⟩ = some (.int .i64 (rnN zs b).nx) ∧ W.cell? ⟨g, off + k * 6 + 3, none⟩ = some (.int .i64 (rnN zs b).lo) ∧ W.cell? ⟨g, off + k * 6 + 4, none⟩ = some u ∧ W.cell? ⟨g, off + k * 6 + 5, none⟩ = some (.int .i64 b) := by
  obtain ⟨hlt, _⟩ := List.getElem?_eq_some_iff.1 hk
  rcases h.own.2 with ⟨rfl, h0⟩ | ⟨g, cap, cur, rfl, hrest⟩
  · omega
  · have hc : ∀ j x, (P.flatMap (lfC zs))[j]? = some x → W.cell? ⟨g, 0 + j, none⟩ = some x := fun j x hx => by
      have := World.ownsRow.cells h.own rfl j x hx
      rwa [Addr.add_lit] at this
    refine ⟨g, 0, cap, rfl, ?_, ?_, ?_, ?_, ?_, ?_⟩
    · exact hc (k * 6 + 0) _ (flat_at zs P k _ 0 hk (by omega))
    · exact hc (k * 6 + 1) _ (flat_at zs P k _ 1 hk (by omega))
    · exact hc (k * 6 + 2) _ (flat_at zs P k _ 2 hk (by omega))
    · exact hc (k * 6 + 3) _ (flat_at zs P k _ 3 hk (by omega))
    · exact hc (k * 6 + 4) _ (flat_at zs P k _ 4 hk (by omega))
    · exact hc (k * 6 + 5) _ (flat_at zs P k _ 5 hk (by omega))
/-- A leaf in a block of its own. -/
def Lb (W : World) (g : Nat) (lv tu nx lo : Int) (u : Value) (b : Int) : Prop := W.heap[g]? = some (.cells #[.int .i64 lv, .int .i64 tu, .int .i64 nx, .int .i64 lo, u, .int .i64 b] 100 (0, 0))
theorem Lb.lt {W : World} {g : Nat} {lv tu nx lo b : Int} {u : Value} (h : Lb W g lv tu nx lo u b) : g < W.heap.size := (Array.getElem?_eq_some_iff.1 h).1
theorem Lb.below {W W' : World} {g : Nat} {lv tu nx lo b : Int} {u : Value} (h : Lb W g lv tu nx lo u b) (hb : Below W.heap.size W W') : Lb W' g lv tu nx lo u b := (hb.block g h.lt).trans h
theorem Lb.c {W : World} {g : Nat} {lv tu nx lo b : Int} {u : Value} (h : Lb W g lv tu nx lo u b) : W.cell? ⟨g, 0, none⟩ = some (.int .i64 lv) ∧ W.cell? ⟨g, 1, none⟩ = some (.int .i64 tu) ∧ W.cell? ⟨g, 2, none⟩ = some (.int .i64 nx) ∧ W.cell? ⟨g, 3, none⟩ = some (.int .i64 lo) ∧ W.cell? ⟨g, 4, none⟩ = some u ∧ W.cell? ⟨g, 5, none⟩ = some (.int .i64 b) := by
  refine ⟨?_, ?_, ?_, ?_, ?_, ?_⟩ <;> simp [World.cell?, show W.heap[g]? = _ from h]
theorem lb_new (W : World) (lv tu nx lo b : Int) (u : Value) : Lb (W.alloc (.cells #[.int .i64 lv, .int .i64 tu, .int .i64 nx, .int .i64 lo, u, .int .i64 b] 100)) W.heap.size lv tu nx lo u b := Go.heap_alloc_new _ _
theorem leavesOf_ok {L : List Int} (v : Value) (zs : List Int) (w : World) (hR : Rl w v zs) (h : lvA zs = some L) : Calls Tryz.prog 68 #[v] w fun e w' => ∃ v' P, L = P.map Prod.fst ∧ e = .returned v' ∧ Lv zs w' w.heap.size v' P ∧ Below w.heap.size w w' := by
  refine (leavesOf_any v zs w hR).mono ?_
  rintro e w' (⟨v', P, h1, h2, h3, h4⟩ | ⟨h1, _⟩)
  · rw [h] at h1
    exact ⟨v', P, Option.some.inj h1, h2, h3, h4⟩
  · rw [h] at h1
    cases h1
theorem leavesOf_bad (v : Value) (zs : List Int) (w : World) (hR : Rl w v zs) (h : lvA zs = none) : Calls Tryz.prog 68 #[v] w fun e w' => e = .panicked [unS] ∧ Below w.heap.size w w' := by
  refine (leavesOf_any v zs w hR).mono ?_
  rintro e w' (⟨v', P, h1, h2, h3, h4⟩ | ⟨h1, h2, h3⟩)
  · rw [h] at h1
    cases h1
  · exact ⟨h2, h3⟩
theorem checkKeys_ok (v u : Value) (zs sl : List Int) (low : ByteArray) (w : World) (hR : Rl w v zs) (hF : Fits zs) (hU : Rd w u sl) (hsl : ∀ y ∈ sl, 1 ≤ y ∧ y ≤ 255) (h : lfB (rcA zs) low.toList (plN sl) = true) : Calls Tryz.prog 88 #[v, u, .string low] w fun e w' => e = .returned (.tuple #[]) ∧ Below w.heap.size w w' := by
  refine (checkKeys_any v u zs sl low w hR hF hU hsl).mono ?_
  rintro e w' ⟨⟨_, h2⟩ | ⟨h1, _⟩, h3⟩
  · exact ⟨h2, h3⟩
  · rw [h] at h1
    cases h1
theorem checkKeys_bad (v u : Value) (zs sl : List Int) (low : ByteArray) (w : World) (hR : Rl w v zs) (hF : Fits zs) (hU : Rd w u sl) (hsl : ∀ y ∈ sl, 1 ≤ y ∧ y ≤ 255) (h : lfB (rcA zs) low.toList (plN sl) = false) : Calls Tryz.prog 88 #[v, u, .string low] w fun e w' => e = .panicked [unS] ∧ Below w.heap.size w w' := by
  refine (checkKeys_any v u zs sl low w hR hF hU hsl).mono ?_
  rintro e w' ⟨⟨h1, _⟩ | ⟨_, h2⟩, h3⟩
  · rw [h] at h1
    cases h1
  · exact ⟨h2, h3⟩
/-- The leaves of words: none twice, each a leaf, the first one the block 1. -/
theorem lvA_out {zs : List Int} {L : List Int} (h : lvA zs = some L) : rdB zs = true ∧ L.Nodup ∧ (∀ b ∈ L, b ≠ 0 ∧ rnE zs b = 0 ∧ (rnN zs b).lv = 0) ∧ L.head? = some 1 := by
  unfold lvA at h
  split at h
  · rename_i hB
    obtain ⟨M, rfl, h2, h3, h4⟩ := lvF_out h List.nodup_nil
    refine ⟨hB, h2, fun b hb => ?_, h4 (by decide)⟩
    obtain ⟨h0, n, hn, hl⟩ := h3 b hb
    obtain ⟨e, rfl⟩ := nd_out hn
    exact ⟨h0, e, hl⟩
  · cases h
/-- What is still to be seen of the leaves behind the first k. -/
def sdX (zs : List Int) (L : List Int) (k : Nat) (s : List UInt8) : Bool := if k = 0 then sdB (ndA zs) (rcA zs) plN L else sdN (ndA zs) (rcA zs) plN s (L.drop k)
theorem sdX_first {zs L : List Int} {s : List UInt8} {b : Int} (h : L[0]? = some b) (hE : rnE zs b = 0) : sdX zs L 0 s = (decide ((rnN zs b).lo = 0) && lfB (rcA zs) [] (plN (rnN zs b).sl) && sdX zs L 1 []) := by
  have hd := drop_at h
  rw [List.drop_zero] at hd
  unfold sdX
  rw [if_pos rfl, if_neg (by decide)]
  conv => lhs; rw [hd]
  simp [sdB, nd_yes hE]
theorem sdX_next {zs L : List Int} {s : List UInt8} {b : Int} {k : Nat} (hk : k ≠ 0) (h : L[k]? = some b) (hE : rnE zs b = 0) (hl : lowK zs (rnN zs b) = true) : sdX zs L k s = (Op.bytesLess s (lowS zs (rnN zs b)).toList && lfB (rcA zs) (lowS zs (rnN zs b)).toList (plN (rnN zs b).sl) && sdX zs L (k + 1) (lowS zs (rnN zs b)).toList) := by
  have hd := drop_at h
  unfold sdX
  rw [if_neg hk, if_neg (Nat.succ_ne_zero k)]
  conv => lhs; rw [hd]
  simp [sdN, nd_yes hE, low_yes hl]
theorem sdX_low {zs L : List Int} {s : List UInt8} {b : Int} {k : Nat} (hk : k ≠ 0) (h : L[k]? = some b) (hE : rnE zs b = 0) (hl : lowK zs (rnN zs b) = false) : sdX zs L k s = false := by
  have hd := drop_at h
  unfold sdX
  rw [if_neg hk]
  conv => lhs; rw [hd]
  simp [sdN, nd_yes hE, low_no hl]
theorem sdX_end {zs L : List Int} {s : List UInt8} {k : Nat} (h : L.length ≤ k) : sdX zs L k s = true := by
  unfold sdX
  split
  · have : L = [] := List.eq_nil_of_length_eq_zero (by omega)
    subst this
    rfl
  · rw [List.drop_of_length_le h]
    rfl
theorem snd_of {zs L : List Int} (h : lvA zs = some L) : sndB zs = sdB (ndA zs) (rcA zs) plN L := by unfold sndB; rw [h]
end Go.Proofs.YtcgclhahonndbaaGreat
