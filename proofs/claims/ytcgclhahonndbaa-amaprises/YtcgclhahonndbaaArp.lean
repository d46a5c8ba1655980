/- Set over from a lower layer: Aro. · Set over from a lower layer: Arp. · Set over from a lower layer: Arq. -/
import Derived.Test.YtcgclhahonndbaaArj
import Derived.Test.YtcgclhahonndbaaArf
import Derived.Test.YtcgclhahonndbaaArd
import Derived.Test.YtcgclhahonndbaaArb
import Derived.Test.YtcgclhahonndbaaFFastd
import Derived.Shelf.Abstract
namespace Go.Proofs.Ytcgclhahonndbaa
open Go.RowKit Go.Shelf
set_option linter.unusedVariables false
/-- What the first block and the leaves reach. -/
def lfL (zs : List Int) (L : List Int) : List Int := L.flatMap (fun b => rcN (rnN zs b) b)
theorem soundLeaves_ok {L : List Int} (v : Value) (zs : List Int) (w : World) (hR : Rl w v zs) (hF : Fits zs) (h : sndB zs = true) (hL : lvA zs = some L) : Calls Try.prog 25 #[v] w fun e w' => ∃ v' P, L = P.map Prod.fst ∧ e = .returned v' ∧ Lv zs w' w.heap.size v' P ∧ Below w.heap.size w w' := by
  refine (soundLeaves_any v zs w hR hF).mono ?_
  rintro e w' (⟨v', P, h1, h2, h3, h4⟩ | ⟨h1, _⟩)
  · rw [hL] at h1
    exact ⟨v', P, Option.some.inj h1, h3, h4⟩
  · rw [h] at h1
    cases h1
theorem soundLeaves_bad (v : Value) (zs : List Int) (w : World) (hR : Rl w v zs) (hF : Fits zs) (h : sndB zs = false) : Calls Try.prog 25 #[v] w fun e w' => e = .panicked [unS] ∧ Below w.heap.size w w' := by
  refine (soundLeaves_any v zs w hR hF).mono ?_
  rintro e w' (⟨v', P, h1, h2, h3, h4⟩ | ⟨h1, h2, h3⟩)
  · rw [h] at h2
    cases h2
  · exact ⟨h2, h3⟩
theorem snd_leaves {zs : List Int} (h : sndB zs = true) : ∃ L, lvA zs = some L := by
  unfold sndB at h
  split at h
  · cases h
  · exact ⟨_, by assumption⟩
end Go.Proofs.Ytcgclhahonndbaa
namespace Go.Proofs.Ytcgclhahonndbaa
open Go.RowKit Go.Shelf
set_option linter.unusedVariables false
theorem cl_same {W : World} {g : Nat} {x : Value} {T : TypeId} (h : Cl W g x T) : Below W.heap.size W (W.setCell ⟨g, 0, none⟩ x) := by
  have h0 := (Below.refl g W).setCell (p := ⟨g, 0, none⟩) (Nat.le_refl _) x
  refine ⟨h0.os, h0.tape, h0.output, h0.size, fun k hk => ?_⟩
  by_cases e : k = g
  · subst e
    exact (h.set x).trans (Eq.symm h)
  · exact Below.heap_setCell W ⟨g, 0, none⟩ x k e
theorem told_end {w w1 w' : World} (h1 : w' = w1.setCell ⟨w.heap.size, 0, none⟩ (.int .i64 0)) (h2 : Below (w.heap.size + 1) (w.alloc (.cells #[.int .i64 0] 25)) w1) : Below w1.heap.size w1 w' := by
  subst h1
  exact cl_same ((cl_new w (.int .i64 0) 25).belowN h2 (Nat.lt_succ_self _))
/-- What is told of the leaves, and of whether an arena is sound. -/
def lvE (zs : List Int) : Int := match lvA zs with
  | none => 110
  | some _ => 0
def lvL (zs : List Int) : List Int := (lvA zs).getD []
def chE (zs : List Int) : Int := if sndB zs then 0 else 110
set_option maxRecDepth 100000 in
set_option maxHeartbeats 4000000 in
theorem leaves1_any (g : Nat) (v : Value) (zs : List Int) (w : World) (h : Cl w g v 22) (hR : Rl w v zs) : Calls Try.prog 27 #[.pointer (some ⟨g, 0, none⟩)] w fun e w' =>
    ((∃ v' L, lvA zs = some L ∧ e = .returned v' ∧ OwnI w' w.heap.size v' L) ∨ (lvA zs = none ∧ e = .panicked [unS])) ∧ Below w.heap.size w w' := by
  obtain ⟨_, va, vc, rfl, _⟩ := hR.form
  have HR : Hid (Rl w (.slice va zs.length vc) zs) := hR
  have hc := h.cell
  clear hR h
  cases hL : lvA zs with
  | none =>
    have K22 : Hid (Calls Try.prog 28 #[.slice va zs.length vc] w fun e w' => e = .panicked [unS] ∧ Below w.heap.size w w') := leavesOf_bad _ zs w HR.out hL
    clear hL
    go_enter Try.func27, Try.ntmps27
    go_wp2_with (first
      | (go_at_call 28; refine K22.out.mono ?_; rintro e w1 ⟨rfl, hb1⟩))
    exact ⟨rfl, .inr ⟨by trivial, rfl⟩, hb1⟩
  | some L =>
    have K22 : Hid (Calls Try.prog 28 #[.slice va zs.length vc] w fun e w' => ∃ v' P, L = P.map Prod.fst ∧ e = .returned v' ∧ Lv zs w' w.heap.size v' P ∧ Below w.heap.size w w') := leavesOf_ok _ zs w HR.out hL
    obtain ⟨hB, hnd, hok, hhd⟩ := lvA_out hL
    have Hlen : Hid (L.length ≤ 256) := lv_len hB hnd (fun b hb => (hok b hb).2.1)
    clear hL hB hnd hok hhd
    go_enter Try.func27, Try.ntmps27
    go_wp2_with (first
      | (go_at_call 28; refine K22.out.mono ?_; rintro e w1 ⟨v1, P, hP, rfl, lv1, hb1⟩; subst hP; obtain ⟨ga, gc, rfl⟩ := lv1.form; have LV : Hid (Lv zs w1 w.heap.size (.slice ga P.length gc) P) := lv1; have B1 : Hid (Below w.heap.size w w1) := hb1; have hPl : P.length ≤ 256 := (by have := Hlen.out; rwa [List.length_map] at this); clear lv1 hb1))
    clear hc
    go_loopw [2, 8] (fun o i wr => ∃ (k : Nat) (u : Value), k ≤ P.length ∧ u = o ∧ i = .int .i64 k ∧ OwnI wr w1.heap.size u ((P.map Prod.fst).take k) ∧ Below w1.heap.size w1 wr) (fun _ i _ => P.length - (Go.RowKit.intOf i).toNat)
    case atStart => exact ⟨0, _, Nat.zero_le _, rfl, rfl, own_nil _ _, Below.refl _ _⟩
    case round =>
      obtain ⟨k, o, hk, rfl, rfl, ho, hbr⟩ := hrel
      have HO : Hid (OwnI wr w1.heap.size o ((P.map Prod.fst).take k)) := ho
      have HBr : Hid (Below w1.heap.size w1 wr) := hbr
      have lvr := LV.out.below hbr
      clear ho hbr
      by_cases hlt : k < P.length
      · obtain ⟨⟨b, u⟩, hbu⟩ : ∃ q, P[k]? = some q := ⟨_, List.getElem?_eq_getElem hlt⟩
        have hu := lvr.rd (b, u) (List.mem_of_getElem? hbu)
        obtain ⟨g, off, c, hv0, d0, d1, d2, d3, d4, d5⟩ := lvr.get hbu
        cases hv0
        generalize rnN zs b = n at *
        obtain ⟨ua, uc, rfl⟩ := hu.form
        obtain ⟨lv, tu, nx, lo, sl⟩ := n
        dsimp only at hu d0 d1 d2 d3 d4 d5
        obtain ⟨M, hM⟩ : ∃ M, M = (P.map Prod.fst).take (k + 1) := ⟨_, rfl⟩
        have HM : Hid (M = (P.map Prod.fst).take (k + 1)) := hM
        have Hn : Hid ((P.map Prod.fst).take k ++ [b] = M) := show _ = _ by rw [hM]; exact (take_next (map_at hbu)).symm
        clear hM
        have hltI : (k : Int) < (P.length : Int) := by omega
        have X3 : Hid (Lb (wr.alloc (.cells #[.int .i64 lv, .int .i64 tu, .int .i64 nx, .int .i64 lo, .slice ua sl.length uc, .int .i64 b] 60)) wr.heap.size lv tu nx lo (.slice ua sl.length uc) b) := lb_new wr lv tu nx lo b _
        obtain ⟨x0, x1, x2, x3, x4, x5⟩ := X3.out.c
        have O3 : Hid (OwnI ((wr.alloc (.cells #[.int .i64 lv, .int .i64 tu, .int .i64 nx, .int .i64 lo, .slice ua sl.length uc, .int .i64 b] 60)).alloc (.cells #[.int .i64 b] 3)) w1.heap.size o ((P.map Prod.fst).take k)) := (HO.out.below (below_new wr (.cells #[.int .i64 lv, .int .i64 tu, .int .i64 nx, .int .i64 lo, .slice ua sl.length uc, .int .i64 b] 60))).below (below_new (wr.alloc (.cells #[.int .i64 lv, .int .i64 tu, .int .i64 nx, .int .i64 lo, .slice ua sl.length uc, .int .i64 b] 60)) _)
        have B3 : Hid (Below w1.heap.size w1 ((wr.alloc (.cells #[.int .i64 lv, .int .i64 tu, .int .i64 nx, .int .i64 lo, .slice ua sl.length uc, .int .i64 b] 60)).alloc (.cells #[.int .i64 b] 3))) := bstep (bstep HBr.out (below_new wr (.cells #[.int .i64 lv, .int .i64 tu, .int .i64 nx, .int .i64 lo, .slice ua sl.length uc, .int .i64 b] 60))) (below_new (wr.alloc (.cells #[.int .i64 lv, .int .i64 tu, .int .i64 nx, .int .i64 lo, .slice ua sl.length uc, .int .i64 b] 60)) _)
        have L3 : Hid (Rd ((wr.alloc (.cells #[.int .i64 lv, .int .i64 tu, .int .i64 nx, .int .i64 lo, .slice ua sl.length uc, .int .i64 b] 60)).alloc (.cells #[.int .i64 b] 3)) (.slice (some ⟨(wr.alloc (.cells #[.int .i64 lv, .int .i64 tu, .int .i64 nx, .int .i64 lo, .slice ua sl.length uc, .int .i64 b] 60)).heap.size, 0, none⟩) 1 1) [b]) := rd_lit (W := wr.alloc (.cells #[.int .i64 lv, .int .i64 tu, .int .i64 nx, .int .i64 lo, .slice ua sl.length uc, .int .i64 b] 60)) [b] rfl (by simp)
        have Hk3 : Hid (((P.map Prod.fst).take k).length ≤ 1000) := show _ ≤ _ by rw [List.length_take]; omega
        have Hs3 : Hid ((wr.alloc (.cells #[.int .i64 lv, .int .i64 tu, .int .i64 nx, .int .i64 lo, .slice ua sl.length uc, .int .i64 b] 60)).heap.size = wr.heap.size + 1) := show _ = _ by simp
        rw [Hs3.out] at L3
        clear x0 x1 x2 x3 x4 hu hbu
        go_wp2_with (first
          | (at_builtin; refine append_own_rd rfl _ _ rfl w1.heap.size o _ rfl O3.out _ [b] rfl L3.out Hk3.out B3.out.size _ Hn.out ?_; intro a4 c4 w4 o4 b4))
        go_roundw
        case rel => exact ⟨k + 1, _, by omega, rfl, by go_num, by rw [← HM.out]; exact o4, B3.out.trans b4⟩
        case measure => simp [Go.RowKit.intOf]; omega
      · have hltI : ¬ (k : Int) < (P.length : Int) := by omega
        have ho := HO.out
        rw [List.take_of_length_le (by rw [List.length_map]; omega)] at ho
        have HO2 : Hid (OwnI wr w1.heap.size o (P.map Prod.fst)) := ho
        clear ho
        go_wp2
        exact bodyPost_ret (results_tmp rfl _ _ _) rfl ⟨⟨o, rfl, HO2.out.less B1.out.size⟩, bstep B1.out HBr.out⟩
/-- Leaves, as it is told. -/
theorem leaves_any (v : Value) (zs : List Int) (w : World) (hR : Rl w v zs) : Calls Try.prog 10 #[v] w fun e w' => ∃ v', e = .returned (.tuple #[v', .int .i64 (lvE zs)]) ∧ OwnI w' w.heap.size v' (lvL zs) ∧ Below w.heap.size w w' := by
  obtain ⟨_, va, vc, rfl, _⟩ := hR.form
  have B0 : Below w.heap.size w (w.alloc (.cells #[.slice va zs.length vc] 22)) := below_new w _
  have B1 := below_new (w.alloc (.cells #[.slice va zs.length vc] 22)) (.cells #[.int .i64 0] 25)
  have e1 : ((w.alloc (.cells #[.slice va zs.length vc] 22)).alloc (.cells #[.int .i64 0] 25)).heap.size = (w.alloc (.cells #[.slice va zs.length vc] 22)).heap.size + 1 := by simp
  have h21 := leaves1_any w.heap.size (.slice va zs.length vc) zs _ ((cl_new w (.slice va zs.length vc) 22).below B1) ((hR.below B0).below B1)
  rw [e1] at h21
  have hmf : ∀ (fn : Fn) (first cap : Array Value) (w : World), (Instr.makeFunc fn first cap).run Try.prog w = .ok (.func fn first cap) w := fun _ _ _ _ => rfl
  cases hL : lvA zs with
  | none =>
    have hE : lvE zs = 110 := by unfold lvE; rw [hL]
    have hl : lvL zs = [] := by unfold lvL; rw [hL]; rfl
    have K20 := told20_bad 27 (.pointer (some ⟨w.heap.size, 0, none⟩)) (w.alloc (.cells #[.slice va zs.length vc] 22)) (enters_of Try.func27 rfl rfl) (h21.mono (by
      rintro e w' ⟨⟨_, _, h, _⟩ | ⟨_, h⟩, hb⟩
      · rw [hL] at h; cases h
      · exact ⟨h, hb⟩))
    rw [hE, hl]
    have K20 : Hid (Calls Try.prog 26 #[.func (.func 27) #[] #[.pointer (some ⟨w.heap.size, 0, none⟩)]] (w.alloc (.cells #[.slice va zs.length vc] 22)) fun e w' => e = .returned (.tuple #[.slice none 0 0, .int .i64 110]) ∧ Below (w.alloc (.cells #[.slice va zs.length vc] 22)).heap.size (w.alloc (.cells #[.slice va zs.length vc] 22)) w') := K20
    have B0 : Hid (Below w.heap.size w (w.alloc (.cells #[.slice va zs.length vc] 22))) := B0
    clear hR B1 e1 h21 hL hE hl
    go_enter Try.func10, Try.ntmps10
    go_wp2_with (first
      | (go_at_call 26; refine K20.out.mono ?_; rintro e w1 ⟨rfl, hb1⟩))
    exact bodyPost_ret (results_tmp2 rfl _ _ _) rfl ⟨_, rfl, own_nil _ _, bstep B0.out hb1⟩
  | some L =>
    have hE : lvE zs = 0 := by unfold lvE; rw [hL]
    have hl : lvL zs = L := by unfold lvL; rw [hL]; rfl
    have K20 := told20_ok 27 (.pointer (some ⟨w.heap.size, 0, none⟩)) (fun u W => OwnI W ((w.alloc (.cells #[.slice va zs.length vc] 22)).heap.size + 1) u L) (w.alloc (.cells #[.slice va zs.length vc] 22)) (enters_of Try.func27 rfl rfl) (h21.mono (by
      rintro e w' ⟨⟨u, L', h, he, ho⟩ | ⟨h, _⟩, hb⟩
      · rw [hL] at h; cases h; exact ⟨u, he, ho, hb⟩
      · rw [hL] at h; cases h))
    rw [hE, hl]
    have K20 : Hid (Calls Try.prog 26 #[.func (.func 27) #[] #[.pointer (some ⟨w.heap.size, 0, none⟩)]] (w.alloc (.cells #[.slice va zs.length vc] 22)) fun e w' => ∃ u, e = .returned (.tuple #[u, .int .i64 0]) ∧ OwnI w' w.heap.size u L ∧ Below (w.alloc (.cells #[.slice va zs.length vc] 22)).heap.size (w.alloc (.cells #[.slice va zs.length vc] 22)) w') := by
      refine K20.mono ?_
      rintro e w' ⟨u, w1, rfl, ho, h1, h2, h3⟩
      exact ⟨u, rfl, (ho.below (told_end h1 h2)).less (by have := B0.size; omega), h3⟩
    have B0 : Hid (Below w.heap.size w (w.alloc (.cells #[.slice va zs.length vc] 22))) := B0
    clear hR B1 e1 h21 hL hE hl
    go_enter Try.func10, Try.ntmps10
    go_wp2_with (first
      | (go_at_call 26; refine K20.out.mono ?_; rintro e w1 ⟨u1, rfl, o1, hb1⟩))
    exact bodyPost_ret (results_tmp2 rfl _ _ _) rfl ⟨_, rfl, o1, bstep B0.out hb1⟩
end Go.Proofs.Ytcgclhahonndbaa
namespace Go.Proofs.Ytcgclhahonndbaa
open Go.RowKit Go.Shelf
set_option linter.unusedVariables false
set_option maxRecDepth 100000 in
set_option maxHeartbeats 1000000 in
theorem check1_any (g : Nat) (v : Value) (zs : List Int) (w : World) (h : Cl w g v 22) (hR : Rl w v zs) (hF : Fits zs) : Calls Try.prog 24 #[.pointer (some ⟨g, 0, none⟩)] w fun e w' =>
    ((sndB zs = true ∧ ∃ v', e = .returned v') ∨ (sndB zs = false ∧ e = .panicked [unS])) ∧ Below w.heap.size w w' := by
  have hc := h.cell
  obtain ⟨_, va, vc, rfl, _⟩ := hR.form
  cases hs : sndB zs with
  | false =>
    have K27 : Hid (Calls Try.prog 25 #[.slice va zs.length vc] w fun e w' => e = .panicked [unS] ∧ Below w.heap.size w w') := soundLeaves_bad _ zs w hR hF hs
    clear hs hR hF h
    go_enter Try.func24, Try.ntmps24
    go_wp2_with (first
      | (go_at_call 25; refine K27.out.mono ?_; rintro e w1 ⟨rfl, hb1⟩))
    exact ⟨rfl, .inr ⟨by trivial, rfl⟩, hb1⟩
  | true =>
    obtain ⟨L, hL⟩ := snd_leaves hs
    have K27 : Hid (Calls Try.prog 25 #[.slice va zs.length vc] w fun e w' => ∃ v' P, L = P.map Prod.fst ∧ e = .returned v' ∧ Lv zs w' w.heap.size v' P ∧ Below w.heap.size w w') := soundLeaves_ok _ zs w hR hF hs hL
    clear hs hR hF h hL
    go_enter Try.func24, Try.ntmps24
    go_wp2_with (first
      | (go_at_call 25; refine K27.out.mono ?_; rintro e w1 ⟨v1, P, hP, rfl, lv1, hb1⟩; obtain ⟨ga, gc, rfl⟩ := lv1.form; clear lv1))
    exact bodyPost_ret (results_tmp rfl _ _ _) rfl ⟨.inl ⟨by trivial, _, rfl⟩, hb1⟩
theorem check_any (v : Value) (zs : List Int) (w : World) (hR : Rl w v zs) (hF : Fits zs) : Calls Try.prog 9 #[v] w fun e w' => e = .returned (.int .i64 (chE zs)) ∧ Below w.heap.size w w' := by
  obtain ⟨_, va, vc, rfl, _⟩ := hR.form
  have B0 : Below w.heap.size w (w.alloc (.cells #[.slice va zs.length vc] 22)) := below_new w _
  have B1 := below_new (w.alloc (.cells #[.slice va zs.length vc] 22)) (.cells #[.int .i64 0] 25)
  have e1 : ((w.alloc (.cells #[.slice va zs.length vc] 22)).alloc (.cells #[.int .i64 0] 25)).heap.size = (w.alloc (.cells #[.slice va zs.length vc] 22)).heap.size + 1 := by simp
  have h26 := check1_any w.heap.size (.slice va zs.length vc) zs _ ((cl_new w (.slice va zs.length vc) 22).below B1) ((hR.below B0).below B1) hF
  rw [e1] at h26
  have hmf : ∀ (fn : Fn) (first cap : Array Value) (w : World), (Instr.makeFunc fn first cap).run Try.prog w = .ok (.func fn first cap) w := fun _ _ _ _ => rfl
  cases hs : sndB zs with
  | false =>
    have hE : chE zs = 110 := by unfold chE; rw [hs]; rfl
    have K20 := told25_bad 24 (.pointer (some ⟨w.heap.size, 0, none⟩)) (w.alloc (.cells #[.slice va zs.length vc] 22)) (enters_of Try.func24 rfl rfl) (h26.mono (by
      rintro e w' ⟨⟨h, _⟩ | ⟨_, h⟩, hb⟩
      · rw [hs] at h; cases h
      · exact ⟨h, hb⟩))
    rw [hE]
    have K20 : Hid (Calls Try.prog 23 #[.func (.func 24) #[] #[.pointer (some ⟨w.heap.size, 0, none⟩)]] (w.alloc (.cells #[.slice va zs.length vc] 22)) fun e w' => e = .returned (.tuple #[.slice none 0 0, .int .i64 110]) ∧ Below (w.alloc (.cells #[.slice va zs.length vc] 22)).heap.size (w.alloc (.cells #[.slice va zs.length vc] 22)) w') := K20
    have B0 : Hid (Below w.heap.size w (w.alloc (.cells #[.slice va zs.length vc] 22))) := B0
    clear hR B1 e1 h26 hs hE hF
    go_enter Try.func9, Try.ntmps9
    go_wp2_with (first
      | (go_at_call 23; refine K20.out.mono ?_; rintro e w1 ⟨rfl, hb1⟩))
    exact bodyPost_ret (results_tmp rfl _ _ _) rfl ⟨rfl, bstep B0.out hb1⟩
  | true =>
    have hE : chE zs = 0 := by unfold chE; rw [hs]; rfl
    have K20 := told25_ok 24 (.pointer (some ⟨w.heap.size, 0, none⟩)) (fun _ _ => True) (w.alloc (.cells #[.slice va zs.length vc] 22)) (enters_of Try.func24 rfl rfl) (h26.mono (by
      rintro e w' ⟨⟨_, u, he⟩ | ⟨h, _⟩, hb⟩
      · exact ⟨u, he, trivial, hb⟩
      · rw [hs] at h; cases h))
    rw [hE]
    have K20 : Hid (Calls Try.prog 23 #[.func (.func 24) #[] #[.pointer (some ⟨w.heap.size, 0, none⟩)]] (w.alloc (.cells #[.slice va zs.length vc] 22)) fun e w' => ∃ u, e = .returned (.tuple #[u, .int .i64 0]) ∧ Below (w.alloc (.cells #[.slice va zs.length vc] 22)).heap.size (w.alloc (.cells #[.slice va zs.length vc] 22)) w') := by
      refine K20.mono ?_
      rintro e w' ⟨u, w1, rfl, _, h1, h2, h3⟩
      exact ⟨u, rfl, h3⟩
    have B0 : Hid (Below w.heap.size w (w.alloc (.cells #[.slice va zs.length vc] 22))) := B0
    clear hR B1 e1 h26 hs hE hF
    go_enter Try.func9, Try.ntmps9
    go_wp2_with (first
      | (go_at_call 23; refine K20.out.mono ?_; rintro e w1 ⟨u1, rfl, hb1⟩))
    exact bodyPost_ret (results_tmp rfl _ _ _) rfl ⟨rfl, bstep B0.out hb1⟩
end Go.Proofs.Ytcgclhahonndbaa
