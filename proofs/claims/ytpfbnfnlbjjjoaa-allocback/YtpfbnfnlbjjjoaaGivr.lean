/- Walks of layer 10: the document's Give. -/
import Derived.Test.YtpfbnfnlbjjjoaaAllb
namespace Go.Proofs.Ytpfbnfnlbjjjoaa
open Go.RowKit
set_option linter.unusedVariables false

/-- Whether it was put in, of the first k. -/
def gp (zs : List Int) (x : Int) (k : Nat) : Bool := (zs.take k).any fun y => decide (x < y)
def gk (zs : List Int) (x : Int) (k : Nat) : List Int := if gp zs x k then lows x (zs.take k) ++ x :: highs x (zs.take k) else zs.take k
theorem gp_next {zs : List Int} {x y : Int} {k : Nat} (h : zs[k]? = some y) : gp zs x (k + 1) = (gp zs x k || decide (x < y)) := by
  unfold gp
  rw [take_next' h, List.any_append]
  simp
theorem gp_no {zs : List Int} {x : Int} {k : Nat} (h : gp zs x k = false) (hx : x ∉ zs) : ∀ y ∈ zs.take k, y < x := by
  intro y hy
  unfold gp at h
  rw [List.any_eq_false] at h
  have h1 := h y hy
  rw [decide_eq_true_iff] at h1
  have h2 : y ≠ x := fun e => hx (by rw [← e]; exact List.mem_of_mem_take hy)
  omega
theorem lows_app (x : Int) (a b : List Int) : lows x (a ++ b) = lows x a ++ lows x b := by simp [lows]
theorem highs_app (x : Int) (a b : List Int) : highs x (a ++ b) = highs x a ++ highs x b := by simp [highs]
theorem lows_self {x : Int} {l : List Int} (h : ∀ y ∈ l, y < x) : lows x l = l := by
  unfold lows
  rw [List.filter_eq_self]
  intro y hy
  exact decide_eq_true (h y hy)
theorem highs_none {x : Int} {l : List Int} (h : ∀ y ∈ l, y < x) : highs x l = [] := by
  unfold highs
  rw [List.filter_eq_nil_iff]
  intro y hy
  have := h y hy
  rw [decide_eq_true_iff]
  omega
theorem gk_put {zs : List Int} {x y : Int} {k : Nat} (h : zs[k]? = some y) (hp : gp zs x k = false) (hx : x ∉ zs) (hxy : x < y) : gk zs x k ++ [x] ++ [y] = gk zs x (k + 1) := by
  have hn : gp zs x (k + 1) = true := by rw [gp_next h, hp, decide_eq_true hxy]; rfl
  have hl := gp_no hp hx
  unfold gk
  rw [if_neg (by rw [hp]; simp), if_pos hn, take_next' h, lows_app, highs_app, lows_self hl, highs_none hl, lows_all (l := [y]) (by simpa using hxy), highs_all (l := [y]) (by simpa using hxy)]
  simp
theorem gk_more {zs : List Int} {x y : Int} {k : Nat} (h : zs[k]? = some y) (hp : gp zs x k = true) (hxy : x < y) : gk zs x k ++ [y] = gk zs x (k + 1) := by
  have hn : gp zs x (k + 1) = true := by rw [gp_next h, hp]; rfl
  unfold gk
  rw [if_pos hp, if_pos hn, take_next' h, lows_app, highs_app, lows_all (l := [y]) (by simpa using hxy), highs_all (l := [y]) (by simpa using hxy)]
  simp
theorem gk_less {zs : List Int} {x y : Int} {k : Nat} (h : zs[k]? = some y) (hp : gp zs x k = false) (hxy : ¬ x < y) : gk zs x k ++ [y] = gk zs x (k + 1) ∧ gp zs x (k + 1) = false := by
  have hn : gp zs x (k + 1) = false := by rw [gp_next h, hp, decide_eq_false hxy]; rfl
  refine ⟨?_, hn⟩
  unfold gk
  rw [if_neg (by rw [hp]; simp), if_neg (by rw [hn]; simp), take_next' h]
theorem gp_sorted {zs : List Int} {x y : Int} {k : Nat} (hs : zs.Pairwise (· < ·)) (h : zs[k]? = some y) (hp : gp zs x k = true) : x < y := by
  unfold gp at hp
  rw [List.any_eq_true] at hp
  obtain ⟨z, hz, h1⟩ := hp
  rw [decide_eq_true_iff] at h1
  obtain ⟨t, ht, e⟩ := List.mem_iff_getElem.1 hz
  rw [List.length_take] at ht
  rw [List.getElem_take] at e
  obtain ⟨hk, e2⟩ := List.getElem?_eq_some_iff.1 h
  have := List.pairwise_iff_getElem.1 hs t k (by omega) hk (by omega)
  omega
theorem gk_end_no {zs : List Int} {x : Int} (hp : gp zs x zs.length = false) (hg : gvB zs x = true) : gk zs x zs.length ++ [x] = gvL zs x := by
  obtain ⟨h1, h2, h3⟩ := gvB_iff.1 hg
  have hl := gp_no hp h3
  rw [List.take_length] at hl
  unfold gk
  rw [if_neg (by rw [hp]; simp), (gv_yes hg).2, lows_self hl, highs_none hl, List.take_length]
theorem gk_end_yes {zs : List Int} {x : Int} (hp : gp zs x zs.length = true) (hg : gvB zs x = true) : gk zs x zs.length = gvL zs x := by
  unfold gk
  rw [if_pos hp, (gv_yes hg).2, List.take_length]
theorem gk_len (zs : List Int) (x : Int) (k : Nat) : (gk zs x k).length ≤ zs.length + zs.length + 1 := by
  have h1 : (lows x (zs.take k)).length ≤ (zs.take k).length := List.length_filter_le _ _
  have h2 : (highs x (zs.take k)).length ≤ (zs.take k).length := List.length_filter_le _ _
  rw [List.length_take] at h1 h2
  unfold gk
  split
  · rw [List.length_append, List.length_cons]
    omega
  · rw [List.length_take]
    omega

set_option maxRecDepth 100000 in
set_option maxHeartbeats 2000000 in
theorem giveR_any (v : Value) (zs : List Int) (x : Int) (w : World) (hR : Rd w v zs) : Calls Try.prog 14 #[v, .int .i64 x] w fun e w' => ∃ v', e = .returned (.tuple #[v', .int .i64 (gvE zs x)]) ∧ Rd w' v' (gvL zs x) ∧ Below w.heap.size w w' := by
  have HR : Hid (Rd w v zs) := hR
  obtain ⟨hz, a, cap, rfl⟩ := hR.form
  clear hR
  cases hg : gvB zs x with
  | false =>
    obtain ⟨g1, g2⟩ := gv_no hg
    have G1 : Hid (gvE zs x = 1) := g1
    have G2 : Hid (gvL zs x = zs) := g2
    clear g1 g2
    cases hc : chk zs with
    | false =>
      go_enter Try.func14, Try.ntmps14
      go_wp2_with (first
        | (go_at_call 17; refine (checkR_any _ zs _ HR.out).mono ?_; rintro e w1 ⟨rfl, hb1⟩; rw [hc]))
      refine bodyPost_ret (results_tmp2 Try.results14 _ _ _) rfl ?_
      exact ⟨_, by rw [G1.out]; rfl, by rw [G2.out]; exact HR.out.below hb1, hb1⟩
    | true =>
      by_cases h1 : x < 1
      · go_enter Try.func14, Try.ntmps14
        go_wp2_with (first
          | (go_at_call 17; refine (checkR_any _ zs _ HR.out).mono ?_; rintro e w1 ⟨rfl, hb1⟩; rw [hc]))
        refine bodyPost_ret (results_tmp2 Try.results14 _ _ _) rfl ?_
        exact ⟨_, by rw [G1.out]; rfl, by rw [G2.out]; exact HR.out.below hb1, hb1⟩
      by_cases h2 : x > 255
      · go_enter Try.func14, Try.ntmps14
        go_wp2_with (first
          | (go_at_call 17; refine (checkR_any _ zs _ HR.out).mono ?_; rintro e w1 ⟨rfl, hb1⟩; rw [hc]))
        refine bodyPost_ret (results_tmp2 Try.results14 _ _ _) rfl ?_
        exact ⟨_, by rw [G1.out]; rfl, by rw [G2.out]; exact HR.out.below hb1, hb1⟩
      have hm : decide (x ∈ zs) = true := by
        unfold gvB at hg
        rw [hc, isB_iff.2 (by omega)] at hg
        simpa using hg
      go_enter Try.func14, Try.ntmps14
      go_wp2_with (first
        | (go_at_call 17; refine (checkR_any _ zs _ HR.out).mono ?_; rintro e w1 ⟨rfl, hb1⟩; rw [hc])
        | (go_at_call 18; refine (in_any _ zs x _ (HR.out.below hb1)).mono ?_; rintro e w' ⟨rfl, hw⟩; rw [hw, hm]; clear hw w'))
      refine bodyPost_ret (results_tmp2 Try.results14 _ _ _) rfl ?_
      exact ⟨_, by rw [G1.out]; rfl, by rw [G2.out]; exact HR.out.below hb1, hb1⟩
  | true =>
    obtain ⟨g1, g2⟩ := gv_yes hg
    have G1 : Hid (gvE zs x = 0) := g1
    have HG : Hid (gvB zs x = true) := hg
    obtain ⟨h1, h2, h3⟩ := gvB_iff.1 hg
    have hc : chk zs = true := chk_iff.2 h1
    have h4 : ¬ x < 1 := by omega
    have h5 : ¬ x > 255 := by omega
    have hm : decide (x ∈ zs) = false := decide_eq_false h3
    have HX : Hid (x ∉ zs) := h3
    have HS : Hid (zs.Pairwise (· < ·)) := h1.1
    have H255 : Hid (zs.length ≤ 255) := ok_len h1
    have HL : Hid ((gvL zs x).length ≤ 1000) := (by show _ ≤ _; rw [gv_len HG.out]; have := H255.out; omega)
    have h0p : Hid (gp zs x 0 = false) := rfl
    have h0k : Hid (gk zs x 0 = []) := rfl
    clear g1 g2 h1 h2 h3 hg
    go_enter Try.func14, Try.ntmps14
    go_wp2_with (first
      | (go_at_call 17; refine (checkR_any _ zs _ HR.out).mono ?_; rintro e w1 ⟨rfl, hb1⟩; rw [hc]; have HB1 : Hid (Below w.heap.size w w1) := hb1; clear hb1)
      | (go_at_call 18; refine (in_any _ zs x _ (HR.out.below HB1.out)).mono ?_; rintro e w' ⟨rfl, hw⟩; rw [hw, hm]; clear hw w'))
    go_loopw [7, 8, 9] (fun s7 s8 s9 w2 => ∃ (k : Nat) (a : Option Addr) (c : Nat), k ≤ zs.length ∧ s9 = .int .i64 k ∧ s8 = .bool (gp zs x k) ∧ s7 = .slice a (gk zs x k).length c ∧ OwnI w2 w.heap.size (.slice a (gk zs x k).length c) (gk zs x k) ∧ Below w.heap.size w w2) (fun _ _ s9 _ => zs.length - (intOf s9).toNat)
    case atStart => exact ⟨0, none, 0, Nat.zero_le _, rfl, by rw [h0p.out], by rw [h0k.out]; rfl, by rw [h0k.out]; exact World.ownsRow_nil _ _ _ _, HB1.out⟩
    case round =>
      obtain ⟨k, a2, c2, hk, rfl, rfl, rfl, hO, hbel⟩ := hrel
      have HO : Hid (OwnI wr w.heap.size (.slice a2 (gk zs x k).length c2) (gk zs x k)) := hO
      have HB : Hid (Below w.heap.size w wr) := hbel
      have HK : Hid ((gk zs x k).length ≤ 900) := (by show _ ≤ _; have := gk_len zs x k; have := H255.out; omega)
      have HK1 : Hid ((gk zs x (k + 1)).length ≤ 900) := (by show _ ≤ _; have := gk_len zs x (k + 1); have := H255.out; omega)
      clear hO hbel
      by_cases hlt : k < zs.length
      · have hltI : (k : Int) < (zs.length : Int) := by omega
        obtain ⟨y, hy⟩ : ∃ y, zs[k]? = some y := ⟨_, List.getElem?_eq_getElem hlt⟩
        obtain ⟨b, off, rfl, hcell⟩ := at_of (HR.out.below HB.out) hy
        have HY : Hid (zs[k]? = some y) := hy
        clear hy
        cases hp : gp zs x k with
        | true =>
          have hxy : x < y := gp_sorted HS.out HY.out hp
          have hyx : decide (y > x) = true := decide_eq_true hxy
          have G : Hid (gk zs x k ++ [y] = gk zs x (k + 1)) := gk_more HY.out hp hxy
          have GP : Hid (gp zs x (k + 1) = true) := (by show _ = _; rw [gp_next HY.out, hp]; rfl)
          generalize hZ : gk zs x k = Z at *
          clear hZ
          go_wp2_with (first
            | (at_builtin; refine append_own_rd rfl (.tmp 48) (.tmp 53) rfl w.heap.size (.slice a2 Z.length c2) Z rfl (ownI_below HO.out ((Below.refl _ _).alloc (Nat.le_refl _) _)) (.slice (some ⟨_, 0, none⟩) 1 1) [y] rfl (rd_lit [y] rfl (by simp)) (by have := HK.out; omega) (by have := HB.out.size; simp; omega) (gk zs x (k + 1)) G.out ?_; intro a6 c6 w6 o6 b6; have O6 : Hid (OwnI w6 w.heap.size (.slice a6 (gk zs x (k + 1)).length c6) (gk zs x (k + 1))) := o6; have B6 : Hid (Below w.heap.size w w6) := (HB.out.alloc HB.out.size _).trans b6; clear o6 b6))
          go_roundw
          case rel => exact ⟨k + 1, a6, c6, by omega, by go_num, by rw [GP.out], rfl, O6.out, B6.out⟩
          case measure => simp [intOf]; omega
        | false =>
          by_cases hxy : x < y
          · have G : Hid (gk zs x k ++ [x] ++ [y] = gk zs x (k + 1)) := gk_put HY.out hp HX.out hxy
            have GP : Hid (gp zs x (k + 1) = true) := (by show _ = _; rw [gp_next HY.out, hp, decide_eq_true hxy]; rfl)
            obtain ⟨M, hM⟩ : ∃ M, gk zs x k ++ [x] = M := ⟨_, rfl⟩
            have HM : Hid (gk zs x k ++ [x] = M) := hM
            have HML : Hid (M.length ≤ 901) := (by show _ ≤ _; rw [← hM, List.length_append]; have := HK.out; simp; omega)
            rw [hM] at G
            clear hM
            generalize hZ : gk zs x k = Z at *
            clear hZ
            go_wp2_with (first
              | (at_builtin; refine append_own_rd rfl (.tmp 44) (.tmp 46) rfl w.heap.size (.slice a2 Z.length c2) Z rfl (ownI_below HO.out ((Below.refl _ _).alloc (Nat.le_refl _) _)) (.slice (some ⟨_, 0, none⟩) 1 1) [x] rfl (rd_lit [x] rfl (by simp)) (by have := HK.out; omega) (by have := HB.out.size; simp; omega) M HM.out ?_; intro a5 c5 w5 o5 b5; have O5 : Hid (OwnI w5 w.heap.size (.slice a5 M.length c5) M) := o5; have B5 : Hid (Below w.heap.size w w5) := (HB.out.alloc HB.out.size _).trans b5; obtain ⟨b', off', e', hcell5⟩ := at_of (HR.out.below B5.out) HY.out; cases e'; clear o5 b5)
              | (at_builtin; refine append_own_rd rfl (.tmp 48) (.tmp 53) rfl w.heap.size (.slice a5 M.length c5) M rfl (ownI_below O5.out ((Below.refl _ _).alloc (Nat.le_refl _) _)) (.slice (some ⟨_, 0, none⟩) 1 1) [y] rfl (rd_lit [y] rfl (by simp)) (by have := HML.out; omega) (by have := B5.out.size; simp; omega) (gk zs x (k + 1)) G.out ?_; intro a6 c6 w6 o6 b6; have O6 : Hid (OwnI w6 w.heap.size (.slice a6 (gk zs x (k + 1)).length c6) (gk zs x (k + 1))) := o6; have B6 : Hid (Below w.heap.size w w6) := (B5.out.alloc B5.out.size _).trans b6; clear o6 b6))
            go_roundw
            case rel => exact ⟨k + 1, a6, c6, by omega, by go_num, by rw [GP.out], rfl, O6.out, B6.out⟩
            case measure => simp [intOf]; omega
          · have hyx : ¬ y > x := hxy
            have G : Hid (gk zs x k ++ [y] = gk zs x (k + 1)) := (gk_less HY.out hp hxy).1
            have GP : Hid (gp zs x (k + 1) = false) := (gk_less HY.out hp hxy).2
            generalize hZ : gk zs x k = Z at *
            clear hZ
            go_wp2_with (first
              | (at_builtin; refine append_own_rd rfl (.tmp 48) (.tmp 53) rfl w.heap.size (.slice a2 Z.length c2) Z rfl (ownI_below HO.out ((Below.refl _ _).alloc (Nat.le_refl _) _)) (.slice (some ⟨_, 0, none⟩) 1 1) [y] rfl (rd_lit [y] rfl (by simp)) (by have := HK.out; omega) (by have := HB.out.size; simp; omega) (gk zs x (k + 1)) G.out ?_; intro a6 c6 w6 o6 b6; have O6 : Hid (OwnI w6 w.heap.size (.slice a6 (gk zs x (k + 1)).length c6) (gk zs x (k + 1))) := o6; have B6 : Hid (Below w.heap.size w w6) := (HB.out.alloc HB.out.size _).trans b6; clear o6 b6))
            go_roundw
            case rel => exact ⟨k + 1, a6, c6, by omega, by go_num, by rw [GP.out], rfl, O6.out, B6.out⟩
            case measure => simp [intOf]; omega
      · have hgeI : ¬ (k : Int) < (zs.length : Int) := by omega
        have e : k = zs.length := by omega
        cases hp : gp zs x k with
        | true =>
          have G : Hid (gk zs x k = gvL zs x) := (by show _ = _; rw [e]; exact gk_end_yes (by rw [← e]; exact hp) HG.out)
          clear e
          go_wp2
          refine bodyPost_ret (results_tmp2 Try.results14 _ _ _) rfl ?_
          have ho := HO.out
          rw [G.out] at ho
          exact ⟨_, by rw [G1.out, G.out]; rfl, ho.rd HL.out, HB.out⟩
        | false =>
          have G : Hid (gk zs x k ++ [x] = gvL zs x) := (by show _ = _; rw [e]; exact gk_end_no (by rw [← e]; exact hp) HG.out)
          generalize hZ : gk zs x k = Z at *
          clear e hZ
          go_wp2_with (first
            | (at_builtin; refine append_own_rd rfl (.tmp 57) (.tmp 59) rfl w.heap.size (.slice a2 Z.length c2) Z rfl (ownI_below HO.out ((Below.refl _ _).alloc (Nat.le_refl _) _)) (.slice (some ⟨_, 0, none⟩) 1 1) [x] rfl (rd_lit [x] rfl (by simp)) (by have := HK.out; omega) (by have := HB.out.size; simp; omega) (gvL zs x) G.out ?_; intro a6 c6 w6 o6 b6; have O6 : Hid (OwnI w6 w.heap.size (.slice a6 (gvL zs x).length c6) (gvL zs x)) := o6; have B6 : Hid (Below w.heap.size w w6) := (HB.out.alloc HB.out.size _).trans b6; clear o6 b6))
          refine bodyPost_ret (results_tmp2 Try.results14 _ _ _) rfl ?_
          exact ⟨_, by rw [G1.out]; rfl, O6.out.rd HL.out, B6.out⟩
end Go.Proofs.Ytpfbnfnlbjjjoaa
