/- Walks of layer 6: Slots, slices.Compact, Plain. -/
import Derived.Test.YtoboiahknapddaaFasta
import Derived.Test.YtoboiahknapddaaLawa
import Derived.Laws.IdiomCopy
import Derived.Lib.SliceRun
namespace Go.Proofs.Ytoboiahknapddaa
open Go.RowKit Go.Shelf
set_option linter.unusedVariables false

/-- A part of a list that is read. -/
theorem RdC.part {W : World} {size : Nat} {b off n cap : Nat} {xs : List Value} (h : RdC W size (.slice (some ⟨b, off, none⟩) n cap) n xs) (i k c : Nat) (hi : i + k ≤ n) (hc : k ≤ c) : RdC W size (.slice (some ⟨b, off + i * size, none⟩) k c) k ((xs.drop (i * size)).take (k * size)) := by
  obtain ⟨h1, h2, a', cap', e, h3, h4⟩ := h
  cases e
  have hle : i * size + k * size ≤ n * size := by rw [← Nat.add_mul]; exact Nat.mul_le_mul_right _ hi
  refine ⟨by rw [List.length_take, List.length_drop]; omega, by omega, _, _, rfl, hc, ?_⟩
  rcases h4 with ⟨h0, _⟩ | ⟨b', off', e, hlt, hcell⟩
  · exact .inl ⟨by omega, fun h => by cases h⟩
  · cases e
    refine .inr ⟨_, _, rfl, hlt, fun j u hj => ?_⟩
    rw [List.getElem?_take] at hj
    split at hj
    · rw [List.getElem?_drop] at hj
      have := hcell _ _ hj
      rwa [← Nat.add_assoc] at this
    · cases hj
theorem Rd.part {W : World} {b off n cap : Nat} {zs : List Int} (h : Rd W (.slice (some ⟨b, off, none⟩) n cap) zs) (i k c : Nat) (hi : i + k ≤ zs.length) (hc : k ≤ c) : Rd W (.slice (some ⟨b, off + i, none⟩) k c) ((zs.drop i).take k) := by
  obtain ⟨_, _, e⟩ := h.form.2
  cases e
  have hl : ((zs.drop i).take k).length = k := by rw [List.length_take, List.length_drop]; omega
  have := RdC.part h i k c hi hc
  unfold Rd
  rw [hl, List.map_take, List.map_drop]
  simpa using this

theorem slN_yes {ws : List Int} {bn : Nat} (h : ndB (bn : Int) = true) (h2 : bn + 16 ≤ ws.length) : slN ws (bn : Int) = ((ws.drop (bn + 3)).take 13).takeWhile (fun x => decide (0 < x)) := by
  unfold slN
  rw [h, decide_eq_true (by omega)]
  rfl
theorem slN_no {ws : List Int} {b : Int} (h : ¬ (ndB b = true ∧ b + 16 ≤ (ws.length : Int))) : slN ws b = [] := by
  unfold slN
  cases e : ndB b
  · rfl
  · rw [decide_eq_false (fun k => h ⟨e, k⟩)]; rfl
theorem while_stop {S : List Int} {k : Nat} {x : Int} (hp : posB (S.take k) = true) (hx : S[k]? = some x) (h0 : ¬ 0 < x) : S.takeWhile (fun x => decide (0 < x)) = S.take k := by
  obtain ⟨hk, rfl⟩ := List.getElem?_eq_some_iff.1 hx
  have e : S = S.take k ++ S.drop k := (List.take_append_drop k S).symm
  rw [e, List.takeWhile_append_of_pos (fun x hx => decide_eq_true (posB_out hp x hx)), List.drop_eq_getElem_cons hk, List.takeWhile_cons, if_neg (by simpa using h0), List.append_nil, ← List.drop_eq_getElem_cons hk, List.take_append_drop]
theorem while_all {S : List Int} (hp : posB S = true) : S.takeWhile (fun x => decide (0 < x)) = S := by
  have := List.takeWhile_append_of_pos (p := fun x : Int => decide (0 < x)) (l₁ := S) (l₂ := []) (fun x hx => decide_eq_true (posB_out hp x hx))
  simpa using this

set_option maxRecDepth 100000 in
set_option maxHeartbeats 2000000 in
theorem slots_any (v : Value) (ws : List Int) (b : Int) (w : World) (hR : Rd w v ws) : Calls Try.prog 22 #[v, .int .i64 b] w fun e w' => ∃ v', e = .returned v' ∧ Rd w' v' (slN ws b) ∧ Below w.heap.size w w' := by
  have HR : Hid (Rd w v ws) := hR
  obtain ⟨hl, a, cap, rfl⟩ := hR.form
  have hcap : ws.length ≤ cap := by obtain ⟨_, _, a', c', e, h, _⟩ := hR; cases e; exact h
  cases e1 : ndB b
  · have H : Hid (slN ws b = []) := slN_no (by rw [e1]; simp)
    clear hR
    go_enter Try.func22, Try.ntmps22
    go_wp2_with (first
      | (go_at_call 40; refine (isNode_any b _).mono ?_; rintro e w' ⟨rfl, hw⟩; rw [hw, e1]; clear hw w'))
    go_ret
    exact ⟨_, rfl, by rw [H.out]; exact Rd.bare _, Below.refl _ _⟩
  obtain ⟨b0, b1, b2⟩ := ndB_out e1
  by_cases h1 : (ws.length : Int) < b + 16
  · have H : Hid (slN ws b = []) := slN_no (by omega)
    clear hR
    go_enter Try.func22, Try.ntmps22
    go_wp2_with (first
      | (go_at_call 40; refine (isNode_any b _).mono ?_; rintro e w' ⟨rfl, hw⟩; rw [hw, e1]; clear hw w'))
    go_ret
    exact ⟨_, rfl, by rw [H.out]; exact Rd.bare _, Below.refl _ _⟩
  obtain ⟨bn, rfl⟩ : ∃ bn : Nat, b = (bn : Int) := ⟨b.toNat, by omega⟩
  have h16 : bn + 16 ≤ ws.length := by omega
  have h16c : (bn : Int) + 16 ≤ (cap : Int) := by omega
  have h16n : bn + 16 ≤ cap := by omega
  have H : Hid (slN ws (bn : Int) = ((ws.drop (bn + 3)).take 13).takeWhile (fun x => decide (0 < x))) := slN_yes e1 h16
  obtain ⟨blk, off, rfl, -⟩ := hR.base (by omega)
  have hS : Rd w (.slice (some ⟨blk, off + (bn + 3), none⟩) 13 13) ((ws.drop (bn + 3)).take 13) := hR.part (bn + 3) 13 13 (by omega) (Nat.le_refl _)
  have hSl : ((ws.drop (bn + 3)).take 13).length = 13 := by rw [List.length_take, List.length_drop]; omega
  generalize (ws.drop (bn + 3)).take 13 = S at H hS hSl
  have HS : Hid (Rd w (.slice (some ⟨blk, off + (bn + 3), none⟩) 13 13) S) := hS
  have HSl : Hid (S.length = 13) := hSl
  clear hR hS hSl HR
  have d1 : decide ((ws.length : Int) < (bn : Int) + 16) = false := decide_eq_false (by omega)
  have d2 : decide (ws.length < bn + 16) = false := decide_eq_false (by omega)
  go_enter Try.func22, Try.ntmps22
  go_wp2_with (first
    | (go_at_call 40; refine (isNode_any (bn : Int) _).mono ?_; rintro e w' ⟨rfl, hw⟩; rw [hw, e1]; clear hw w'))
  go_loop [5, 25] (fun o i => ∃ k : Nat, k ≤ 13 ∧ i = .int .i64 k ∧ o = .slice (some ⟨blk, off + (bn + 3), none⟩) 13 13 ∧ posB (S.take k) = true) (fun _ i => 13 - (intOf i).toNat)
  case atStart => exact ⟨0, Nat.zero_le _, rfl, by rw [show bn + 16 - (bn + 3) = 13 from by omega], rfl⟩
  case round =>
    obtain ⟨k, hk, rfl, rfl, hp⟩ := hrel
    have Hp : Hid (posB (S.take k) = true) := hp
    clear hp
    by_cases hlt : k < 13
    · have hltS : k < S.length := by have := HSl.out; omega
      have Hx : Hid (S[k]? = some S[k]) := List.getElem?_eq_getElem hltS
      have hc := HS.out.cell Hx.out
      generalize S[k] = x at *
      by_cases h0 : 0 < x
      · have hd : decide (x ≤ 0) = false := decide_eq_false (by omega)
        have Hn : Hid (posB (S.take (k + 1)) = true) := posB_next Hp.out Hx.out h0
        go_wp2
        go_round
        case rel => exact ⟨k + 1, by omega, by go_num, rfl, Hn.out⟩
        case measure => simp [intOf]; omega
      · have hd : decide (x ≤ 0) = true := decide_eq_true (by omega)
        have Hn : Hid (slN ws (bn : Int) = S.take k) := by (show _ = _; rw [H.out, while_stop Hp.out Hx.out h0])
        have HT : Hid (Rd w (.slice (some ⟨blk, off + (bn + 3), none⟩) k k) (S.take k)) := by
          have := HS.out.part 0 k k (by omega) (Nat.le_refl _)
          rw [Nat.add_zero, List.drop_zero] at this
          exact this
        have hk13 : (k : Int) ≤ 13 := by omega
        go_wp2_with (first
          | (go_at_call 41; refine (cloneI_any _ (S.take k) _ HT.out).mono ?_; rintro e w6 ⟨v6, rfl, O6, b6⟩; have HO6 : Hid (OwnI w6 w.heap.size v6 (S.take k)) := O6; have HB6 : Hid (Below w.heap.size w w6) := b6; clear O6 b6))
        go_ret
        exact ⟨_, rfl, by rw [Hn.out]; exact HO6.out.rd (by rw [List.length_take]; omega), HB6.out⟩
    · have Hn : Hid (slN ws (bn : Int) = S) := by
        show _ = _
        have := Hp.out
        rw [List.take_of_length_le (by have := HSl.out; omega)] at this
        rw [H.out, while_all this]
      go_wp2_with (first
        | (go_at_call 41; refine (cloneI_any _ S _ HS.out).mono ?_; rintro e w6 ⟨v6, rfl, O6, b6⟩; have HO6 : Hid (OwnI w6 w.heap.size v6 S) := O6; have HB6 : Hid (Below w.heap.size w w6) := b6; clear O6 b6))
      go_ret
      exact ⟨_, rfl, by rw [Hn.out]; exact HO6.out.rd (by have := HSl.out; omega), HB6.out⟩
theorem below_cells {B g : Nat} {a : World} (hg : B ≤ g) (vs : List Value) (o : Nat) {W : World} (h : Below B a W) : Below B a (W.setCells g o vs) := by
  induction vs generalizing o W with
  | nil => exact h
  | cons v vs ih => exact ih (o + 1) (h.setCell (p := ⟨g, o, none⟩) hg v)
theorem plN_take1 (zs : List Int) : plN (zs.take 1) = zs.take 1 := by
  cases zs with
  | nil => rfl
  | cons x r => rfl
theorem plN_take {zs : List Int} {m : Nat} {x y : Int} (hx : zs[m + 1]? = some x) (hy : zs[m]? = some y) : plN (zs.take (m + 1 + 1)) = if x = y then plN (zs.take (m + 1)) else plN (zs.take (m + 1)) ++ [x] := by
  rw [take_next hx, take_next hy, List.append_assoc, List.singleton_append]
  by_cases h : x = y
  · rw [if_pos h, h]
    have := plN_twice (zs.take m) y []
    exact this
  · rw [if_neg h, plN_next _ _ _ (fun e => h e.symm)]
theorem ys_next {ys zs : List Int} {K : Nat} {x : Int} (h1 : ys.drop K = zs.drop K) (hK : K < ys.length) : (ys.set K x).take (K + 1) = ys.take K ++ [x] ∧ (ys.set K x).drop (K + 1) = zs.drop (K + 1) := by
  constructor
  · rw [take_next (p := x) (by rw [List.getElem?_set_self hK]), List.take_set_of_le (Nat.le_refl _)]
  · rw [List.drop_set_of_lt (by omega)]
    have := congrArg (List.drop 1) h1
    rwa [List.drop_drop, List.drop_drop] at this
theorem ys_at {ys zs : List Int} {K p : Nat} (h1 : ys.drop K = zs.drop K) (hp : K ≤ p) : ys[p]? = zs[p]? := by
  have := congrArg (fun l => l[p - K]?) h1
  simp only [List.getElem?_drop] at this
  rwa [show K + (p - K) = p from by omega] at this

set_option maxRecDepth 100000 in
set_option maxHeartbeats 4000000 in
theorem compact_any (v : Value) (zs : List Int) (base : Nat) (w : World) (hO : OwnI w base v zs) (hl : zs.length ≤ 1000) (hb : base ≤ w.heap.size) : Calls Try.prog 42 #[v] w fun e w' => ∃ v', e = .returned v' ∧ Rd w' v' (plN zs) ∧ Below base w w' := by
  have HO : Hid (OwnI w base v zs) := hO
  by_cases h2 : zs.length < 2
  · have Hn : Hid (plN zs = zs) := by
      show _ = _
      match zs, h2 with
      | [], _ => rfl
      | [x], _ => rfl
    obtain ⟨a, cap, rfl⟩ := hO.form
    have h2I : (zs.length : Int) < 2 := by omega
    clear hO
    go_enter Try.func42, Try.ntmps42
    go_wp2
    go_ret
    exact ⟨_, rfl, by rw [Hn.out]; exact HO.out.rd hl, Below.refl _ _⟩
  rcases hO.2 with ⟨_, e0⟩ | ⟨g, cap, cur, rfl, hg, hgg, rest⟩
  · omega
  have hcap : zs.length ≤ cap := by have := rest; omega
  have hcapI : (zs.length : Int) ≤ (cap : Int) := by omega
  clear rest hO hgg
  have h22 : ¬ (zs.length : Int) < 2 := by omega
  go_enter Try.func42, Try.ntmps42
  go_wp2
  go_loopw [3] (fun s3 w1 => ∃ m : Nat, m + 1 ≤ zs.length ∧ s3 = .int .i64 ((m : Int) + 1) ∧ plN (zs.take (m + 1)) = zs.take (m + 1) ∧ OwnI w1 base (.slice (some ⟨g, 0, none⟩) zs.length cap) zs ∧ Below base w w1) (fun s3 _ => zs.length - (intOf s3).toNat)
  case atStart => exact ⟨0, by omega, rfl, plN_take1 zs, HO.out, Below.refl _ _⟩
  case round =>
    obtain ⟨m, hm, rfl, hpl, hO, hB⟩ := hrel
    have Hpl : Hid (plN (zs.take (m + 1)) = zs.take (m + 1)) := hpl
    have HOr : Hid (OwnI wr base (.slice (some ⟨g, 0, none⟩) zs.length cap) zs) := hO
    have HBr : Hid (Below base w wr) := hB
    clear hpl hO hB
    by_cases hlt : m + 1 < zs.length
    · have hltI : (m : Int) + 1 < (zs.length : Int) := by omega
      obtain ⟨x, hx⟩ : ∃ x, zs[m + 1]? = some x := ⟨_, List.getElem?_eq_getElem hlt⟩
      obtain ⟨y, hy⟩ : ∃ y, zs[m]? = some y := ⟨_, List.getElem?_eq_getElem (by omega)⟩
      have Hpt : Hid (plN (zs.take (m + 1 + 1)) = if x = y then plN (zs.take (m + 1)) else plN (zs.take (m + 1)) ++ [x]) := plN_take hx hy
      have Htk : Hid (zs.take (m + 1 + 1) = zs.take (m + 1) ++ [x]) := take_next hx
      have c1 := (HOr.out.at hx).1
      have c0 := (HOr.out.at hy).1
      clear hx hy
      by_cases hdup : x = y
      · subst hdup
        obtain ⟨n2, hn2⟩ : ∃ n2, zs.length - (m + 1) = n2 := ⟨_, rfl⟩
        obtain ⟨c2, hc2⟩ : ∃ c2, cap - (m + 1) = c2 := ⟨_, rfl⟩
        have Hn2 : Hid (zs.length = m + 1 + n2) := by (show _ = _; omega)
        have hmc : m + 1 ≤ cap := by omega
        have hmcI : (m : Int) + 1 ≤ (cap : Int) := by omega
        have hmn : (m : Int) + 1 ≤ (zs.length : Int) := by omega
        have Hst : Hid (plN (zs.take (m + 1 + 1)) = zs.take (m + 1)) := by (show _ = _; rw [Hpt.out, if_pos rfl, Hpl.out])
        clear Hpt
        go_wp2
        go_quiet (fail)
        go_wp2
        go_loopw [3, 5] (fun s3 s5 w1 => ∃ (K t : Nat) (ys : List Int), m + 1 ≤ K ∧ K ≤ m + 1 + t ∧ t + 1 ≤ n2 ∧ s3 = .int .i64 (K : Int) ∧ s5 = .int .i64 ((t : Int) + 1) ∧ ys.length = zs.length ∧ OwnI w1 base (.slice (some ⟨g, 0, none⟩) zs.length cap) ys ∧ ys.take K = plN (zs.take (m + 1 + t + 1)) ∧ ys.drop K = zs.drop K ∧ Below base w w1) (fun _ s5 _ => n2 - (intOf s5).toNat)
        case atStart => exact ⟨m + 1, 0, zs, Nat.le_refl _, Nat.le_refl _, by omega, by go_num, rfl, rfl, HOr.out.below (below_drewN (Below.refl _ _) _), Hst.out.symm, rfl, below_drewN HBr.out _⟩
        case round =>
          clear c0 c1 HOr HBr
          obtain ⟨K, t, ys, k1, k2, k3, rfl, rfl, hyl, hO, ht, hd, hB⟩ := hrel
          have Hyl : Hid (ys.length = zs.length) := hyl
          have HOr : Hid (OwnI wr base (.slice (some ⟨g, 0, none⟩) zs.length cap) ys) := hO
          have HBr : Hid (Below base w wr) := hB
          have Ht : Hid (ys.take K = plN (zs.take (m + 1 + t + 1))) := ht
          have Hd : Hid (ys.drop K = zs.drop K) := hd
          have hKn : K < zs.length := by have := Hn2.out; omega
          clear hyl hO hB ht hd
          by_cases hlt2 : t + 1 < n2
          · have hlt2I : (t : Int) + 1 < (n2 : Int) := by omega
            have hKI : (K : Int) < (zs.length : Int) := by omega
            obtain ⟨x', hx⟩ : ∃ x, zs[m + 1 + t + 1]? = some x := ⟨_, List.getElem?_eq_getElem (by have := Hn2.out; omega)⟩
            obtain ⟨y', hy⟩ : ∃ y, zs[m + 1 + t]? = some y := ⟨_, List.getElem?_eq_getElem (by have := Hn2.out; omega)⟩
            obtain ⟨z', hz⟩ : ∃ z, ys[K]? = some z := ⟨_, List.getElem?_eq_getElem (by have := Hyl.out; omega)⟩
            have Hpt : Hid (plN (zs.take (m + 1 + (t + 1) + 1)) = if x' = y' then plN (zs.take (m + 1 + t + 1)) else plN (zs.take (m + 1 + t + 1)) ++ [x']) := plN_take hx hy
            have c1 : wr.cell? ⟨g, m + 1 + (t + 1), none⟩ = some (.int .i64 x') := (HOr.out.at (by rw [ys_at Hd.out (by omega)]; exact hx)).1
            have c0 : wr.cell? ⟨g, m + 1 + t, none⟩ = some (.int .i64 y') := (HOr.out.at (by rw [ys_at Hd.out (by omega)]; exact hy)).1
            obtain ⟨cK, fK, _⟩ := HOr.out.at hz
            have HzK : Hid (ys[K]? = some z') := hz
            clear hx hy hz
            by_cases hne : x' = y'
            · have hdn : (x' != y') = false := by simpa using hne
              have Hn : Hid (ys.take K = plN (zs.take (m + 1 + (t + 1) + 1))) := by (show _ = _; rw [Hpt.out, if_pos hne, Ht.out])
              clear hne
              go_wp2
              go_quiet (fail)
              go_wp2
              go_roundw
              case rel => exact ⟨K, t + 1, ys, k1, by omega, by omega, rfl, by go_num, Hyl.out, HOr.out.below (below_drewN (Below.refl _ _) _), Hn.out, Hd.out, below_drewN HBr.out _⟩
              case measure => simp [intOf]; omega
            · have hdn : (x' != y') = true := by simpa using hne
              have Hys : Hid ((ys.set K x').take (K + 1) = ys.take K ++ [x'] ∧ (ys.set K x').drop (K + 1) = zs.drop (K + 1)) := ys_next Hd.out (by have := Hyl.out; omega)
              have Hn : Hid ((ys.set K x').take (K + 1) = plN (zs.take (m + 1 + (t + 1) + 1))) := by (show _ = _; rw [Hpt.out, if_neg hne, ← Ht.out]; exact Hys.out.1)
              clear hne
              go_wp2
              go_quiet (fail)
              go_wp2
              go_roundw
              case rel => exact ⟨K + 1, t + 1, ys.set K x', by omega, by omega, by omega, by go_num, by go_num, by rw [List.length_set]; exact Hyl.out, ((HOr.out.below (below_drewN (Below.refl _ _) _)).at HzK.out).2.2 x', Hn.out, Hys.out.2, (below_drewN HBr.out _).setCell (p := ⟨g, K, none⟩) hg _⟩
              case measure => simp [intOf]; omega
          · obtain ⟨n3, hn3⟩ : ∃ n3, zs.length - K = n3 := ⟨_, rfl⟩
            obtain ⟨c3, hc3⟩ : ∃ c3, cap - K = c3 := ⟨_, rfl⟩
            have hge2 : ¬ (t : Int) + 1 < (n2 : Int) := by omega
            have hKI : (K : Int) ≤ (zs.length : Int) := by omega
            have hKc : (K : Int) ≤ (cap : Int) := by omega
            have hKcn : K ≤ cap := by omega
            have hcl : ∀ ty, (Builtin.clear_ #[22] ty #[.slice (some ⟨g, K, none⟩) n3 c3]).run Try.prog wr = .ok (.tuple #[]) (wr.setCells g K (List.replicate n3 (.int .i64 0))) := by
              intro ty
              have hat : ∀ j, j < n3 → ∃ z, ys[K + j]? = some z := fun j hj => ⟨_, List.getElem?_eq_getElem (by have := Hyl.out; omega)⟩
              exact Lib.run_clear_slice wr 22 3 ty (.int .i64 0) Try.underlying22 (fun w => rfl) rfl rfl g K n3 c3 (by omega) (fun j hj => by obtain ⟨z, hz⟩ := hat j hj; rw [(HOr.out.at hz).1]; rfl) (fun j hj => by obtain ⟨z, hz⟩ := hat j hj; exact (HOr.out.at hz).2.1)
            have Hend : Hid (ys.take K = plN zs) := by (show _ = _; rw [Ht.out, List.take_of_length_le (by have := Hn2.out; omega)])
            go_wp2
            go_ret
            refine ⟨_, rfl, ?_, below_cells hg _ _ HBr.out⟩
            rw [← Hend.out]
            have hlK : (ys.take K).length = K := by have := Hyl.out; rw [List.length_take]; omega
            refine ⟨by simp, by omega, some ⟨g, 0, none⟩, cap, by rw [hlK]; rfl, by omega, .inr ⟨g, 0, rfl, ?_, fun j u hj => ?_⟩⟩
            · have e1 := (World.ownsRow.lt HOr.out g rfl).2
              have e2 := (below_cells (B := 0) (Nat.zero_le g) (List.replicate n3 (Value.int .i64 0)) K (Below.refl 0 wr)).size
              omega
            · rw [List.getElem?_map] at hj
              obtain ⟨z, hz, rfl⟩ := Option.map_eq_some_iff.1 hj
              rw [List.getElem?_take] at hz
              split at hz
              · rw [World.cell?_setCells_out g _ _ _ _ (fun _ _ => .inl (by show 0 + j < K; omega)), Nat.zero_add]
                exact (HOr.out.at hz).1
              · cases hz
      · have hd : (x == y) = false := by simpa using hdup
        have Hn : Hid (plN (zs.take (m + 1 + 1)) = zs.take (m + 1 + 1)) := by (show _ = _; rw [Hpt.out, if_neg hdup, Hpl.out, Htk.out])
        clear hdup
        go_wp2
        go_quiet (fail)
        go_wp2
        go_roundw
        case rel => exact ⟨m + 1, by omega, by go_num, Hn.out, HOr.out.below (below_drewN (Below.refl _ _) _), below_drewN HBr.out _⟩
        case measure => simp [intOf]; omega
    · have Hn : Hid (plN zs = zs) := by (show _ = _; have := Hpl.out; rwa [List.take_of_length_le (by omega)] at this)
      go_wp2
      go_ret
      exact ⟨_, rfl, by rw [Hn.out]; exact HOr.out.rd hl, HBr.out⟩

set_option maxRecDepth 100000 in
theorem plain_any (v : Value) (zs : List Int) (w : World) (hR : Rd w v zs) : Calls Try.prog 24 #[v] w fun e w' => ∃ v', e = .returned v' ∧ Rd w' v' (plN zs) ∧ Below w.heap.size w w' := by
  have HR : Hid (Rd w v zs) := hR
  obtain ⟨hl, a, cap, rfl⟩ := hR.form
  clear hR
  go_enter Try.func24, Try.ntmps24
  go_wp2_with (first
    | (go_at_call 41; refine (cloneI_any _ zs _ HR.out).mono ?_; rintro e w1 ⟨v1, rfl, O1, b1⟩; have HO1 : Hid (OwnI w1 w.heap.size v1 zs) := O1; have HB1 : Hid (Below w.heap.size w w1) := b1; clear O1 b1)
    | (go_at_call 42; refine (compact_any _ zs w.heap.size _ HO1.out hl HB1.out.size).mono ?_; rintro e w2 ⟨v2, rfl, R2, b2⟩; have HR2 : Hid (Rd w2 v2 (plN zs)) := R2; have HB2 : Hid (Below w.heap.size w w2) := HB1.out.trans b2; clear R2 b2))
  go_ret
  exact ⟨_, rfl, HR2.out, HB2.out⟩
end Go.Proofs.Ytoboiahknapddaa
