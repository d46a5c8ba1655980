/- Layer 11: slices.DeleteFunc of rising blocks. -/
import Derived.Test.YtgcdhenbpkcmgaaAra
import Derived.Test.YtgcdhenbpkcmgaaFFastd
import Derived.Shelf.Abstract
namespace Go.Proofs.Ytgcdhenbpkcmgaa
open Go.RowKit Go.Shelf
set_option linter.unusedVariables false

theorem drop_at' {L : List Int} {k : Nat} {y : Int} (h : L[k]? = some y) : L.drop k = y :: L.drop (k + 1) := by
  obtain ⟨hk, e⟩ := List.getElem?_eq_some_iff.1 h
  rw [List.drop_eq_getElem_cons hk, e]
theorem enter47 : ∀ args w, (callFunc 47 args).run Try.prog w = .ok (.enter 47 args) w := enters_of Try.func47 rfl rfl
/-- A block that is none of the arena. -/
theorem del_any (x nb : Int) (g : Nat) (w : World) (h : Cl w g (.int .i64 nb) 3) : Calls Try.prog 47 #[.int .i64 x, .pointer (some ⟨g, 0, none⟩)] w fun e w' => e = .returned (.bool (decide (nb ≤ x))) ∧ w' = w := by
  have hc := h.cell
  go_enter Try.func47, Try.ntmps47
  go_wp2
  exact bodyPost_ret (results_tmp rfl _ _ _) rfl ⟨rfl, rfl⟩
set_option maxRecDepth 100000 in
set_option maxHeartbeats 2000000 in
theorem index_any (v : Value) (K : List Int) (nb : Int) (g : Nat) (w : World) (hR : Rd w v K) (h : Cl w g (.int .i64 nb) 3) : Calls Try.prog 60 #[v, .func (.func 47) #[] #[.pointer (some ⟨g, 0, none⟩)]] w fun e w' =>
    ((∃ (k : Nat) (y : Int), e = .returned (.int .i64 k) ∧ K[k]? = some y ∧ nb ≤ y ∧ ∀ x ∈ K.take k, x < nb) ∨ (e = .returned (.int .i64 (-1)) ∧ ∀ x ∈ K, x < nb)) ∧ w' = w := by
  have e47 := enter47
  obtain ⟨hl, a, cap, rfl⟩ := hR.form
  have HR : Hid (Rd w (.slice a K.length cap) K) := hR
  have HC : Hid (Cl w g (.int .i64 nb) 3) := h
  clear hR h
  go_enter Try.func60, Try.ntmps60
  go_wp2
  go_loopw [8] (fun i wr => ∃ k : Nat, k ≤ K.length ∧ i = .int .i64 k ∧ (∀ x ∈ K.take k, x < nb) ∧ wr = w) (fun i _ => K.length - (Go.RowKit.intOf i).toNat)
  case atStart => exact ⟨0, Nat.zero_le _, rfl, by simp, rfl⟩
  case round =>
    obtain ⟨k, hk, rfl, hlt, rfl⟩ := hrel
    have Hlt : Hid (∀ x ∈ K.take k, x < nb) := hlt
    clear hlt
    by_cases hkl : k < K.length
    · have hklI : (k : Int) < (K.length : Int) := by omega
      have R2 := HR.out
      obtain ⟨b', off', rfl, hcell⟩ := R2.at k hkl
      have hKk := List.getElem?_eq_getElem hkl
      obtain ⟨y, hy⟩ : ∃ y, K[k] = y := ⟨_, rfl⟩
      rw [hy] at hcell hKk
      have HKk : Hid (K[k]? = some y) := hKk
      clear R2 hy hKk
      by_cases hyb : nb ≤ y
      · have hd : decide (nb ≤ y) = true := decide_eq_true hyb
        have Hy : Hid (nb ≤ y) := hyb
        clear hyb
        go_wp2_with (first
          | (go_at_fn 47; refine (del_any y nb g _ HC.out).mono ?_; rintro e w' ⟨rfl, hw⟩; rw [hw, hd]; clear hw w'))
        exact bodyPost_ret (results_tmp rfl _ _ _) rfl ⟨.inl ⟨k, y, rfl, HKk.out, Hy.out, Hlt.out⟩, rfl⟩
      · have hd : decide (nb ≤ y) = false := decide_eq_false hyb
        have Hn : Hid (∀ x ∈ K.take (k + 1), x < nb) := by
          show ∀ x ∈ K.take (k + 1), x < nb
          rw [take_next HKk.out]
          intro x hx
          rw [List.mem_append, List.mem_singleton] at hx
          rcases hx with hx | rfl
          · exact Hlt.out x hx
          · omega
        clear hyb
        go_wp2_with (first
          | (go_at_fn 47; refine (del_any y nb g _ HC.out).mono ?_; rintro e w' ⟨rfl, hw⟩; rw [hw, hd]; clear hw w'))
        go_roundw
        case rel => exact ⟨k + 1, by omega, by go_num, Hn.out, trivial⟩
        case measure => simp [Go.RowKit.intOf]; omega
    · have hklI : ¬ (k : Int) < (K.length : Int) := by omega
      have Hn : Hid (∀ x ∈ K, x < nb) := by have := Hlt.out; rwa [List.take_of_length_le (by omega)] at this
      go_wp2
      exact bodyPost_ret (results_tmp rfl _ _ _) rfl ⟨.inr ⟨rfl, Hn.out⟩, by trivial⟩
/-- Of rising numbers those below one are a beginning. -/
theorem filter_take {K : List Int} {nb y : Int} {k : Nat} (hr : K.Pairwise (fun a b => a < b)) (hk : K[k]? = some y) (hy : nb ≤ y) (hl : ∀ x ∈ K.take k, x < nb) : K.filter (fun x => decide (x < nb)) = K.take k := by
  have hd := drop_at' hk
  have h1 : (K.take k).filter (fun x => decide (x < nb)) = K.take k := List.filter_eq_self.2 (fun x hx => decide_eq_true (hl x hx))
  have h2 : (K.drop k).filter (fun x => decide (x < nb)) = [] := by
    rw [List.filter_eq_nil_iff]
    intro x hx
    rw [hd, List.mem_cons] at hx
    have : y ≤ x := by
      rcases hx with rfl | hx
      · omega
      · have hp : (K.drop k).Pairwise (fun a b => a < b) := hr.sublist (List.drop_sublist k K)
        rw [hd, List.pairwise_cons] at hp
        have := hp.1 x hx
        omega
    simp
    omega
  conv => lhs; rw [← List.take_append_drop k K]
  rw [List.filter_append, h1, h2, List.append_nil]
theorem filter_ge {K : List Int} {nb y : Int} {k : Nat} (hr : K.Pairwise (fun a b => a < b)) (hk : K[k]? = some y) (hy : nb ≤ y) {j : Nat} (hj : k ≤ j) {z : Int} (hz : K[j]? = some z) : nb ≤ z := by
  obtain ⟨h1, rfl⟩ := List.getElem?_eq_some_iff.1 hk
  obtain ⟨h2, rfl⟩ := List.getElem?_eq_some_iff.1 hz
  by_cases e : k = j
  · subst e
    exact hy
  · have := List.pairwise_iff_getElem.1 hr k j h1 h2 (by omega)
    omega

set_option maxRecDepth 100000 in
set_option maxHeartbeats 4000000 in
theorem delete_any (v : Value) (K : List Int) (nb : Int) (g base : Nat) (w : World) (hO : OwnI w base v K) (hl : K.length ≤ 1000) (hb : base ≤ w.heap.size) (h : Cl w g (.int .i64 nb) 3) (hr : K.Pairwise (fun a b => a < b)) : Calls Try.prog 44 #[v, .func (.func 47) #[] #[.pointer (some ⟨g, 0, none⟩)]] w fun e w' =>
    ∃ v', e = .returned v' ∧ Rd w' v' (K.filter (fun x => decide (x < nb))) ∧ Below base w w' := by
  have e47 := enter47
  obtain ⟨a, cap, rfl⟩ := hO.form
  have HO : Hid (OwnI w base (.slice a K.length cap) K) := hO
  have HC : Hid (Cl w g (.int .i64 nb) 3) := h
  have Hr : Hid (K.Pairwise (fun a b => a < b)) := hr
  have Hb : Hid (base ≤ w.heap.size) := hb
  have k60 := index_any _ K nb g w (hO.rd hl) h
  clear hO h hr hb
  by_cases hex : ∃ (k : Nat) (y : Int), K[k]? = some y ∧ nb ≤ y ∧ ∀ x ∈ K.take k, x < nb
  · obtain ⟨k, y, hk, hy, hlt⟩ := hex
    have Hkk : Hid (K[k]? = some y) := hk
    have Hy : Hid (nb ≤ y) := hy
    have K60 : Hid (Calls Try.prog 60 #[.slice a K.length cap, .func (.func 47) #[] #[.pointer (some ⟨g, 0, none⟩)]] w fun e w' => e = .returned (.int .i64 (k : Int)) ∧ w' = w) := by
      refine k60.mono ?_
      rintro e w' ⟨⟨k', y', rfl, hk', hy', hlt'⟩ | ⟨_, hall⟩, rfl⟩
      · refine ⟨?_, rfl⟩
        have : k' = k := by
          rcases Nat.lt_trichotomy k' k with h | h | h
          · have := hlt y' (by rw [List.mem_iff_getElem?]; exact ⟨k', by rw [List.getElem?_take, if_pos h]; exact hk'⟩)
            omega
          · exact h
          · have := hlt' y (by rw [List.mem_iff_getElem?]; exact ⟨k, by rw [List.getElem?_take, if_pos h]; exact hk⟩)
            omega
        rw [this]
      · have := hall y (List.mem_of_getElem? hk)
        omega
    have hkl : k < K.length := (List.getElem?_eq_some_iff.1 hk).1
    have Hf : Hid (K.filter (fun x => decide (x < nb)) = K.take k) := filter_take Hr.out hk hy hlt
    obtain ⟨gr, rfl, hgb, hcap⟩ : ∃ gr, a = some ⟨gr, 0, none⟩ ∧ base ≤ gr ∧ K.length ≤ cap := by
      rcases HO.out.2 with ⟨h0, h1⟩ | ⟨gr, cap', cur, e, h1, _, h3, _⟩
      · omega
      · cases e
        exact ⟨gr, rfl, h1, h3⟩
    have hkE : ((k : Int) == -1) = false := by simp; try omega
    have Hgb : Hid (base ≤ gr) := hgb
    clear hk hy hlt k60 hgb
    go_enter Try.func44, Try.ntmps44
    go_wp2_with (first
      | (go_at_call 60; refine K60.out.mono ?_; rintro e w1 ⟨rfl, hw⟩; rw [hw]; clear hw w1))
    go_loopw [5, 6] (fun i0 i wr => ∃ j : Nat, k < j ∧ j ≤ K.length ∧ i0 = .int .i64 k ∧ i = .int .i64 j ∧ wr = w) (fun _ i _ => K.length - (Go.RowKit.intOf i).toNat)
    case atStart => exact ⟨k + 1, by omega, by omega, rfl, by go_num, rfl⟩
    case round =>
      obtain ⟨j, hkj, hj, rfl, rfl, rfl⟩ := hrel
      by_cases hjl : j < K.length
      · have hjlI : (j : Int) < (K.length : Int) := by omega
        obtain ⟨z, hz⟩ : ∃ z, K[j]? = some z := ⟨_, List.getElem?_eq_getElem hjl⟩
        have hge := filter_ge Hr.out Hkk.out Hy.out (by omega) hz
        have hcell := (HO.out.at hz).1
        have hd : decide (nb ≤ z) = true := decide_eq_true hge
        clear hz hge
        go_wp2_with (first
          | (go_at_fn 47; refine (del_any z nb g _ HC.out).mono ?_; rintro e w' ⟨rfl, hw⟩; rw [hw, hd]; clear hw w'))
        go_roundw
        case rel => exact ⟨j + 1, by omega, by omega, rfl, by go_num, trivial⟩
        case measure => simp [Go.RowKit.intOf]; omega
      · have hjlI : ¬ (j : Int) < (K.length : Int) := by omega
        obtain ⟨n3, hn3⟩ : ∃ n3, K.length - k = n3 := ⟨_, rfl⟩
        obtain ⟨c3, hc3⟩ : ∃ c3, cap - k = c3 := ⟨_, rfl⟩
        have hKI : (k : Int) ≤ (K.length : Int) := by omega
        have hKc : (k : Int) ≤ (cap : Int) := by omega
        have hKcn : k ≤ cap := by omega
        have hne : ¬ cap = k := by omega
        have hcl : ∀ ty, (Builtin.clear_ #[23] ty #[.slice (some ⟨gr, k, none⟩) n3 c3]).run Try.prog wr = .ok (.tuple #[]) (wr.setCells gr k (List.replicate n3 (.int .i64 0))) := by
          intro ty
          have hat : ∀ j, j < n3 → ∃ z, K[k + j]? = some z := fun j hj => ⟨_, List.getElem?_eq_getElem (by omega)⟩
          exact Lib.run_clear_slice wr 23 3 ty (.int .i64 0) Try.underlying23 (fun w => rfl) rfl rfl gr k n3 c3 (by omega) (fun j hj => by obtain ⟨z, hz⟩ := hat j hj; rw [(HO.out.at hz).1]; rfl) (fun j hj => by obtain ⟨z, hz⟩ := hat j hj; exact (HO.out.at hz).2.1)
        go_wp2
        go_ret
        refine ⟨_, rfl, ?_, below_cells Hgb.out _ _ (Below.refl _ _)⟩
        rw [Hf.out]
        have hlK : (K.take k).length = k := by rw [List.length_take]; omega
        refine ⟨by simp, by omega, some ⟨gr, 0, none⟩, cap, by rw [hlK]; rfl, by omega, .inr ⟨gr, 0, rfl, ?_, fun j u hj => ?_⟩⟩
        · have e1 := (World.ownsRow.lt HO.out gr rfl).2
          have e2 := (below_cells (B := 0) (Nat.zero_le gr) (List.replicate n3 (Value.int .i64 0)) k (Below.refl 0 wr)).size
          omega
        · rw [List.getElem?_map] at hj
          obtain ⟨z, hz, rfl⟩ := Option.map_eq_some_iff.1 hj
          rw [List.getElem?_take] at hz
          split at hz
          · rw [World.cell?_setCells_out gr _ _ _ _ (fun _ _ => .inl (by show 0 + j < k; omega)), Nat.zero_add]
            exact (HO.out.at hz).1
          · cases hz
  · have hall : ∀ x ∈ K, x < nb := by
      have key : ∀ m, ∀ x ∈ K.take m, x < nb := by
        intro m
        induction m with
        | zero => simp
        | succ m ih =>
          intro x hx
          by_cases hm : m < K.length
          · have hm2 := List.getElem?_eq_getElem hm
            rw [take_next hm2, List.mem_append, List.mem_singleton] at hx
            rcases hx with hx | rfl
            · exact ih x hx
            · by_cases h : nb ≤ K[m]
              · exact absurd ⟨m, K[m], hm2, h, ih⟩ hex
              · omega
          · rw [List.take_of_length_le (by omega)] at hx
            exact ih x (by rw [List.take_of_length_le (by omega)]; exact hx)
      intro x hx
      exact key K.length x (by rw [List.take_length]; exact hx)
    have K60 : Hid (Calls Try.prog 60 #[.slice a K.length cap, .func (.func 47) #[] #[.pointer (some ⟨g, 0, none⟩)]] w fun e w' => e = .returned (.int .i64 (-1)) ∧ w' = w) := by
      refine k60.mono ?_
      rintro e w' ⟨⟨k', y', rfl, hk', hy', hlt'⟩ | ⟨rfl, _⟩, rfl⟩
      · exact absurd ⟨k', y', hk', hy', hlt'⟩ hex
      · exact ⟨rfl, rfl⟩
    have Hf : Hid (K.filter (fun x => decide (x < nb)) = K) := List.filter_eq_self.2 (fun x hx => decide_eq_true (hall x hx))
    clear k60 hex hall
    go_enter Try.func44, Try.ntmps44
    go_wp2_with (first
      | (go_at_call 60; refine K60.out.mono ?_; rintro e w1 ⟨rfl, hw⟩; rw [hw]; clear hw w1))
    exact bodyPost_ret (results_tmp rfl _ _ _) rfl ⟨_, rfl, by rw [Hf.out]; exact HO.out.rd hl, Below.refl _ _⟩
end Go.Proofs.Ytgcdhenbpkcmgaa
