/- Layer 11: a set's blocks, sorted. -/
import Derived.Test.YtgcdhenbpkcmgaaLay
import Derived.Test.YtgcdhenbpkcmgaaArd
namespace Go.Proofs.Ytgcdhenbpkcmgaa
open Go.RowKit Go.Maps Go.Sort Go.Shelf
set_option linter.unusedVariables false

theorem int_keys {es : List (Lit × DataW Unit)} (hk : ∀ p ∈ es, ∃ x, p.1 = .int .i64 x) (x : Int) : x ∈ intKeys (.map es) ↔ has (.map es) (.int .i64 x) = true := by
  rw [has_eq, List.any_eq_true]
  show x ∈ es.map (fun p => Go.intOf p.1) ↔ _
  rw [List.mem_map]
  constructor
  · rintro ⟨p, hp, rfl⟩
    obtain ⟨a, ha⟩ := hk p hp
    exact ⟨p, hp, by rw [ha]; simp [Lit.sameKey, Go.intOf]⟩
  · rintro ⟨p, hp, hs⟩
    obtain ⟨a, ha⟩ := hk p hp
    rw [ha] at hs
    exact ⟨p, hp, by rw [ha]; simpa [Lit.sameKey, Go.intOf] using hs⟩
theorem rising_of {l : List Int} (h : l.Pairwise (fun a b => a ≤ b)) (hn : l.Nodup) : l.Pairwise (fun a b => a < b) := by
  induction l with
  | nil => exact .nil
  | cons a l ih =>
    rw [List.pairwise_cons] at h ⊢
    rw [List.nodup_cons] at hn
    refine ⟨fun b hb => ?_, ih h.2 hn.2⟩
    have h1 := h.1 b hb
    have h2 : a ≠ b := fun e => hn.1 (e ▸ hb)
    omega
/-- maps.Keys of a set. -/
theorem keys_any (b : Nat) (w : World) : Calls Try.prog 46 #[.map (some b)] w fun e w' => e = .returned (.func (.func 63) #[] #[.pointer (some ⟨w.heap.size, 0, none⟩)]) ∧ w' = w.alloc (.cells #[.map (some b)] 76) := callsIn_wide.1 (AnyZI.keys_in keysA Fence.wide 5 trivial rfl (some b) w)
set_option maxRecDepth 100000 in
set_option maxHeartbeats 1000000 in
/-- slices.Sorted of what maps.Keys hands back. -/
theorem sorted_any (b : Nat) (l : List Int) (w : World) (h : St w b l) (hl : l.length ≤ 100000) : Calls Try.prog 45 #[.func (.func 63) #[] #[.pointer (some ⟨w.heap.size, 0, none⟩)]] (w.alloc (.cells #[.map (some b)] 76)) fun e w' =>
    ∃ v K, e = .returned v ∧ OwnI w' (w.alloc (.cells #[.map (some b)] 76)).heap.size v K ∧ (∀ x, x ∈ K ↔ x ∈ l) ∧ K.Pairwise (fun a b => a < b) ∧ Below (w.alloc (.cells #[.map (some b)] 76)).heap.size (w.alloc (.cells #[.map (some b)] 76)) w' := by
  have hbl := h.lt
  obtain ⟨D, hown, hD⟩ := h
  have hsz := hown.size_le
  have hseq : SeqGives Fence.wide 2 Try.prog 63 #[.pointer (some ⟨w.heap.size, 0, none⟩)] encZ (fun ss => ss.Perm (intKeys D)) (Maps.size D) (w.alloc (.cells #[.map (some b)] 76)) :=
    AnyZI.keys_gives (ρ := keysARen) { keysA with } Fence.wide _ trivial rfl (by omega) w.heap.size b l.length D _ (by simp) (by simp) (by
      obtain ⟨es, clock, hb, Ft, hs, hD⟩ := hown
      exact ⟨es, clock, (Below.heap_alloc _ _ b hbl).trans hb, Ft, hs, hD⟩)
  have cS := AnyZI.sorted_in sortedA Fence.wide 5 trivial trivial trivial trivial rfl (by omega) (sortsA _) (enters_of Try.func62 (by kernel_rfl) rfl) 63 #[.pointer (some ⟨w.heap.size, 0, none⟩)] trivial (enters_of Try.func63 (by kernel_rfl) rfl) _ _ (by unfold maxLen; omega) (by omega) _ hseq
  change CallsIn _ _ Try.prog 45 _ _ _ at cS
  refine (callsIn_wide.1 cS).mono ?_
  rintro e w' ⟨v, ss, rfl, hS, hrow, hnil, hb⟩
  obtain ⟨es, hDe, hpw, _⟩ := hown.entries (int_keyed Try.underlying3)
  obtain ⟨es', hD', hko⟩ := hown.keysOf
  obtain rfl : es = es' := by rw [hDe] at hD'; simpa using hD'
  subst hDe
  have hk : ∀ p ∈ es, ∃ x, p.1 = .int .i64 x := fun p hp => by
    obtain ⟨v, hv⟩ := hko p hp
    obtain ⟨x, _, hx, _⟩ := Maps.keyOf_i64 Try.underlying3 hv
    exact ⟨x, hx⟩
  have hnd : (intKeys (.map es)).Nodup := by
    show (es.map fun p => Go.intOf p.1).Nodup
    refine List.pairwise_map.2 (hpw.imp_of_mem fun {p q} hp' hq' hne e => hne ?_)
    obtain ⟨a, ha⟩ := hk p hp'
    obtain ⟨b, hb⟩ := hk q hq'
    rw [ha, hb] at e ⊢
    exact congrArg _ e
  have hp2 : (ss.mergeSort fun x y => decide (x ≤ y)).Perm (intKeys (.map es)) := (List.mergeSort_perm ss _).trans hS
  have tr : ∀ a b c : Int, decide (a ≤ b) = true → decide (b ≤ c) = true → decide (a ≤ c) = true := fun a b c h1 h2 => by simp only [decide_eq_true_eq] at *; omega
  have to : ∀ a b : Int, (decide (a ≤ b) || decide (b ≤ a)) = true := fun a b => by simp only [Bool.or_eq_true, decide_eq_true_eq]; omega
  refine ⟨v, ss.mergeSort fun x y => decide (x ≤ y), rfl, ?_, fun x => ?_, ?_, hb⟩
  · unfold OwnI
    rw [List.length_mergeSort]
    exact hrow
  · rw [hp2.mem_iff, int_keys hk, hD x, decide_eq_true_iff]
  · exact rising_of ((List.pairwise_mergeSort tr to ss).imp (fun {a b} h => of_decide_eq_true h)) (hp2.nodup_iff.2 hnd)
theorem sorted_at (b : Nat) (l : List Int) (w : World) (h : St w b l) (hl : l.length ≤ 100000) (n : Nat) (hn : n = w.heap.size) : Calls Try.prog 45 #[.func (.func 63) #[] #[.pointer (some ⟨n, 0, none⟩)]] (w.alloc (.cells #[.map (some b)] 76)) fun e w' =>
    ∃ v K, e = .returned v ∧ OwnI w' (w.alloc (.cells #[.map (some b)] 76)).heap.size v K ∧ (∀ x, x ∈ K ↔ x ∈ l) ∧ K.Pairwise (fun a b => a < b) ∧ Below (w.alloc (.cells #[.map (some b)] 76)).heap.size (w.alloc (.cells #[.map (some b)] 76)) w' := by
  subst hn
  exact sorted_any b l w h hl
end Go.Proofs.Ytgcdhenbpkcmgaa
