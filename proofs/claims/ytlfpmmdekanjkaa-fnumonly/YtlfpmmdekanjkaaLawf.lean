/- Walks of layer 1's statements: each key is that of one number. -/
import Derived.Test.YtlfpmmdekanjkaaLawc
import Derived.Deep.RegionHeld3
namespace Go.Proofs.Ytlfpmmdekanjkaa
open Go.RowKit

theorem convert_later {base : Nat} {w w2 : World} {v : Value} {n : Nat} {xs : List Int} (h : w.ownsRow base 5 1 v n (xs.map (Value.int .u8))) (hb : Below w.heap.size w w2) :
    (convert 32 9 v).run Try.prog w2 = .ok (.string (strOfNums xs)) w2 := by
  refine run_convert_owned (P := Try.prog) (base := base) 32 9 Try.underlying32 Try.underlying5 Try.underlying9 (n := n) ?_
  refine ⟨h.1, ?_⟩
  rcases h.2 with h1 | ⟨g, cap, cur, e1, e2, e3, e4⟩
  · exact .inl h1
  · have hg : g < w.heap.size := by
      rcases Nat.lt_or_ge g w.heap.size with h | h
      · exact h
      · rw [Array.getElem?_eq_none h] at e3; cases e3
    exact .inr ⟨g, cap, cur, e1, e2, by rw [hb.block g hg]; exact e3, e4⟩

set_option maxRecDepth 100000 in
set_option maxHeartbeats 1000000 in
theorem walk_FnumOnly (n : Int) (w : World) (wn : (Lit.int .u64 n).wf = true) :
    Calls Try.prog 6 #[.int .u64 n] w fun e w' => e = .returned (.bool true) ∧ Below w.heap.size w w' := by
  have hr : 0 ≤ n ∧ n < 18446744073709551616 := by
    simp only [Lit.wf, IntKind.min, IntKind.max, IntKind.signed, IntKind.bits] at wn
    simp at wn
    omega
  clear wn
  have hd := dv_bd n hr.1 hr.2
  obtain ⟨i0, hi, hz0, hz1, hz2⟩ := info_parts Try.info5
  go_enter Try.func6, Try.ntmps6
  go_wp2_with (first
    | (go_at_call 10; refine (awake_any _).mono ?_; rintro e w1 ⟨rfl, hb1⟩))
  go_loopw [0, 4, 5] (fun t3 t4 t5 w1 => ∃ k : Nat, k ≤ 8 ∧ t5 = .int .i64 k ∧ t3 = .int .u64 (dv n k) ∧ w1.ownsRow w.heap.size 5 1 t4 k ((lastB n k).map (Value.int .u8)) ∧ Below w.heap.size w w1) (fun _ _ t5 _ => 8 - (intOf t5).toNat)
  case atStart => exact ⟨0, by omega, rfl, rfl, World.ownsRow_nil _ _ _ _, by assumption⟩
  case round =>
    obtain ⟨k, hk, rfl, rfl, hown, hbel⟩ := hrel
    obtain ⟨d0, d1⟩ := hd k
    clear hd
    by_cases hlt : k < 8
    · have hsz := hbel.size
      go_wp2_with (first | (at_builtin; refine wpList_append_two rfl _ _ 32 rfl w.heap.size w.heap.size 5 i0 (.int .u8 0) 1 1 Try.underlying32 hi hz0 hz1 hz2 rfl (by decide) (.slice (some ⟨wr.heap.size, 0, none⟩) 1 1) 1 [.int .u8 (dv n k % 256)] rfl (by exact World.ownsRow_lit _ _ 1 (by omega) (by unfold maxLen; omega) rfl) _ k _ rfl (hown.alloc _) (fun u hu => by obtain ⟨y, _, rfl⟩ := List.mem_map.1 hu; rfl) (by unfold maxLen; omega) (by omega) (by simp; omega) ?_; intro v' w3 hown' hgrow3))
      have hb3 : Below w.heap.size w w3 := (hbel.alloc hsz _).grown hgrow3 (by simp; omega) (by intro j hj; cases hj; exact hsz)
      rw [Nat.add_comm 1 k] at hown'
      exact ⟨⟨k + 1, by omega, by go_num, rfl, hown', hb3⟩, by simp [intOf]; omega⟩
    · have : k = 8 := by omega
      subst this
      clear d0 d1 hlt hk
      rw [lastB_8] at hown
      have hcv : (convert 32 9 u4).run Try.prog wr = .ok (.string (keyB n)) wr := convert_later hown (Below.refl _ _)
      have k1 : backN (keyB n) = bk n := backN_keyB n hr.1 hr.2
      have k2 := backB_keyB n
      have k3 := rk_bk n hr.1 hr.2
      have k4 := bk_bd n hr.1 hr.2
      go_wp2_with (first
        | (go_at_call 11; refine (back_any _ _).mono ?_; rintro e w' ⟨rfl, hw⟩; rw [hw]; clear hw w'))
      have hkeep : ∀ w2, Below wr.heap.size wr w2 → (Below wr.heap.size wr w2 ∧ (convert 32 9 u4).run Try.prog w2 = .ok (.string (keyB n)) w2) := fun w2 h => ⟨h, convert_later hown h⟩
      have HK : Hid (∀ w2, Below wr.heap.size wr w2 → (Below wr.heap.size wr w2 ∧ (convert 32 9 u4).run Try.prog w2 = .ok (.string (keyB n)) w2)) := hkeep
      clear hkeep hcv
      go_region_held3 (fun w2 => Below wr.heap.size wr w2 ∧ (convert 32 9 u4).run Try.prog w2 = .ok (.string (keyB n)) w2)
        (first | exact HK.out _ (Below.refl _ _).drew | (refine HK.out _ (bstep ?_ (by assumption)); first | exact (Below.refl _ _).drew | (refine And.left ?_; assumption)))
        (first | (go_at_call 19; refine (key_any _ k4 _).mono ?_; rintro e w' ⟨rfl, hb2⟩))
      go_wp2
      go_ret
      refine ⟨rfl, bstep hbel ?_⟩
      first | assumption | (apply And.left; assumption) | (refine bstep ?_ (by assumption); first | assumption | (apply And.left; assumption) | exact (Below.refl _ _).drew)
end Go.Proofs.Ytlfpmmdekanjkaa
