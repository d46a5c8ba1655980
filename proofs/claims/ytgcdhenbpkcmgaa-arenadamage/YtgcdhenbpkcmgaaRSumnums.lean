/- Set over from a lower layer: Sumnums. -/
import Derived.Test.YtgcdhenbpkcmgaaSSumz
import Derived.Test.YtgcdhenbpkcmgaaBase
namespace Go.Proofs.Ytgcdhenbpkcmgaa.Sm
theorem mv_inj0 {x : Nat} (h : x < 4294967296) (e : mv x = 0) : x = 0 := by
  rcases Nat.mod_two_eq_zero_or_one x with hx | hx
  · rw [mv_even hx] at e; omega
  · rw [mv_odd hx] at e
    have : x / 2 = 3988292384 := by
      have := congrArg (· ^^^ 3988292384) e
      simpa [Nat.xor_assoc] using this
    omega
theorem mvs_inj0 (k : Nat) {x : Nat} (h : x < 4294967296) (e : mvs k x = 0) : x = 0 := by
  induction k with
  | zero => exact e
  | succ k ih => exact ih (mv_inj0 (mvs_lt k h) e)
theorem xor_eq0 {a b : Nat} (h : a ^^^ b = 0) : a = b := by
  have := congrArg (· ^^^ b) h
  simpa [Nat.xor_assoc] using this
theorem mvs_inj (k : Nat) {x y : Nat} (hx : x < 4294967296) (hy : y < 4294967296) (e : mvs k x = mvs k y) : x = y := by
  have h : mvs k (x ^^^ y) = 0 := by rw [mvs_xor, e, Nat.xor_self]
  exact xor_eq0 (mvs_inj0 k (Nat.xor_lt_two_pow (n := 32) hx hy) h)
theorem byF_xor (a b c d : Nat) : byF (a ^^^ b) (c ^^^ d) = byF a c ^^^ byF b d := by
  unfold byF
  rw [xor_swap, mvs_xor]
theorem byF_inj {c d b : Nat} (hc : c < 4294967296) (hd : d < 4294967296) (hb : b < 256) (e : byF c b = byF d b) : c = d := by
  have := mvs_inj 8 (Nat.xor_lt_two_pow (n := 32) hc (by omega)) (Nat.xor_lt_two_pow (n := 32) hd (by omega)) e
  have := congrArg (· ^^^ b) this
  simpa [Nat.xor_assoc] using this
theorem wdU_succ (c n k : Nat) : wdU c n (k + 1) = byF (wdU c n k) (bt n k) := rfl
theorem bt_xor (m n i : Nat) : bt (m ^^^ n) i = bt m i ^^^ bt n i := by
  unfold bt
  rw [Nat.xor_div_two_pow, show (256 : Nat) = 2 ^ 8 by rfl, Nat.xor_mod_two_pow]
theorem wdU_xor (a b m n k : Nat) : wdU (a ^^^ b) (m ^^^ n) k = wdU a m k ^^^ wdU b n k := by
  induction k with
  | zero => rfl
  | succ k ih => rw [wdU_succ, ih, bt_xor, byF_xor]; rfl
theorem wd_xor (a b m n : Nat) : wd (a ^^^ b) (m ^^^ n) = wd a m ^^^ wd b n := wdU_xor a b m n 8
theorem wdU_inj {c d : Nat} (n k : Nat) (hc : c < 4294967296) (hd : d < 4294967296) (e : wdU c n k = wdU d n k) : c = d := by
  induction k with
  | zero => exact e
  | succ k ih => exact ih (byF_inj (wdU_lt n k hc) (wdU_lt n k hd) (bt_lt _ _) e)
theorem wd_inj {c d : Nat} (n : Nat) (hc : c < 4294967296) (hd : d < 4294967296) (e : wd c n = wd d n) : c = d := wdU_inj n 8 hc hd e
theorem goF_inj {c d : Nat} (l : List Int) (hc : c < 4294967296) (hd : d < 4294967296) (e : goF c l = goF d l) : c = d := by
  induction l generalizing c d with
  | nil => exact e
  | cons z l ih => exact wd_inj _ hc hd (ih (wd_lt _ hc) (wd_lt _ hd) e)
theorem ofF_eq {l m : List Int} : ofF l = ofF m ↔ goF 4294967295 l = goF 4294967295 m := by
  have h1 := goF_lt l (show 4294967295 < 4294967296 by omega)
  have h2 := goF_lt m (show 4294967295 < 4294967296 by omega)
  unfold ofF
  omega
/-- Lists that differ at one place alone, by what turns no check to itself. -/
theorem ofF_set (l : List Int) (k : Nat) (z : Int) (hk : k < l.length) (h : wd 0 (u64 l[k] ^^^ u64 z) ≠ 0) : ofF l ≠ ofF (l.set k z) := by
  intro e
  rw [ofF_eq] at e
  have hs : l.set k z = l.take k ++ z :: l.drop (k + 1) := List.set_eq_take_append_cons_drop .. |>.trans (if_pos hk)
  have hl : l = l.take k ++ l[k] :: l.drop (k + 1) := by simp
  rw [hs, goF_append] at e
  conv at e => lhs; rw [hl, goF_append]
  have hc : goF 4294967295 (l.take k) < 4294967296 := goF_lt _ (by omega)
  have e2 := goF_inj (l.drop (k + 1)) (wd_lt _ hc) (wd_lt _ hc) e
  apply h
  have := wd_xor (goF 4294967295 (l.take k)) (goF 4294967295 (l.take k)) (u64 l[k]) (u64 z)
  rw [Nat.xor_self] at this
  rw [this, e2, Nat.xor_self]
end Go.Proofs.Ytgcdhenbpkcmgaa.Sm
