/- Set over from a lower layer: Keynums. -/
import Derived.Test.YtgcdhenbpkcmgaaSSumz
import Derived.Test.YtgcdhenbpkcmgaaBase
import Derived.WalkKit
import Derived.Laws.BytesArg
namespace Go.Proofs.Ytgcdhenbpkcmgaa.Ky
/-- The byte at i, 0 behind the end. -/
def byt (l : List UInt8) (i : Nat) : Int := ((l[i]?.getD 0).toNat : Int)
theorem byt_bd (l : List UInt8) (i : Nat) : 0 ≤ byt l i ∧ byt l i < 256 := by
  unfold byt; have := UInt8.toNat_lt (l[i]?.getD 0); omega
theorem byt_out (l : List UInt8) (i : Nat) (h : l.length ≤ i) : byt l i = 0 := by
  unfold byt; rw [List.getElem?_eq_none h]; rfl
theorem byt_in (l : List UInt8) (i : Nat) (h : i < l.length) : byt l i = (l[i].toNat : Int) := by
  unfold byt; rw [List.getElem?_eq_getElem h]; rfl
theorem byt_ext (l m : List UInt8) (hl : l.length = m.length) (h : ∀ i, i < l.length → byt l i = byt m i) : l = m := by
  apply List.ext_getElem hl
  intro i h1 h2
  have := h i h1
  rw [byt_in l i h1, byt_in m i h2] at this
  exact UInt8.toNat_inj.1 (by omega)
/-- The number of the first k of some bytes. -/
def w7 (f : Nat → Int) : Nat → Int
  | 0 => 0
  | k + 1 => w7 f k * 256 + f k
theorem w7_congr (f g : Nat → Int) : ∀ k, (∀ j, j < k → f j = g j) → w7 f k = w7 g k
  | 0, _ => rfl
  | k + 1, h => by
    show w7 f k * 256 + f k = w7 g k * 256 + g k
    rw [w7_congr f g k (fun j hj => h j (by omega)), h k (by omega)]
theorem w7_bd (f : Nat → Int) (h : ∀ j, 0 ≤ f j ∧ f j < 256) : ∀ k, 0 ≤ w7 f k ∧ w7 f k < 256 ^ k
  | 0 => by simp [w7]
  | k + 1 => by
    have := w7_bd f h k
    have := h k
    show 0 ≤ w7 f k * 256 + f k ∧ w7 f k * 256 + f k < 256 ^ (k + 1)
    rw [Int.pow_succ]; omega
theorem w7_lt (f : Nat → Int) (h : ∀ j, 0 ≤ f j ∧ f j < 256) (k : Nat) (hk : k ≤ 7) : 0 ≤ w7 f k ∧ w7 f k < 72057594037927936 := by
  have h1 := w7_bd f h k
  have h2 : (256 : Nat) ^ k ≤ 256 ^ 7 := Nat.pow_le_pow_right (by omega) hk
  have h3 : (256 : Nat) ^ 7 = 72057594037927936 := rfl
  have h4 : (256 : Int) ^ k = ((256 ^ k : Nat) : Int) := (Int.natCast_pow 256 _).symm
  rw [h4] at h1
  rw [h3] at h2
  generalize (256 : Nat) ^ k = p at *
  omega
theorem w7_lt6 (f : Nat → Int) (h : ∀ j, 0 ≤ f j ∧ f j < 256) (k : Nat) (hk : k ≤ 6) : 0 ≤ w7 f k ∧ w7 f k < 281474976710656 := by
  have h1 := w7_bd f h k
  have h2 : (256 : Nat) ^ k ≤ 256 ^ 6 := Nat.pow_le_pow_right (by omega) hk
  have h3 : (256 : Nat) ^ 6 = 281474976710656 := rfl
  have h4 : (256 : Int) ^ k = ((256 ^ k : Nat) : Int) := (Int.natCast_pow 256 _).symm
  rw [h4] at h1
  rw [h3] at h2
  generalize (256 : Nat) ^ k = p at *
  omega
/-- The word of a piece. -/
def wP (p : ByteArray) : Int := w7 (byt p.data.toList) 7
/-- How many words n bytes have. -/
def nW (n : Nat) : Nat := (n + 6) / 7
/-- The word at i of a text. -/
def wAt (l : List UInt8) (i : Nat) : Int := w7 (fun j => byt l (7 * i + j)) 7
theorem wAt_bd (l : List UInt8) (i : Nat) : 0 ≤ wAt l i ∧ wAt l i < 72057594037927936 := w7_lt _ (fun _ => byt_bd _ _) 7 (by omega)
/-- The words of a text, the first k. -/
def wUp (l : List UInt8) (k : Nat) : List Int := (List.range k).map (wAt l)
theorem wUp_length (l : List UInt8) (k : Nat) : (wUp l k).length = k := by simp [wUp]
/-- The words of a text. -/
def wsl (l : List UInt8) : List Int := wUp l (nW l.length)
theorem wsl_length (l : List UInt8) : (wsl l).length = nW l.length := wUp_length _ _
theorem wsl_get (l : List UInt8) (i : Nat) (h : i < nW l.length) : (wsl l)[i]? = some (wAt l i) := by
  unfold wsl wUp; rw [List.getElem?_map, List.getElem?_range h]; rfl
theorem wUp_bd (l : List UInt8) (k : Nat) : ∀ z ∈ wUp l k, 0 ≤ z ∧ z < 72057594037927936 := by
  intro z hz
  obtain ⟨i, _, rfl⟩ := List.mem_map.1 hz
  exact wAt_bd l i
/-- The byte at j of a word. -/
def bt (w : Int) (j : Nat) : Int := w / 2 ^ (8 * (6 - j)) % 256
theorem bt_bd (w : Int) (j : Nat) : 0 ≤ bt w j ∧ bt w j < 256 := by unfold bt; omega
theorem lt7 {j : Nat} (h : j < 7) : j = 0 ∨ j = 1 ∨ j = 2 ∨ j = 3 ∨ j = 4 ∨ j = 5 ∨ j = 6 := by omega
theorem w7_7 (f : Nat → Int) : w7 f 7 = ((((((f 0 * 256 + f 1) * 256 + f 2) * 256 + f 3) * 256 + f 4) * 256 + f 5) * 256 + f 6) := by
  simp [w7]
theorem bt_w7 (f : Nat → Int) (h : ∀ j, 0 ≤ f j ∧ f j < 256) (j : Nat) (hj : j < 7) : bt (w7 f 7) j = f j := by
  rw [w7_7]
  have h0 := h 0; have h1 := h 1; have h2 := h 2; have h3 := h 3; have h4 := h 4; have h5 := h 5; have h6 := h 6
  unfold bt
  rcases lt7 hj with rfl | rfl | rfl | rfl | rfl | rfl | rfl <;> simp only [Nat.reduceSub, Nat.reduceMul, Int.reducePow] <;> omega
/-- The first k bytes of a word. -/
def bUp (w : Int) (k : Nat) : List Int := (List.range k).map (bt w)
theorem bUp_succ (w : Int) (k : Nat) : bUp w (k + 1) = bUp w k ++ [bt w k] := by simp [bUp, List.range_succ]
theorem bUp_length (w : Int) (k : Nat) : (bUp w k).length = k := by simp [bUp]
/-- The bytes of words. -/
def txB : List Int → List Int
  | [] => []
  | w :: l => bUp w 7 ++ txB l
theorem txB_append (l m : List Int) : txB (l ++ m) = txB l ++ txB m := by
  induction l with
  | nil => rfl
  | cons w l ih => show bUp w 7 ++ txB (l ++ m) = (bUp w 7 ++ txB l) ++ txB m; rw [ih, List.append_assoc]
theorem txB_length (l : List Int) : (txB l).length = 7 * l.length := by
  induction l with
  | nil => rfl
  | cons w l ih => show (bUp w 7 ++ txB l).length = _; rw [List.length_append, bUp_length, ih, List.length_cons]; omega
theorem txB_get (l : List Int) : ∀ (i j : Nat) (h : i < l.length), j < 7 → (txB l)[7 * i + j]? = some (bt l[i] j) := by
  induction l with
  | nil => intro i j h; simp at h
  | cons w l ih =>
    intro i j h hj
    show (bUp w 7 ++ txB l)[7 * i + j]? = _
    cases i with
    | zero =>
      rw [List.getElem?_append_left (by rw [bUp_length]; omega)]
      unfold bUp
      rw [Nat.mul_zero, Nat.zero_add, List.getElem?_map, List.getElem?_range hj]; rfl
    | succ i =>
      rw [List.getElem?_append_right (by rw [bUp_length]; omega), bUp_length, show 7 * (i + 1) + j - 7 = 7 * i + j by omega]
      rw [ih i j (by simpa using h) hj]; rfl
/-- The text of words, n bytes of it. -/
def tx (l : List Int) (n : Nat) : ByteArray := strOfNums ((txB l).take n)
def txL (l : List Int) (n : Nat) : List UInt8 := (tx l n).data.toList
theorem txL_length (l : List Int) (n : Nat) : (txL l n).length = min n (7 * l.length) := by
  unfold txL tx; rw [strOfNums_data, List.length_map, List.length_take, txB_length]
theorem byte_nat (x : Int) (h : 0 ≤ x ∧ x < 256) : ((UInt8.ofNat x.toNat).toNat : Int) = x := by
  rw [UInt8.toNat_ofNat']; omega
theorem txL_byt (l : List Int) (n i j : Nat) (h : i < l.length) (hj : j < 7) (hn : 7 * i + j < n) : byt (txL l n) (7 * i + j) = bt l[i] j := by
  unfold byt txL tx
  rw [strOfNums_data, List.getElem?_map, List.getElem?_take, if_pos hn, txB_get l i j h hj]
  exact byte_nat _ (bt_bd _ _)
/-- Whether words are those of a text of n bytes. -/
def okT (l : List Int) (n : Int) : Bool := decide (0 ≤ n ∧ nW n.toNat = l.length ∧ wsl (txL l n.toNat) = l)
def txS (l : List Int) (n : Int) : ByteArray := if okT l n then tx l n.toNat else ByteArray.empty
def txE (l : List Int) (n : Int) : Int := if okT l n then 0 else 20
theorem ba_ext {a b : ByteArray} (h : a.data.toList = b.data.toList) : a = b := by
  cases a with | mk a => cases b with | mk b => cases a; cases b; simp_all
/-- A text's words are turned to it again. -/
theorem tx_wsl (s : List UInt8) : txL (wsl s) s.length = s := by
  apply byt_ext
  · rw [txL_length, wsl_length]; unfold nW; omega
  · intro p hp
    rw [txL_length, wsl_length] at hp
    have hi : p / 7 < nW s.length := by unfold nW at *; omega
    have e : p = 7 * (p / 7) + p % 7 := by omega
    have hg := wsl_get s (p / 7) hi
    have hl : p / 7 < (wsl s).length := by rw [wsl_length]; exact hi
    rw [e, txL_byt (wsl s) s.length (p / 7) (p % 7) hl (by omega) (by omega)]
    rw [List.getElem?_eq_getElem hl] at hg
    rw [Option.some.inj hg]
    exact bt_w7 _ (fun _ => byt_bd _ _) _ (by omega)
theorem tx_of (s : ByteArray) : tx (wsl s.data.toList) s.size = s := ba_ext (by
  have := tx_wsl s.data.toList
  rwa [show s.data.toList.length = s.size from by simp] at this)
theorem okT_of (s : ByteArray) : okT (wsl s.data.toList) (s.size : Int) = true := by
  have := tx_wsl s.data.toList
  rw [show s.data.toList.length = s.size from by simp] at this
  refine decide_eq_true ⟨by omega, ?_, ?_⟩
  · rw [wsl_length, Int.toNat_natCast]; simp
  · rw [Int.toNat_natCast, this]
end Go.Proofs.Ytgcdhenbpkcmgaa.Ky
