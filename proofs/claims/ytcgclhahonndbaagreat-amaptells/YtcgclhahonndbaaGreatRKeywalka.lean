/- Set over from a lower layer: RKeynums. · Set over from a lower layer: RKeywalka. -/
import Derived.Test.YtcgclhahonndbaaGreatSSumz
import Derived.Test.YtcgclhahonndbaaGreatBase
import Derived.WalkKit
import Derived.Laws.BytesArg
import Derived.Deep.QuietTactic
import Derived.BigQuiet
import Derived.WalkSmall
import Derived.Laws.BitsAllLaws
import Derived.RangeFuncBox
import Derived.RangeFuncNested
import Derived.RangeFuncBound
import Derived.RangeFuncCalls
import Derived.RangeFuncLeaves
import Derived.Shelf.Abstract
import Derived.Shelf.RegionOpen
import Derived.OwnWalkIn
import Derived.TacticsInMore
import Derived.LoopNIn
import Derived.LoopIn
import Derived.Maps.AppendAt
namespace Go.Proofs.YtcgclhahonndbaaGreat.Ky
/-- The byte at i, 0 behind the end. -/
def byt (l : List UInt8) (i : Nat) : Int := ((l[i]?.getD 0).toNat : Int)
theorem byt_bd (l : List UInt8) (i : Nat) : 0 ≤ byt l i ∧ byt l i < 256 := by
  unfold byt; have := UInt8.toNat_lt (l[i]?.getD 0); omega
theorem byt_out (l : List UInt8) (i : Nat) (h : l.length ≤ i) : byt l i = 0 := by
  unfold byt; rw [List.getElem?_eq_none h]; rfl
theorem byt_in (l : List UInt8) (i : Nat) (h : i < l.length) : byt l i = (l[i].toNat : Int) := by
  unfold byt; rw [List.getElem?_eq_getElem h]; rfl
/-- The number of the first k of some bytes. -/
def w7 (f : Nat → Int) : Nat → Int
  | 0 => 0
  | k + 1 => w7 f k * 256 + f k
theorem w7_congr (f g : Nat → Int) : ∀ k, (∀ j, j < k → f j = g j) → w7 f k = w7 g k
  | 0, _ => rfl
  | k + 1, h => by
    show w7 f k * 256 + f k = w7 g k * 256 + g k
    rw [w7_congr f g k (fun j hj => h j (by omega)), h k (by omega)]
theorem w7_bd (f : Nat → Int) (h : ∀ j, 0 ≤ f j ∧ f j < 256) : ∀ k, 0 ≤ w7 f k ∧ w7 f k < 256 ^ k
  | 0 => by simp [w7]
  | k + 1 => by
    have := w7_bd f h k
    have := h k
    show 0 ≤ w7 f k * 256 + f k ∧ w7 f k * 256 + f k < 256 ^ (k + 1)
    rw [Int.pow_succ]; omega
theorem w7_lt (f : Nat → Int) (h : ∀ j, 0 ≤ f j ∧ f j < 256) (k : Nat) (hk : k ≤ 7) : 0 ≤ w7 f k ∧ w7 f k < 72057594037927936 := by
  have h1 := w7_bd f h k
  have h2 : (256 : Nat) ^ k ≤ 256 ^ 7 := Nat.pow_le_pow_right (by omega) hk
  have h3 : (256 : Nat) ^ 7 = 72057594037927936 := rfl
  have h4 : (256 : Int) ^ k = ((256 ^ k : Nat) : Int) := (Int.natCast_pow 256 _).symm
  rw [h4] at h1
  rw [h3] at h2
  generalize (256 : Nat) ^ k = p at *
  omega
theorem w7_lt6 (f : Nat → Int) (h : ∀ j, 0 ≤ f j ∧ f j < 256) (k : Nat) (hk : k ≤ 6) : 0 ≤ w7 f k ∧ w7 f k < 281474976710656 := by
  have h1 := w7_bd f h k
  have h2 : (256 : Nat) ^ k ≤ 256 ^ 6 := Nat.pow_le_pow_right (by omega) hk
  have h3 : (256 : Nat) ^ 6 = 281474976710656 := rfl
  have h4 : (256 : Int) ^ k = ((256 ^ k : Nat) : Int) := (Int.natCast_pow 256 _).symm
  rw [h4] at h1
  rw [h3] at h2
  generalize (256 : Nat) ^ k = p at *
  omega
/-- The word of a piece. -/
def wP (p : ByteArray) : Int := w7 (byt p.data.toList) 7
/-- How many words n bytes have. -/
def nW (n : Nat) : Nat := (n + 6) / 7
/-- The word at i of a text. -/
def wAt (l : List UInt8) (i : Nat) : Int := w7 (fun j => byt l (7 * i + j)) 7
theorem wAt_bd (l : List UInt8) (i : Nat) : 0 ≤ wAt l i ∧ wAt l i < 72057594037927936 := w7_lt _ (fun _ => byt_bd _ _) 7 (by omega)
/-- The words of a text, the first k. -/
def wUp (l : List UInt8) (k : Nat) : List Int := (List.range k).map (wAt l)
theorem wUp_length (l : List UInt8) (k : Nat) : (wUp l k).length = k := by simp [wUp]
/-- The words of a text. -/
def wsl (l : List UInt8) : List Int := wUp l (nW l.length)
theorem wsl_length (l : List UInt8) : (wsl l).length = nW l.length := wUp_length _ _
theorem wUp_bd (l : List UInt8) (k : Nat) : ∀ z ∈ wUp l k, 0 ≤ z ∧ z < 72057594037927936 := by
  intro z hz
  obtain ⟨i, _, rfl⟩ := List.mem_map.1 hz
  exact wAt_bd l i
/-- The byte at j of a word. -/
def bt (w : Int) (j : Nat) : Int := w / 2 ^ (8 * (6 - j)) % 256
/-- The first k bytes of a word. -/
def bUp (w : Int) (k : Nat) : List Int := (List.range k).map (bt w)
theorem bUp_succ (w : Int) (k : Nat) : bUp w (k + 1) = bUp w k ++ [bt w k] := by simp [bUp, List.range_succ]
theorem bUp_length (w : Int) (k : Nat) : (bUp w k).length = k := by simp [bUp]
/-- The bytes of words. -/
def txB : List Int → List Int
  | [] => []
  | w :: l => bUp w 7 ++ txB l
theorem txB_append (l m : List Int) : txB (l ++ m) = txB l ++ txB m := by
  induction l with
  | nil => rfl
  | cons w l ih => show bUp w 7 ++ txB (l ++ m) = (bUp w 7 ++ txB l) ++ txB m; rw [ih, List.append_assoc]
theorem txB_length (l : List Int) : (txB l).length = 7 * l.length := by
  induction l with
  | nil => rfl
  | cons w l ih => show (bUp w 7 ++ txB l).length = _; rw [List.length_append, bUp_length, ih, List.length_cons]; omega
/-- The text of words, n bytes of it. -/
def tx (l : List Int) (n : Nat) : ByteArray := strOfNums ((txB l).take n)
def txL (l : List Int) (n : Nat) : List UInt8 := (tx l n).data.toList
theorem txL_length (l : List Int) (n : Nat) : (txL l n).length = min n (7 * l.length) := by
  unfold txL tx; rw [strOfNums_data, List.length_map, List.length_take, txB_length]
/-- Whether words are those of a text of n bytes. -/
def okT (l : List Int) (n : Int) : Bool := decide (0 ≤ n ∧ nW n.toNat = l.length ∧ wsl (txL l n.toNat) = l)
def txS (l : List Int) (n : Int) : ByteArray := if okT l n then tx l n.toNat else ByteArray.empty
def txE (l : List Int) (n : Int) : Int := if okT l n then 0 else 20
theorem ba_ext {a b : ByteArray} (h : a.data.toList = b.data.toList) : a = b := by
  cases a with | mk a => cases b with | mk b => cases a; cases b; simp_all
end Go.Proofs.YtcgclhahonndbaaGreat.Ky
namespace Go.Proofs.YtcgclhahonndbaaGreat.Ky
open Go.RowKit
theorem ret_int {k : IntKind} {a b : Int} (h : a = b) : Ending.returned (.int k a) = .returned (.int k b) := by rw [h]
theorem ret_bool {a b : Bool} (h : a = b) : Ending.returned (.bool a) = .returned (.bool b) := by rw [h]
theorem bstep {w a b : World} (h : Below w.heap.size w a) (k : Below a.heap.size a b) : Below w.heap.size w b := h.trans (k.mono h.size)
/-- The slice v holds the ints zs. -/
def Rd (W : World) (v : Value) (zs : List Int) : Prop :=
  (∀ z ∈ zs, -9223372036854775808 ≤ z ∧ z < 9223372036854775808) ∧ zs.length ≤ 1000 ∧
  ∃ a cap, v = .slice a zs.length cap ∧ (zs = [] ∨ ∃ b off, a = some ⟨b, off, none⟩ ∧ b < W.heap.size ∧ ∀ j, j < zs.length → W.cell? ⟨b, off + j, none⟩ = some (.int .i64 (zs[j]?.getD 0)))
theorem Rd.below {W W' : World} {v : Value} {zs : List Int} (h : Rd W v zs) (hb : Below W.heap.size W W') : Rd W' v zs := by
  obtain ⟨h1, h2, a, cap, rfl, h3⟩ := h
  refine ⟨h1, h2, a, cap, rfl, ?_⟩
  rcases h3 with h | ⟨b, off, rfl, hlt, hc⟩
  · exact .inl h
  · exact .inr ⟨b, off, rfl, Nat.lt_of_lt_of_le hlt hb.size, fun j hj => (hb.cell (p := ⟨b, off + j, none⟩) hlt).trans (hc j hj)⟩
theorem Rd.at {W : World} {a : Option Addr} {n cap : Nat} {zs : List Int} (h : Rd W (.slice a n cap) zs) (k : Nat) (hk : k < zs.length) :
    ∃ b off, a = some ⟨b, off, none⟩ ∧ W.cell? ⟨b, off + k, none⟩ = some (.int .i64 (zs[k]?.getD 0)) := by
  obtain ⟨_, _, a', cap', e, h3⟩ := h
  cases e
  rcases h3 with rfl | ⟨b, off, rfl, _, hc⟩
  · simp at hk
  · exact ⟨b, off, rfl, hc k hk⟩
theorem empty_size (s : ByteArray) : s.toList.isEmpty = decide (s.size = 0) := by
  rw [ByteArray.toList_eq]
  cases s with | mk a => cases a with | mk l => cases l <;> simp [ByteArray.size]
def chk (s : ByteArray) : Bool := decide (1 ≤ s.size ∧ s.size ≤ 21)
def chkV (s : ByteArray) : Bool := decide (s.size ≤ 21)
theorem check_any (s : ByteArray) (w : World) : Calls Tryz.prog 54 #[.string s] w fun e w' => e = .returned (.bool (chk s)) ∧ w' = w := by
  have he := empty_size s
  unfold chk
  by_cases h : s.size = 0
  · have h2 : s.toList = [] := by rw [decide_eq_true h] at he; simpa using he
    clear he
    go_enter Tryz.func54, Tryz.ntmps54
    go_wp2
    go_ret
    exact ⟨ret_bool (by first | exact (decide_eq_false (by omega)).symm | (rw [decide_eq_decide]; omega)), rfl⟩
  · have h2 : ¬ s.toList = [] := by rw [decide_eq_false h] at he; simpa using he
    have h3 : s.toList.isEmpty = false := by simpa using h2
    clear he
    go_enter Tryz.func54, Tryz.ntmps54
    go_wp2
    go_ret
    exact ⟨ret_bool (by first | exact (decide_eq_false (by omega)).symm | (rw [decide_eq_decide]; omega)), rfl⟩
theorem checkV_any (s : ByteArray) (w : World) : Calls Tryz.prog 55 #[.string s] w fun e w' => e = .returned (.bool (chkV s)) ∧ w' = w := by
  unfold chkV
  go_enter Tryz.func55, Tryz.ntmps55
  go_wp2
  go_ret
  exact ⟨ret_bool (by rw [decide_eq_decide]; omega), rfl⟩
set_option maxHeartbeats 400000 in
theorem count_any (n : Int) (w : World) (h0 : 0 ≤ n) (h1 : n < 9223372036854775808) : Calls Tryz.prog 78 #[.int .i64 n] w fun e w' => e = .returned (.int .i64 (nW n.toNat : Nat)) ∧ w' = w := by
  go_enter Tryz.func78, Tryz.ntmps78
  go_wp2
  all_goals
    go_ret
    exact ⟨ret_int (by unfold nW; omega), rfl⟩
theorem join_i64 (a : Int) (c : UInt8) (h0 : 0 ≤ a) (h1 : a < 281474976710656) : bits .or .i64 (a * 256) (wrap64 (c.toNat : Int)) = a * 256 + (c.toNat : Int) := by
  have hc : c.toNat < 256 := UInt8.toNat_lt _
  obtain ⟨n, rfl⟩ := Int.eq_ofNat_of_zero_le h0
  have e : wrap64 (c.toNat : Int) = ((c.toNat : Nat) : Int) := by unfold wrap64; omega
  rw [e]
  show IntKind.i64.wrap ((BitVec.ofInt 64 ((n * 256 : Nat) : Int) ||| BitVec.ofInt 64 ((c.toNat : Nat) : Int)).toNat : Int) = _
  rw [BitVec.toNat_or, ofInt_u64 _ (by omega), ofInt_u64 _ (by omega), nat_join8 _ _ (by omega) hc, IntKind.wrap_i64]
  omega
set_option maxRecDepth 100000 in
set_option maxHeartbeats 1000000 in
theorem word_any (p : ByteArray) (w : World) : Calls Tryz.prog 80 #[.string p] w fun e w' => e = .returned (.int .i64 (wP p)) ∧ w' = w := by
  go_enter Tryz.func80, Tryz.ntmps80
  go_wp2
  go_loop [3, 5] (fun r i => ∃ k : Nat, k ≤ 7 ∧ i = .int .i64 k ∧ r = .int .i64 (w7 (byt p.data.toList) k)) (fun _ i => 7 - (intOf i).toNat)
  case atStart => exact ⟨0, Nat.zero_le _, rfl, rfl⟩
  case round =>
    obtain ⟨k, hk, rfl, rfl⟩ := hrel
    by_cases hlt : k < 7
    · have hb := w7_lt6 (byt p.data.toList) (fun _ => byt_bd _ _) k (by omega)
      by_cases hp : k < p.size
      · have H : Hid (byt p.data.toList k = (p[k].toNat : Int)) := byt_in p.data.toList k (by simpa using hp)
        go_wp2
        exact ⟨⟨k + 1, by omega, by go_num, by rw [join_i64 _ _ hb.1 hb.2]; show _ = Value.int IntKind.i64 (w7 (byt p.data.toList) k * 256 + byt p.data.toList k); rw [H.out]⟩, by simp [intOf]; omega⟩
      · have H : Hid (byt p.data.toList k = 0) := byt_out p.data.toList k (by simp; omega)
        go_wp2
        exact ⟨⟨k + 1, by omega, by go_num, by show _ = Value.int IntKind.i64 (w7 (byt p.data.toList) k * 256 + byt p.data.toList k); rw [H.out, Int.add_zero]⟩, by simp [intOf]; omega⟩
    · have : k = 7 := by omega
      subst this
      go_wp2
      go_ret
      exact ⟨rfl, rfl⟩
end Go.Proofs.YtcgclhahonndbaaGreat.Ky
namespace Go.Proofs.YtcgclhahonndbaaGreat.Ky
open Go.RowKit Go.Shelf
set_option maxRecDepth 100000 in
set_option maxHeartbeats 1000000 in
theorem equal_any (u v : Value) (zs ys : List Int) (w : World) (hu : Rd w u zs) (hv : Rd w v ys) : Calls Tryz.prog 130 #[u, v] w fun e w' => e = .returned (.bool (decide (zs = ys))) ∧ Below w.heap.size w w' := by
  have hu' := hu
  have hv' := hv
  obtain ⟨zb, zl, a, cap, rfl, ha⟩ := hu
  obtain ⟨yb, yl, a2, cap2, rfl, ha2⟩ := hv
  clear ha ha2
  by_cases hl : zs.length = ys.length
  · have hl2 : ((zs.length : Int) != (ys.length : Int)) = false := by simp [hl]
    have Hl : Hid (zs.length = ys.length) := hl
    clear hl
    go_enter Tryz.func130, Tryz.ntmps130
    go_wp2
    go_loopw [13] (fun i w1 => ∃ k : Nat, k ≤ zs.length ∧ i = .int .i64 k ∧ zs.take k = ys.take k ∧ Below w.heap.size w w1) (fun i _ => zs.length - (intOf i).toNat)
    case atStart => exact ⟨0, Nat.zero_le _, rfl, rfl, Below.refl _ _⟩
    case round =>
      obtain ⟨k, hk, rfl, ht, hbel⟩ := hrel
      by_cases hlt : k < zs.length
      · have hlt2 : k < ys.length := by have := Hl.out; omega
        obtain ⟨b, off, rfl, hc⟩ := (hu'.below hbel).at k hlt
        obtain ⟨b2, off2, rfl, hc2⟩ := (hv'.below hbel).at k hlt2
        have Ht : Hid (zs.take k = ys.take k) := ht
        clear ht
        by_cases hne : zs[k] = ys[k]
        · have hne2 : (zs[k] != ys[k]) = false := by simpa using hne
          have Hn : Hid (zs.take (k + 1) = ys.take (k + 1)) := by rw [List.take_succ_eq_append_getElem hlt, List.take_succ_eq_append_getElem hlt2, Ht.out, hne]; exact rfl
          clear hne
          go_wp2
          go_quiet (fail)
          go_wp2
          go_roundw
          case rel => exact ⟨k + 1, by omega, by go_num, Hn.out, below_drewN hbel _⟩
          case measure => simp [intOf]; omega
        · have hne2 : (zs[k] != ys[k]) = true := by simpa using hne
          have Hn : Hid (decide (zs = ys) = false) := decide_eq_false (fun e => hne (by subst e; rfl))
          go_wp2
          go_quiet (fail)
          go_wp2
          go_ret
          exact ⟨ret_bool Hn.out.symm, below_drewN hbel _⟩
      · have hkk : k = zs.length := by omega
        have Hn : Hid (decide (zs = ys) = true) := decide_eq_true (by rw [List.take_of_length_le (by omega), List.take_of_length_le (by have := Hl.out; omega)] at ht; exact ht)
        clear ht
        go_wp2
        go_ret
        exact ⟨ret_bool Hn.out.symm, hbel⟩
  · have hl2 : ((zs.length : Int) != (ys.length : Int)) = true := by simp; omega
    go_enter Tryz.func130, Tryz.ntmps130
    go_wp2
    go_ret
    exact ⟨ret_bool (decide_eq_false (fun e => hl (by rw [e]))).symm, Below.refl _ _⟩
/-- What is left of a text behind k pieces; the piece at k. -/
def sfx (s : ByteArray) (k : Nat) : ByteArray := s.extract (7 * k) s.size
def pce (s : ByteArray) (k : Nat) : ByteArray := (sfx s k).extract 0 (min 7 (sfx s k).size)
def pUp (s : ByteArray) (k : Nat) : List ByteArray := (List.range k).map (pce s)
theorem pUp_succ (s : ByteArray) (k : Nat) : pUp s (k + 1) = pUp s k ++ [pce s k] := by simp [pUp, List.range_succ]
theorem pUp_length (s : ByteArray) (k : Nat) : (pUp s k).length = k := by simp [pUp]
theorem pce_7 (s : ByteArray) (k : Nat) (h : 7 ≤ s.size - 7 * k) : pce s k = (sfx s k).extract 0 7 := by
  unfold pce; rw [show min 7 (sfx s k).size = 7 from by unfold sfx; simp; omega]
theorem pce_l (s : ByteArray) (k : Nat) (h : ¬ 7 ≤ s.size - 7 * k) : pce s k = (sfx s k).extract 0 (s.size - 7 * k) := by
  unfold pce; rw [show min 7 (sfx s k).size = s.size - 7 * k from by unfold sfx; simp; omega]
theorem sfx_size (s : ByteArray) (k : Nat) : (sfx s k).size = s.size - 7 * k := by unfold sfx; simp
theorem ext_list (s : ByteArray) (i j : Nat) : (s.extract i j).data.toList = (s.data.toList.drop i).take (j - i) := by
  simp [ByteArray.data_extract, List.extract_eq_take_drop]
theorem sfx_list (s : ByteArray) (k : Nat) : (sfx s k).data.toList = s.data.toList.drop (7 * k) := by
  unfold sfx; rw [ext_list]; exact List.take_of_length_le (by simp)
theorem pce_list (s : ByteArray) (k : Nat) : (pce s k).data.toList = (s.data.toList.drop (7 * k)).take 7 := by
  unfold pce; rw [ext_list, sfx_list, sfx_size, List.drop_zero, Nat.sub_zero]
  by_cases h : 7 ≤ s.size - 7 * k
  · rw [Nat.min_eq_left h]
  · rw [Nat.min_eq_right (by omega), List.take_of_length_le (by simp), List.take_of_length_le (by simp; omega)]
theorem sfx_next (s : ByteArray) (k : Nat) : (sfx s k).extract 7 (s.size - 7 * k) = sfx s (k + 1) := by
  apply ba_ext
  rw [ext_list, sfx_list, sfx_list, List.drop_drop, Nat.mul_add, List.take_of_length_le (by simp; omega)]
theorem sfx_none (s : ByteArray) (k : Nat) (h : s.size ≤ 7 * k) : ByteArray.empty = sfx s k := by
  apply ba_ext
  rw [sfx_list, List.drop_eq_nil_of_le (by simpa using h)]; rfl
theorem pce_byt (s : ByteArray) (k j : Nat) (h : j < 7) : byt (pce s k).data.toList j = byt s.data.toList (7 * k + j) := by
  unfold byt; rw [pce_list, List.getElem?_take, if_pos h, List.getElem?_drop]
theorem words_pUp (s : ByteArray) (k : Nat) : (pUp s k).map wP = wUp s.data.toList k := by
  unfold pUp wUp
  rw [List.map_map]
  apply List.map_congr_left
  intro i _
  exact w7_congr _ _ 7 (fun j hj => pce_byt s i j hj)
set_option maxRecDepth 100000 in
set_option maxHeartbeats 2000000 in
/-- The pieces' closure, for every loop body that keeps what lay below n₀. -/
theorem pieces1_in (F : Fence) (n : Nat) (h7 : F.fn 108) (hro : F.round = none) (hn : 1 ≤ n) (l Bs n₀ : Nat) (s : ByteArray) (J Jx : List ByteArray → World → Prop)
    (hY : ∀ pre x W, J pre W → pre.length < nW s.size → YieldAt F (n - 1) Tryz.prog l #[.string x] W fun e W' =>
      (e = .returned (.bool true) ∧ J (pre ++ [x]) W' ∧ Below n₀ W W') ∨ (e = .returned (.bool false) ∧ Jx (pre ++ [x]) W'))
    (W : World) (hBs : W.cell? ⟨Bs, 0, none⟩ = some (.string s)) (h0 : J [] W) :
    CallsIn F n Tryz.prog 108 #[.func (.yield l) #[] #[], .pointer (some ⟨Bs, 0, none⟩)] W fun e W' => (∃ v, e = .returned v) ∧
      ((∃ ys, ys = pUp s (nW s.size) ∧ J ys W') ∨ (∃ pre, (∃ k, k ≤ nW s.size ∧ pre = pUp s k) ∧ Jx pre W')) := by
  refine callsIn_of_wp Tryz.func108 rfl h7 ?_ hro
  simp only [Tryz.ntmps108, List.size_toArray, List.length_cons, List.length_nil, Nat.reduceAdd, Nat.reduceSub, Array.replicate_succ, Array.replicate_zero, List.push_toArray, List.append_toArray, List.nil_append, List.cons_append]
  gi_wp2
  gi_loopw [3] (fun r wr => ∃ k : Nat, k ≤ nW s.size ∧ r = .string (sfx s k) ∧ J (pUp s k) wr)
    (fun r _ => match r with | .string t => t.size | _ => 0)
  case atStart => exact ⟨0, Nat.zero_le _, by unfold sfx; simp, h0⟩
  case round =>
    obtain ⟨k, hk, rfl, hJs⟩ := hrel
    have hz := sfx_size s k
    have he := empty_size (sfx s k)
    by_cases hlt : k < nW s.size
    · have hne : (sfx s k).toList.isEmpty = false := by rw [he]; exact decide_eq_false (by unfold nW at *; omega)
      clear he
      obtain ⟨fn, tmps, assign, body, hy, hR⟩ := hY _ (pce s k) wr hJs (by rw [pUp_length]; exact hlt)
      rw [← pUp_succ] at hR
      by_cases h7 : 7 ≤ ((s.size - 7 * k : Nat) : Int)
      · rw [pce_7 s k (by omega)] at hy
        gi_wp2
        refine hR.mono ?_
        rintro e W3 (⟨rfl, hJ3, hk3⟩ | ⟨rfl, hJx3⟩)
        · gi_wp2
          exact ⟨⟨k + 1, by omega, by rw [sfx_next], hJ3⟩, by rw [sfx_next]; show (sfx s (k + 1)).size < (sfx s k).size; rw [sfx_size, sfx_size]; omega⟩
        · gi_wp2
          refine bodyPost_ret (results_none rfl _ _ _) rfl ?_
          exact ⟨⟨_, rfl⟩, .inr ⟨_, ⟨k + 1, by omega, rfl⟩, hJx3⟩⟩
      · rw [pce_l s k (by omega)] at hy
        gi_wp2
        refine hR.mono ?_
        rintro e W3 (⟨rfl, hJ3, hk3⟩ | ⟨rfl, hJx3⟩)
        · gi_wp2
          exact ⟨⟨k + 1, by omega, by rw [sfx_none s (k + 1) (by omega)], hJ3⟩, by show 0 < (sfx s k).size; rw [sfx_size]; unfold nW at hlt; omega⟩
        · gi_wp2
          refine bodyPost_ret (results_none rfl _ _ _) rfl ?_
          exact ⟨⟨_, rfl⟩, .inr ⟨_, ⟨k + 1, by omega, rfl⟩, hJx3⟩⟩
    · have hne : (sfx s k).toList.isEmpty = true := by rw [he]; exact decide_eq_true (by unfold nW at *; omega)
      clear he
      obtain rfl : k = nW s.size := by omega
      gi_wp2
      go_end0
      exact ⟨⟨_, rfl⟩, .inl ⟨_, rfl, hJs⟩⟩
set_option maxHeartbeats 1000000 in
theorem pieces_in (F : Fence) (n : Nat) (h5 : F.fn 79) (hro : F.round = none) (s : ByteArray) (w : World) :
    CallsIn F n Tryz.prog 79 #[.string s] w fun e w' => e = .returned (.func (.func 108) #[] #[.pointer (some ⟨w.heap.size, 0, none⟩)]) ∧ w' = w.alloc (.cells #[.string s] 9) := by
  refine callsIn_of_wp Tryz.func79 rfl h5 ?_ hro
  simp only [Tryz.ntmps79, List.size_toArray, List.length_cons, List.length_nil, Nat.reduceAdd, Nat.reduceSub, Array.replicate_succ, Array.replicate_zero, List.push_toArray, List.append_toArray, List.nil_append, List.cons_append]
  gi_wp2
  go_ret
  exact ⟨rfl, rfl⟩
theorem pieces_stops (F : Fence) (n : Nat) (h7 : F.fn 108) (hro : F.round = none) (hn : 1 ≤ n) (Bs n₀ : Nat) (s : ByteArray) (w : World) (hBs : Bs < w.heap.size)
    (hc : w.cell? ⟨Bs, 0, none⟩ = some (.string s)) :
    SeqStopsK F n Tryz.prog 108 #[.pointer (some ⟨Bs, 0, none⟩)] (fun x : ByteArray => #[Value.string x]) (Below n₀) (fun ys => ys = pUp s (nW s.size)) (fun pre => ∃ k, k ≤ nW s.size ∧ pre = pUp s k) (nW s.size) w := fun l J Jx W hW _ _ hY h0 =>
  pieces1_in F n h7 hro hn l Bs n₀ s J Jx hY W ((hW.cell (p := ⟨Bs, 0, none⟩) hBs).trans hc) h0
end Go.Proofs.YtcgclhahonndbaaGreat.Ky
