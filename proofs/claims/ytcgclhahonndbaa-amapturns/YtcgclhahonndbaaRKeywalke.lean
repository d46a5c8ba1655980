/- Set over from a lower layer: RKeywalkc. · Set over from a lower layer: RKeywalke. -/
import Derived.Test.YtcgclhahonndbaaBase
import Derived.Test.YtcgclhahonndbaaNNumz
import Derived.Test.YtcgclhahonndbaaSSupc
import Derived.Test.YtcgclhahonndbaaRKeywalka
import Derived.Test.YtcgclhahonndbaaSSumz
namespace Go.Proofs.Ytcgclhahonndbaa.Ky
open Go.RowKit Go.Shelf
attribute [local go_sem] Oper.semAt_some
/-- 'append', kept shut, so that a run's equation meets it. -/
def appS (ats : Array TypeId) (ty : TypeId) (args : Array Value) : Sem Value := Builtin.append_ ats ty args
theorem appS_eq (ats : Array TypeId) (ty : TypeId) (args : Array Value) : Builtin.append_ ats ty args = appS ats ty args := rfl
theorem Try.info3 : (Try.prog.info? 3).map (fun i => (i.zero, i.size, i.bytes)) = some (some (.int .i64 0), 1, 8) := by kernel_rfl
theorem Try.info5 : (Try.prog.info? 5).map (fun i => (i.zero, i.size, i.bytes)) = some (some (.int .u8 0), 1, 1) := by kernel_rfl
/-- 'make([]int, 0, c)'. -/
theorem make_ints (c : Nat) (h : c ≤ 1000) (w : World) : (Instr.makeSlice 22 (.int .i64 0) (.int .i64 (c : Int))).run Try.prog w = .ok (.slice (some ⟨w.heap.size, 0, none⟩) 0 c) (w.alloc (.cells (madeCells #[.int .i64 0] c) 3)) := by
  obtain ⟨i0, hi, hz0, hz1, hz2⟩ := info_parts Try.info3
  have := run_make (P := Try.prog) w 22 3 i0 (.int .i64 0) Try.underlying22 hi hz0 .i64 .i64 0 c (Int.le_refl _) (by omega) (by rw [hz2]; omega) (by omega)
  simpa [hz1, Value.cells] using this
attribute [local go_sem ↓] appS_eq
set_option maxRecDepth 100000 in
set_option maxHeartbeats 2000000 in
theorem words_own (s : ByteArray) (w : World) (hs : s.size ≤ 7000) :
    Calls Try.prog 65 #[.string s] w fun e w' => ∃ v, e = .returned v ∧ w'.ownsRow w.heap.size 3 1 v (nW s.size) ((wsl s.data.toList).map (Value.int .i64)) ∧ Below w.heap.size w w' := by
  obtain ⟨i0, hi, hz0, hz1, hz2⟩ := info_parts Try.info3
  have hn : nW s.size ≤ 1000 := by unfold nW; omega
  have hmk := make_ints (nW s.size) hn
  obtain ⟨n, hn5⟩ : ∃ n, 5 ≤ n := ⟨5, by omega⟩
  have hro : Fence.wide.round = none := rfl
  have h1 : 1 ≤ n := by omega
  have h2 : 1 ≤ n - 1 := by omega
  refine (callsIn_wide (n := n)).1 ?_
  refine callsIn_of_wp_marks Try.func65 rfl trivial ?_ rfl
  simp only [Try.ntmps65, List.size_toArray, List.length_cons, List.length_nil, Nat.reduceAdd, Nat.reduceSub, Array.replicate_succ, Array.replicate_zero, List.push_toArray, List.append_toArray, List.nil_append, List.cons_append]
  gi_wp2_with (first
    | (refine ⟨trivial, ?_⟩; gi_at_call 79; refine (callsIn_wide.2 (count_any _ _ (by omega) (by omega))).mono ?_; rintro e w' ⟨rfl, hw⟩; rw [hw]; clear hw w')
    | (refine ⟨trivial, ?_⟩; gi_at_call 80; refine (pieces_in _ _ trivial rfl _ _).mono ?_; rintro e w' ⟨rfl, rfl⟩))
  have bO := Boxed.new (w.alloc (.cells (madeCells #[.int .i64 0] (nW s.size)) 3)) 22 (.slice (some ⟨w.heap.size, 0, none⟩) 0 (nW s.size))
  have bN := Boxed.new ((w.alloc (.cells (madeCells #[.int .i64 0] (nW s.size)) 3)).alloc (.cells #[.slice (some ⟨w.heap.size, 0, none⟩) 0 (nW s.size)] 22)) 9 (.string s)
  have oR := World.ownsRow_made (base := w.heap.size) (e := 3) (size := 1) w (madeCells #[.int .i64 0] (nW s.size)) (nW s.size) (Nat.le_refl _) (by unfold maxLen; omega) (by rw [size_madeCells]; omega)
  rw [World.size_alloc] at bO
  rw [World.size_alloc, World.size_alloc] at bN
  have hB0 : Below w.heap.size w (((w.alloc (.cells (madeCells #[.int .i64 0] (nW s.size)) 3)).alloc (.cells #[.slice (some ⟨w.heap.size, 0, none⟩) 0 (nW s.size)] 22)).alloc (.cells #[.string s] 9)) := (((Below.refl _ w).alloc (Nat.le_refl _) _).alloc (by simp) _).alloc (by simp; omega) _
  refine wpIn_rangeFunc_ownG hro h1 (gf := 93) (lb := #[.pointer (some ⟨w.heap.size + 1 + 1, 0, none⟩)]) rfl trivial (enters_of Try.func93 (by kernel_rfl) rfl)
    (pieces_stops Fence.wide (n - 1) trivial hro (by omega) (w.heap.size + 1 + 1) w.heap.size s _ (by simp) bN.cell) belowK_t (belowK_b (by simp; omega)) (Below.refl _ _) (fun _ => rfl)
    (fun (pre : List ByteArray) W => (∃ v, Boxed W (w.heap.size + 1) 22 v ∧ W.ownsRow w.heap.size 3 1 v pre.length ((pre.map wP).map (Value.int .i64)) ∧ True) ∧ Below w.heap.size w W)
    (fun _ _ _ => False)
    (OwnFrom.and (Own.from (holdsRow_own w.heap.size (w.heap.size + 1) 22 3 1 (fun (pre : List ByteArray) => pre.length) (fun pre => (pre.map wP).map (Value.int .i64)) (fun _ _ => True)) _) (ownFrom_below (Nat.le_refl _) (by simp; omega)))
    (fun _ _ _ _ _ hs _ _ => hs)
    ⟨⟨_, bO.alloc _, (oR.alloc _).alloc _, trivial⟩, hB0⟩
    (fun x => { tmps := #[.string s, undef, .slice none 0 0, .pointer (some ⟨w.heap.size + 1, 0, none⟩), .string x, .string s, .int .i64 s.size, .int .i64 (nW s.size), .slice (some ⟨w.heap.size, 0, none⟩) 0 (nW s.size), .string s, .func (.func 93) #[] #[.pointer (some ⟨w.heap.size + 1 + 1, 0, none⟩)], .string x, undef, undef, undef, undef, undef, undef], defers := [] }) ?assign ?body ?done ?stop
  case assign =>
    intro l x W K hK
    gi_wp2
    exact hK
  case body =>
    rintro l pre x W ⟨⟨v, hv, hrow, _⟩, hB⟩ hlt
    have hc := hv.cell
    have hmx : Try.prog.follows .mixedOrders = true := by kernel_rfl
    have hd : 1 ≤ n - 1 - 1 := by omega
    have hrd : (W.alloc (.cells #[.int .i64 (wP x)] 3)).drew.ownsRow w.heap.size 3 1 v pre.length ((pre.map wP).map (Value.int .i64)) := hrow.alloc _
    obtain ⟨v', w1, hrun, hown', hgrow', _⟩ := run_append_own (P := Try.prog) (W.alloc (.cells #[.int .i64 (wP x)] 3)).drew w.heap.size 22 22 3 i0 (.int .i64 0) 1 8 Try.underlying22 hi hz0 hz1 hz2 rfl (by decide) v _ _ hrd
      ⟨W.heap.size, 0, none⟩ 1 1 [.int .i64 (wP x)] rfl (cell_one_new W _ _) (by simp [Value.oneCell']) (by unfold maxLen; omega) (by omega) (by have := hB.size; simp; omega)
    have hgrow : (W.alloc (.cells #[.int .i64 (wP x)] 3)).grownBy w1 v.ownBlock := ⟨hgrow'.os, hgrow'.tape, hgrow'.output, hgrow'.size, hgrow'.block⟩
    obtain ⟨g', cap', rfl⟩ := ownsRow_succ hown'
    obtain ⟨hv1, hv2, hr2, hk2, hb2⟩ := hv.appended (by decide) hrow hB.size (by omega) hown' hgrow
    have hc1 := hv1.cell
    have hf1 := hv1.frozen
    have hrunS : (appS #[22, 22] 22 #[v, .slice (some ⟨W.heap.size, 0, none⟩) 1 1]).run Try.prog (W.alloc (.cells #[.int .i64 (wP x)] 3)).drew = .ok (.slice (some ⟨g', 0, none⟩) (pre.length + 1) cap') w1 := hrun
    clear hrun
    have hlt' := hv.lt
    have hcA := (hv.alloc (.cells #[.int .i64 (wP x)] 3)).cell
    gi_wp2
    gi_region_with_o (refine ⟨trivial, ?_⟩; gi_at_call 81; refine (CallsIn.inRound l (callsIn_wide.2 (word_any _ _))).mono ?_; rintro e w' ⟨rfl, rfl⟩)
    all_goals gi_wp2
    all_goals exact ⟨hk2.from _, hb2, ⟨_, hv2, by simpa using hr2, trivial⟩, hB.trans hb2⟩
  case done =>
    rintro D ys W hD rfl ⟨⟨v, hv, hrow, _⟩, hB⟩ hK
    have hc := hv.cell
    gi_wp2
    refine ⟨by simp, .inl ⟨_, _, rfl, run_takeDeferred hK, ?_⟩⟩
    rw [words_pUp, pUp_length] at hrow
    exact ⟨_, results_tmp rfl _ _ _, v, rfl, ownsRow_putObj hrow _ hK rfl, hB.trans (belowK_b (w := w) (Nat.le_refl _) W D _ _ (by simp at hD; omega) hK rfl rfl)⟩
  case stop =>
    rintro D c pre W _ _ h _
    exact h.elim
end Go.Proofs.Ytcgclhahonndbaa.Ky
namespace Go.Proofs.Ytcgclhahonndbaa.Ky
open Go.RowKit
/-- What a call's own row holds is read. -/
theorem Rd.of_own {W : World} {base : Nat} {v : Value} {n : Nat} {zs : List Int} (h : W.ownsRow base 3 1 v n (zs.map (Value.int .i64))) (hb : ∀ z ∈ zs, -9223372036854775808 ≤ z ∧ z < 9223372036854775808) (hl : zs.length ≤ 1000) : Rd W v zs := by
  have hc := h
  have hn : zs.length = n := by simpa using h.1
  subst hn
  refine ⟨hb, hl, ?_⟩
  rcases h.2 with ⟨rfl, h0⟩ | ⟨g, cap, cur, rfl, _, hg, _⟩
  · have e : zs = [] := List.eq_nil_of_length_eq_zero h0
    subst e
    exact ⟨none, 0, rfl, .inl rfl⟩
  · refine ⟨some ⟨g, 0, none⟩, cap, rfl, .inr ⟨g, 0, rfl, (Array.getElem?_eq_some_iff.1 hg).1, ?_⟩⟩
    intro j hj
    have := hc.cells rfl j (.int .i64 (zs[j]?.getD 0)) (by simp [List.getElem?_eq_getElem hj])
    rwa [Addr.add_lit] at this
theorem wsl_bd (l : List UInt8) : ∀ z ∈ wsl l, -9223372036854775808 ≤ z ∧ z < 9223372036854775808 := by
  intro z hz
  have := wUp_bd l _ z hz
  omega
/-- The words of a text: a row of the call's own, and read. -/
theorem words_any (s : ByteArray) (w : World) (hs : s.size ≤ 7000) :
    Calls Try.prog 65 #[.string s] w fun e w' => ∃ v, e = .returned v ∧ w'.ownsRow w.heap.size 3 1 v (nW s.size) ((wsl s.data.toList).map (Value.int .i64)) ∧ Rd w' v (wsl s.data.toList) ∧ Below w.heap.size w w' := by
  refine (words_own s w hs).mono ?_
  rintro e w' ⟨v, rfl, hown, hb⟩
  exact ⟨v, rfl, hown, Rd.of_own hown (wsl_bd _) (by rw [wsl_length]; unfold nW; simp; omega), hb⟩
end Go.Proofs.Ytcgclhahonndbaa.Ky
namespace Go.Proofs.Ytcgclhahonndbaa.Ky
open Go.RowKit
theorem make_bytes (c : Nat) (h : c ≤ 7000) (w : World) : (Instr.makeSlice 139 (.int .i64 0) (.int .i64 (c : Int))).run Try.prog w = .ok (.slice (some ⟨w.heap.size, 0, none⟩) 0 c) (w.alloc (.cells (madeCells #[.int .u8 0] c) 5)) := by
  obtain ⟨i0, hi, hz0, hz1, hz2⟩ := info_parts Try.info5
  have := run_make (P := Try.prog) w 139 5 i0 (.int .u8 0) Try.underlying139 hi hz0 .i64 .i64 0 c (Int.le_refl _) (by omega) (by rw [hz2]; omega) (by omega)
  simpa [hz1, Value.cells] using this
theorem make_bytes7 (m : Nat) (h : m ≤ 1000) (w : World) : (Instr.makeSlice 139 (.int .i64 0) (.int .i64 ((m : Int) * 7))).run Try.prog w = .ok (.slice (some ⟨w.heap.size, 0, none⟩) 0 (m * 7)) (w.alloc (.cells (madeCells #[.int .u8 0] (m * 7)) 5)) :=
  make_bytes (m * 7) (by omega) w
theorem okT_neg (l : List Int) (n : Int) (h : n < 0) : okT l n = false := decide_eq_false (fun e => by omega)
theorem okT_len (l : List Int) (n : Int) (h : nW n.toNat ≠ l.length) : okT l n = false := decide_eq_false (fun e => h e.2.1)
theorem okT_ws (l : List Int) (n : Int) (h0 : 0 ≤ n) (h : nW n.toNat = l.length) : okT l n = decide (wsl (txL l n.toNat) = l) := by
  unfold okT; rw [decide_eq_decide]; exact ⟨fun e => e.2.2, fun e => ⟨h0, h, e⟩⟩
theorem ret_text {l : List Int} {n : Int} {s : ByteArray} {e : Int} (h1 : s = txS l n) (h2 : e = txE l n) : Ending.returned (.tuple #[.string s, .int .i64 e]) = .returned (.tuple #[.string (txS l n), .int .i64 (txE l n)]) := by rw [h1, h2]
theorem txS_no {l : List Int} {n : Int} (h : okT l n = false) : ByteArray.empty = txS l n := by unfold txS; rw [h]; rfl
theorem txE_no {l : List Int} {n : Int} (h : okT l n = false) : 20 = txE l n := by unfold txE; rw [h]; rfl
theorem txS_yes {l : List Int} {n : Int} (h : okT l n = true) : tx l n.toNat = txS l n := by unfold txS; rw [h]; rfl
theorem txE_yes {l : List Int} {n : Int} (h : okT l n = true) : 0 = txE l n := by unfold txE; rw [h]; rfl
set_option maxRecDepth 100000 in
set_option maxHeartbeats 2000000 in
theorem text_any (v : Value) (zs : List Int) (n : Int) (w : World) (hv : Rd w v zs) (hn : n < 9223372036854775808) :
    Calls Try.prog 97 #[v, .int .i64 n] w fun e w' => e = .returned (.tuple #[.string (txS zs n), .int .i64 (txE zs n)]) ∧ Below w.heap.size w w' := by
  obtain ⟨i0, hi, hz0, hz1, hz2⟩ := info_parts Try.info5
  have hv' := hv
  obtain ⟨zb, zl, a, cap, rfl, ha⟩ := hv
  clear ha
  by_cases h0 : n < 0
  · have hk := okT_neg zs n h0
    go_enter Try.func97, Try.ntmps97
    go_wp2
    go_ret2
    exact ⟨ret_text (txS_no hk) (txE_no hk), Below.refl _ _⟩
  · by_cases hl : nW n.toNat = zs.length
    · have hl2 : (((nW n.toNat : Nat) : Int) != (zs.length : Int)) = false := by simp [hl]
      have Hl : Hid (nW n.toNat = zs.length) := hl
      clear hl
      have h0' : 0 ≤ n := by omega
      have hmk := make_bytes7 zs.length zl
      have oR := World.ownsRow_made (base := w.heap.size) (e := 5) (size := 1) w (madeCells #[.int .u8 0] (zs.length * 7)) (zs.length * 7) (Nat.le_refl _) (by unfold maxLen; omega) (by rw [size_madeCells]; omega)
      go_enter Try.func97, Try.ntmps97
      go_wp2_with (go_at_call 79; refine (count_any _ _ (by omega) (by omega)).mono ?_; rintro e w' ⟨rfl, hw⟩; rw [hw]; clear hw w')
      go_loopw [6, 26] (fun t6 t26 w1 => ∃ (k : Nat) (g c : Nat), k ≤ zs.length ∧ t26 = .int .i64 k ∧ t6 = .slice (some ⟨g, 0, none⟩) (7 * k) c ∧ w1.ownsRow w.heap.size 5 1 (.slice (some ⟨g, 0, none⟩) (7 * k) c) (7 * k) ((txB (zs.take k)).map (Value.int .u8)) ∧ Below w.heap.size w w1) (fun _ t26 _ => zs.length - (intOf t26).toNat)
      case atStart => exact ⟨0, _, _, by omega, rfl, rfl, oR, (Below.refl _ w).alloc (Nat.le_refl _) _⟩
      case round =>
        obtain ⟨k, g, c, hk, rfl, rfl, hown, hbel⟩ := hrel
        by_cases hlt : k < zs.length
        · obtain ⟨b, off, rfl, hc⟩ := (hv'.below hbel).at k hlt
          go_wp2
          go_loopw [6, 30] (fun t6 t30 w1 => ∃ (j : Nat) (g c : Nat), j ≤ 7 ∧ t30 = .int .i64 j ∧ t6 = .slice (some ⟨g, 0, none⟩) (7 * k + j) c ∧ w1.ownsRow w.heap.size 5 1 (.slice (some ⟨g, 0, none⟩) (7 * k + j) c) (7 * k + j) ((txB (zs.take k) ++ bUp zs[k] j).map (Value.int .u8)) ∧ Below w.heap.size w w1) (fun _ t30 _ => 7 - (intOf t30).toNat)
          case atStart => exact ⟨0, _, _, by omega, rfl, rfl, by simpa [bUp] using hown, hbel⟩
          case round =>
            obtain ⟨j, g, c, hj, rfl, rfl, hown, hbel⟩ := hrel
            by_cases hlt2 : j < 7
            · have hbt : zs[k] / 2 ^ (8 * (6 - j)) % 256 = bt zs[k] j := rfl
              go_wp2_with (at_builtin; refine wpList_append_own _ rfl _ _ 139 rfl w.heap.size 5 i0 (.int .u8 0) 1 1 Try.underlying139 hi hz0 hz1 hz2 rfl (by decide) _ (7 * k + j) _ rfl (hown.alloc _) ⟨wr.heap.size, 0, none⟩ 1 1 [.int .u8 (bt zs[k] j)] rfl rfl (cell_one_new _ _ _) (by simp [Value.oneCell']) (by unfold maxLen; omega) (by omega) (by have := hbel.size; simp; omega) ?_; intro v' w3 hown' hgrow3 _; obtain ⟨g', cap', rfl⟩ := ownsRow_succ hown')
              have hsz := hbel.size
              have hb3 : Below w.heap.size w w3 := (hbel.alloc hsz _).grown hgrow3 (by simp; omega) (by intro q hq; exact (hown.lt q hq).1)
              go_roundw
              case rel => exact ⟨j + 1, g', cap', by omega, by go_num, rfl, by rw [bUp_succ, ← Nat.add_assoc]; simpa using hown', hb3⟩
              case measure => simp [intOf]; omega
            · obtain rfl : j = 7 := by omega
              go_wp2
              go_roundw
              case rel => exact ⟨k + 1, g, c, by omega, by go_num, by rw [Nat.mul_add], by rw [Nat.mul_add, List.take_succ_eq_append_getElem hlt, txB_append]; simpa [txB] using hown, hbel⟩
              case measure => simp [intOf]; omega
        · obtain rfl : k = zs.length := by omega
          have hnl : n.toNat ≤ 7 * zs.length := by have := Hl.out; unfold nW at this; omega
          have hcap : n ≤ (c : Int) := by
            rcases hown.2 with ⟨e, _⟩ | ⟨g2, c2, cur, e, _, _, hle, _⟩
            · cases e
            · cases e; omega
          have hcv : (convert 139 9 (.slice (some ⟨g, 0, none⟩) n.toNat c)).run Try.prog wr = .ok (.string (tx zs n.toNat)) wr := by
            refine run_convert_bytes_arg wr 139 5 Try.underlying139 Try.underlying5 g 0 n.toNat c ((txB zs).take n.toNat) (by rw [List.length_take, txB_length]; omega) ?_ 9 Try.underlying9
            intro i hi'
            have hil : i < (txB zs).length := by rw [txB_length]; omega
            rw [List.take_length] at hown
            have := hown.cells rfl i (.int .u8 ((txB zs)[i])) (by simp [List.getElem?_eq_getElem hil])
            rw [Addr.add_lit] at this
            rw [this]
            simp [List.getD, hi', List.getElem?_eq_getElem hil]
          have hsz : (tx zs n.toNat).size ≤ 7000 := by
            have := txL_length zs n.toNat
            unfold txL at this
            have e : (tx zs n.toNat).data.toList.length = (tx zs n.toNat).size := by simp
            omega
          have hk0 := okT_ws zs n h0' Hl.out
          clear hmk oR hown
          by_cases hE : wsl (tx zs n.toNat).data.toList = zs
          · have hE2 : decide (wsl (tx zs n.toNat).data.toList = zs) = true := decide_eq_true hE
            have hk : okT zs n = true := hk0.trans hE2
            clear hE hk0
            go_wp2_with (first
              | (go_at_call 65; refine (words_any _ _ hsz).mono ?_; rintro e w2 ⟨v2, rfl, _, hr2, hb2⟩)
              | (go_at_call 98; refine (equal_any _ _ _ _ _ hr2 (hv'.below (bstep hbel hb2))).mono ?_; rintro e w3 ⟨rfl, hb3⟩))
            go_ret2
            exact ⟨ret_text (txS_yes hk) (txE_yes hk), bstep (bstep hbel hb2) hb3⟩
          · have hE2 : decide (wsl (tx zs n.toNat).data.toList = zs) = false := decide_eq_false hE
            have hk : okT zs n = false := hk0.trans hE2
            clear hE hk0
            go_wp2_with (first
              | (go_at_call 65; refine (words_any _ _ hsz).mono ?_; rintro e w2 ⟨v2, rfl, _, hr2, hb2⟩)
              | (go_at_call 98; refine (equal_any _ _ _ _ _ hr2 (hv'.below (bstep hbel hb2))).mono ?_; rintro e w3 ⟨rfl, hb3⟩))
            go_ret2
            exact ⟨ret_text (txS_no hk) (txE_no hk), bstep (bstep hbel hb2) hb3⟩
    · have hk := okT_len zs n hl
      have hl2 : (((nW n.toNat : Nat) : Int) != (zs.length : Int)) = true := by simp; omega
      clear hl
      have h0' : 0 ≤ n := by omega
      go_enter Try.func97, Try.ntmps97
      go_wp2_with (go_at_call 79; refine (count_any _ _ (by omega) (by omega)).mono ?_; rintro e w' ⟨rfl, hw⟩; rw [hw]; clear hw w')
      go_ret2
      exact ⟨ret_text (txS_no hk) (txE_no hk), Below.refl _ _⟩
end Go.Proofs.Ytcgclhahonndbaa.Ky
namespace Go.Proofs.Ytcgclhahonndbaa.Ky
open Go.RowKit
end Go.Proofs.Ytcgclhahonndbaa.Ky
namespace Go.Proofs.Ytcgclhahonndbaa.Ky
open Go.RowKit
end Go.Proofs.Ytcgclhahonndbaa.Ky
namespace Go.Proofs.Ytcgclhahonndbaa.Ky
open Go.RowKit
end Go.Proofs.Ytcgclhahonndbaa.Ky
