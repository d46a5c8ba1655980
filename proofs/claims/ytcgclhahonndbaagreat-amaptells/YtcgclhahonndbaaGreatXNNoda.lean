/- Set over from a lower layer: Ars. · Set over from a lower layer: Aru. · Set over from a lower layer: Arv. · Set over from a lower layer: Walka. · Set over from a lower layer: Nodnum. · Set over from a lower layer: Noda. -/
import Derived.Test.YtcgclhahonndbaaGreatBase
import Derived.Test.YtcgclhahonndbaaGreatSSupa
import Derived.Test.YtcgclhahonndbaaGreatNNumz
import Derived.Test.YtcgclhahonndbaaGreatSSumz
import Derived.Test.YtcgclhahonndbaaGreatArr
import Derived.Test.YtcgclhahonndbaaGreatRKeywalkc
import Derived.Test.YtcgclhahonndbaaGreatNNodw
import Derived.Test.YtcgclhahonndbaaGreatArnum
import Derived.Test.YtcgclhahonndbaaGreatAre
import Derived.Test.YtcgclhahonndbaaGreatAri
import Derived.Test.YtcgclhahonndbaaGreatAro
import Derived.Test.YtcgclhahonndbaaGreatRRech
import Derived.Deep.QuietTactic
import Derived.BigQuiet
import Derived.WalkSmall
import Derived.Deep.MidRow
import Derived.Deep.OwnRows
import Derived.WalkKit
import Derived.WalkSpells
import Derived.WalkLawsBesides
import Derived.LoopN
import Derived.Laws.BytesArg
import Derived.Laws.AppendOwnNone
import Derived.Lib.SliceRun
import Derived.Deep.RegionHeld3
import Derived.Laws.ResultCell
import Derived.Deep.AppendLies
import Derived.Shelf.Abstract
import Derived.Deep.RegionWith
import Derived.Laws.CopyOwn
import Derived.RangeFuncBox
import Derived.RangeFuncNested
import Derived.RangeFuncBound
import Derived.RangeFuncCalls
import Derived.RangeFuncLeaves
import Derived.Shelf.RegionOpen
import Derived.OwnWalkIn
import Derived.TacticsInMore
import Derived.LoopNIn
import Derived.LoopIn
import Derived.Maps.AppendAt
import Derived.Shelf.SlSortCmp.QuietGrown
import Derived.Maps.OwnOps
import Derived.Laws.StructEq
import Derived.Deep.Strs
import Derived.Deep.Slices
import Derived.Deep.RegionLaw
import Derived.Lib.AppendZeros
namespace Go.Proofs.YtcgclhahonndbaaGreat
open Go.RowKit Go.Shelf
set_option linter.unusedVariables false
/-- What is read is copied into a block of ints. -/
theorem wpList_copy_rd {ops : Array Oper} {rest : List Oper} {o : Oper} {a : Act} {w : World} {Q : Exit → Act → World → Prop} (hgd : o.guard = none) (d s : Operand)
    (ho : o.op = .call { callee := .builtin .copy, args := #[d, s], argTypes := #[22, 22] }) (g off n c : Nat) (zs L : List Int) (v : Value) (hd : a.eval d = .slice (some ⟨g, off, none⟩) n c) (hs : a.eval s = v)
    (hR : Rd w v zs) (hg : w.heap[g]? = some (.cells (L.map (Value.int .i64)).toArray 3 (0, 0))) (hn : zs.length ≤ n) (hL : off + zs.length ≤ L.length) (B : Nat) (w0 : World) (hb : Below B w0 w) (hBg : B ≤ g)
    (h : ∀ w', Hid (w'.heap[g]? = some (.cells ((splice L off zs).map (Value.int .i64)).toArray 3 (0, 0))) → Below B w0 w' → wpList Tryz.prog ops Q rest (a.put o.dst (goInt zs.length)) w') : wpList Tryz.prog ops Q (o :: rest) a w := by
  have hsz : (Tryz.prog.info? 3).map (·.size) = some 1 := by
    obtain ⟨i0, hi, _, hz1, _⟩ := info_parts Tryz.info3
    rw [hi]; simp [hz1]
  obtain ⟨_, _, ad, cap, rfl, _, h3⟩ := hR
  refine wpList_copy_splice hgd d s 22 22 ho 3 Tryz.underlying22 hsz _ _ n c zs.length cap hd hs g off (L.map (Value.int .i64)) 3 hg (zs.map (Value.int .i64)) (by rw [List.length_map]; exact (Nat.min_eq_left hn).symm) ?_ (by simpa using hL) (ints_one _) B w0 hb hBg ?_
  · intro h0
    refine ⟨rfl, ?_⟩
    rcases h3 with ⟨hz, _⟩ | ⟨b, o', rfl, _, hc⟩
    · simp [hz] at h0
    · refine ⟨_, rfl, fun j v hv => ?_⟩
      rw [Addr.add_lit]
      exact hc j v hv
  · intro w' h1 h2
    have e : splice (L.map (Value.int .i64)) off (zs.map (Value.int .i64)) = (splice L off zs).map (Value.int .i64) := by simp [splice]
    rw [e] at h1
    have := h w' h1 h2
    rwa [List.length_map]
def nwL (n : Int) : List Int := if mbB n 1 then splice (splice (List.replicate (16 * n.toNat) 0) 0 (hdW n 1)) 16 (imN nilN) else []
def nwE (n : Int) : Int := if mbB n 1 then 0 else 1
theorem nil_may : May nilN := ⟨by decide, by decide, by decide, by decide, by decide, by decide, by decide, by decide, by decide, fun x hx => by cases hx⟩
theorem hdW_len (n r : Int) : (hdW n r).length = 16 := by rw [hdW_eq]; rfl
theorem rl_cells {W : World} {g : Nat} {zs : List Int} (h : W.heap[g]? = some (.cells (zs.map (Value.int .i64)).toArray 3 (0, 0))) (hl : zs.length ≤ 6000) : Rl W (.slice (some ⟨g, 0, none⟩) zs.length zs.length) zs := by
  refine ⟨hl, _, _, rfl, Nat.le_refl _, .inr ⟨g, 0, rfl, ?_, fun j u hj => ?_⟩⟩
  · exact (Array.getElem?_eq_some_iff.1 h).1
  · simp only [World.cell?, h, Nat.zero_add]
    simpa using hj
theorem cells_zeros (n : Nat) : madeCells #[Value.int .i64 0] n = ((List.replicate n (0 : Int)).map (Value.int .i64)).toArray := by
  apply Array.ext
  · simp [size_madeCells]
  · intro i h1 h2
    simp [madeCells, Nat.mod_one]
theorem make_zeros (m : Nat) (h : m ≤ 256) (w : World) : (Instr.makeSlice 22 (.int .i64 ((m : Int) * 16)) (.int .i64 ((m : Int) * 16))).run Tryz.prog w = .ok (.slice (some ⟨w.heap.size, 0, none⟩) (16 * m) (16 * m)) (w.alloc (.cells ((List.replicate (16 * m) (0 : Int)).map (Value.int .i64)).toArray 3)) := by
  obtain ⟨i0, hi, hz0, hz1, hz2⟩ := info_parts Tryz.info3
  have := run_make (P := Tryz.prog) w 22 3 i0 (.int .i64 0) Tryz.underlying22 hi hz0 .i64 .i64 (16 * (m : Int)) (16 * (m : Int)) (by omega) (Int.le_refl _) (by rw [hz2]; omega) (by omega)
  rw [show ((m : Int) * 16) = (16 * (m : Int)) by omega]
  have t : (16 * (m : Int)).toNat = 16 * m := by omega
  rw [t] at this
  rw [this]
  rw [hz1, Nat.mul_one, show (Value.int IntKind.i64 0).cells = #[Value.int .i64 0] by simp [Value.cells], cells_zeros]
theorem zeros_at (m : Nat) (W : World) : (W.alloc (.cells (Array.replicate (16 * m) (Value.int .i64 0)) 3)).heap[W.heap.size]? = some (.cells ((List.replicate (16 * m) (0 : Int)).map (Value.int .i64)).toArray 3 (0, 0)) := by
  rw [show Array.replicate (16 * m) (Value.int .i64 0) = ((List.replicate (16 * m) (0 : Int)).map (Value.int .i64)).toArray by simp]
  show (W.heap.push _)[W.heap.size]? = _
  rw [Array.getElem?_push_size]
set_option maxRecDepth 100000 in
set_option maxHeartbeats 2000000 in
theorem new_any (n : Int) (w : World) : Calls Tryz.prog 17 #[.int .i64 n] w fun e w' => ∃ v, e = .returned (.tuple #[v, .int .i64 (nwE n)]) ∧ Rl w' v (nwL n) ∧ Below w.heap.size w w' := by
  have k18 := words_any n 1 w
  cases hB : mbB n 1 with
  | false =>
    obtain ⟨e1, e2⟩ := wd_no hB
    rw [e1, e2] at k18
    have K18 : Hid (Calls Tryz.prog 35 #[.int .i64 n, .int .i64 1] w fun e w' => ∃ v, e = .returned (.tuple #[v, .int .i64 1]) ∧ Rd w' v [] ∧ Below w.heap.size w w') := k18
    have H1 : nwE n = 1 := by unfold nwE; rw [hB]; rfl
    have H2 : nwL n = [] := by unfold nwL; rw [hB]; rfl
    rw [H1, H2]
    clear k18 hB e1 e2 H1 H2
    go_enter Tryz.func17, Tryz.ntmps17
    go_wp2_with (first
      | (go_at_call 35; refine K18.out.mono ?_; rintro e w1 ⟨v1, rfl, r1, hb1⟩; obtain ⟨_, a1, c1, rfl⟩ := r1.form))
    exact bodyPost_ret (results_tmp2 rfl _ _ _) rfl ⟨_, rfl, (nil_rd _).rl, hb1⟩
  | true =>
    obtain ⟨e1, e2⟩ := wd_yes hB
    rw [e1, e2] at k18
    have hm := mbB_iff.1 hB
    obtain ⟨m, rfl⟩ : ∃ m : Nat, n = (m : Int) := ⟨n.toNat, by omega⟩
    have h2 : 2 ≤ m := by omega
    have h256 : m ≤ 256 := by omega
    have K18 : Hid (Calls Tryz.prog 35 #[.int .i64 (m : Int), .int .i64 1] w fun e w' => ∃ v, e = .returned (.tuple #[v, .int .i64 0]) ∧ Rd w' v (hdW m 1) ∧ Below w.heap.size w w') := k18
    have k19 := fun W => words_node nilN (.slice none 0 0) W (nil_rd W)
    obtain ⟨f1, f2⟩ := wn_yes (nnB_iff.2 nil_may)
    rw [f1, f2] at k19
    have K19 : Hid (∀ W, Calls Tryz.prog 19 #[.agg #[.int .i64 0, .int .i64 0, .int .i64 0, .int .i64 0, .slice none 0 0]] W fun e w' => ∃ v', e = .returned (.tuple #[v', .int .i64 0]) ∧ Rd w' v' (imN nilN) ∧ Below W.heap.size W w') := k19
    have H1 : nwE (m : Int) = 0 := by unfold nwE; rw [hB]; rfl
    have H2 : Hid (nwL (m : Int) = splice (splice (List.replicate (16 * m) 0) 0 (hdW m 1)) 16 (imN nilN)) := show _ = _ by unfold nwL; rw [hB]; rfl
    rw [H1]
    have l1 : Hid ((hdW (m : Int) 1).length = 16) := hdW_len (m : Int) 1
    have l2 : Hid ((imN nilN).length = 16) := imN_length (by decide)
    have hmk : ∀ w, (Instr.makeSlice 22 (.int .i64 ((m : Int) * 16)) (.int .i64 ((m : Int) * 16))).run Tryz.prog w = .ok (.slice (some ⟨w.heap.size, 0, none⟩) (16 * m) (16 * m)) (w.alloc (.cells ((List.replicate (16 * m) (0 : Int)).map (Value.int .i64)).toArray 3)) := make_zeros m h256
    clear k18 hB e1 e2 H1 k19 f1 f2 hm
    go_enter Tryz.func17, Tryz.ntmps17
    go_wp2_with (first
      | (go_at_call 35; refine K18.out.mono ?_; rintro e w1 ⟨v1, rfl, r1, hb1⟩; obtain ⟨_, a1, c1, rfl⟩ := r1.form; have R1 : Hid (Rd w1 (.slice a1 (hdW m 1).length c1) (hdW m 1)) := r1; have B1 : Hid (Below w.heap.size w w1) := hb1; clear r1 hb1)
      | (go_at_call 19; refine (K19.out _).mono ?_; rintro e w2 ⟨v2, rfl, r2, hb2⟩; obtain ⟨_, a2, c2, rfl⟩ := r2.form; have R2 : Hid (Rd w2 (.slice a2 (imN nilN).length c2) (imN nilN)) := r2; have S2 : Hid (Rd w2 (.slice a1 (hdW m 1).length c1) (hdW m 1)) := R1.out.below hb2; have B2 : Hid (Below w.heap.size w w2) := bstep B1.out hb2; clear r2 hb2)
      | (refine wpList_copy_rd rfl (.tmp 24) (.tmp 25) rfl w2.heap.size 0 (16 * m) (16 * m) (hdW m 1) (List.replicate (16 * m) 0) _ rfl rfl (S2.out.below ((Below.refl _ _).alloc (Nat.le_refl _) _)) (zeros_at m w2) (by rw [l1.out]; omega) (by rw [l1.out, List.length_replicate]; omega) w2.heap.size w2 ((Below.refl _ _).alloc (Nat.le_refl _) _) (Nat.le_refl _) ?_; intro w3 hc3 hb3)
      | (refine wpList_copy_rd rfl (.tmp 28) (.tmp 29) rfl w2.heap.size 16 _ _ (imN nilN) (splice (List.replicate (16 * m) 0) 0 (hdW m 1)) _ rfl rfl (R2.out.below hb3) hc3.out (by rw [l2.out]; omega) (by rw [l2.out, length_splice _ _ _ (by rw [l1.out, List.length_replicate]; omega), List.length_replicate]; omega) w2.heap.size w2 hb3 (Nat.le_refl _) ?_; intro w4 hc4 hb4))
    have L4 : (splice (splice (List.replicate (16 * m) 0) 0 (hdW m 1)) 16 (imN nilN)).length = 16 * m := by
      rw [length_splice _ _ _ (by rw [l2.out, length_splice _ _ _ (by rw [l1.out, List.length_replicate]; omega), List.length_replicate]; omega), length_splice _ _ _ (by rw [l1.out, List.length_replicate]; omega), List.length_replicate]
    have := rl_cells hc4.out (by rw [L4]; omega)
    rw [L4, ← H2.out] at this
    exact bodyPost_ret (results_tmp2 rfl _ _ _) rfl ⟨_, rfl, this, bstep B2.out hb4⟩
end Go.Proofs.YtcgclhahonndbaaGreat
namespace Go.Proofs.YtcgclhahonndbaaGreat
open Go.RowKit Go.Shelf
set_option linter.unusedVariables false
theorem nw_form {m : Nat} (h2 : 2 ≤ m) (h : m ≤ 256) : nwL (m : Int) = hdW m 1 ++ (imN nilN ++ List.replicate (16 * m - 32) 0) := by
  have l1 := hdW_len (m : Int) 1
  have l2 : (imN nilN).length = 16 := imN_length (by decide)
  unfold nwL
  rw [if_pos (mbB_yes ⟨by omega, by omega, by omega, by omega⟩), Int.toNat_natCast]
  have e1 : splice (List.replicate (16 * m) (0 : Int)) 0 (hdW m 1) = hdW m 1 ++ List.replicate (16 * m - 16) 0 := by
    unfold splice
    rw [l1, List.take_zero, List.nil_append, List.drop_replicate, Nat.zero_add]
  rw [e1]
  unfold splice
  rw [l2, List.take_append_of_le_length (by omega), List.take_of_length_le (by omega), List.drop_append, List.drop_eq_nil_of_le (by omega), List.nil_append, l1, List.drop_replicate]
  rw [show 16 * m - 16 - (16 + 16 - 16) = 16 * m - 32 by omega]
theorem nw_len {m : Nat} (h2 : 2 ≤ m) (h : m ≤ 256) : (nwL (m : Int)).length = 16 * m := by
  have l1 := hdW_len (m : Int) 1
  have l2 : (imN nilN).length = 16 := imN_length (by decide)
  rw [nw_form h2 h, List.length_append, List.length_append, l1, l2, List.length_replicate]
  omega
theorem nw_nb {m : Nat} (h2 : 2 ≤ m) (h : m ≤ 256) : nbI (nwL (m : Int)) = m := by
  unfold nbI
  rw [nw_len h2 h]
  omega
theorem nw_rt {m : Nat} (h2 : 2 ≤ m) (h : m ≤ 256) : rtI (nwL (m : Int)) = 1 := by
  unfold rtI
  rw [nw_form h2 h, hdW_eq]
  rfl
theorem nw_rd {m : Nat} (h2 : 2 ≤ m) (h : m ≤ 256) : rdB (nwL (m : Int)) = true := by
  unfold rdB
  rw [nw_nb h2 h, nw_rt h2 h, mbB_yes ⟨by omega, by omega, by omega, by omega⟩, Bool.true_and]
  refine decide_eq_true ?_
  rw [nw_form h2 h, List.take_append_of_le_length (by rw [hdW_len]; omega), List.take_of_length_le (by rw [hdW_len]; omega)]
theorem nw_rn {m : Nat} (h2 : 2 ≤ m) (h : m ≤ 256) : rnE (nwL (m : Int)) 1 = 0 ∧ rnN (nwL (m : Int)) 1 = nilN := by
  have l2 : (imN nilN).length = 16 := imN_length (by decide)
  have hk : rnK (nwL (m : Int)) 1 = true := rnK_iff.2 ⟨by omega, by rw [nw_len h2 h]; omega⟩
  have hb : bkL (nwL (m : Int)) 1 = imN nilN := by
    unfold bkL
    rw [nw_form h2 h, List.drop_append, List.drop_eq_nil_of_le (by rw [hdW_len]; decide), hdW_len, List.nil_append, show 16 * (1 : Int).toNat - 16 = 0 from rfl, List.drop_zero, List.take_append_of_le_length (by omega), List.take_of_length_le (by omega)]
  have ho : okB (bkL (nwL (m : Int)) 1) = true := by rw [hb]; exact ok_im nil_may
  refine ⟨(rn_ok hk ho).1, ?_⟩
  rw [(rn_ok hk ho).2, hb, gu_im nil_may]
theorem nw_lv {m : Nat} (h2 : 2 ≤ m) (h : m ≤ 256) : lvA (nwL (m : Int)) = some [1] := by
  obtain ⟨e1, e2⟩ := nw_rn h2 h
  unfold lvA
  rw [if_pos (nw_rd h2 h), lvF_step (by decide) (nd_yes e1) (by rw [e2]; rfl) (by simp), e2]
  exact lvF_end _ _ _
theorem nw_snd {m : Nat} (h2 : 2 ≤ m) (h : m ≤ 256) : sndB (nwL (m : Int)) = true := by
  obtain ⟨e1, e2⟩ := nw_rn h2 h
  unfold sndB
  rw [nw_lv h2 h]
  simp only
  unfold sdB
  dsimp only
  rw [nd_yes e1, e2]
  rfl
theorem nw_fits {m : Nat} (h2 : 2 ≤ m) (h : m ≤ 256) : Fits (nwL (m : Int)) := by
  have hq : 0 ≤ ckN (m : Int) ∧ ckN (m : Int) ≤ 4294967295 := by unfold ckN Sm.ofF; omega
  have hi : ∀ z ∈ imN nilN, -9223372036854775808 ≤ z ∧ z < 9223372036854775808 := by decide
  intro z hz
  rw [nw_form h2 h, hdW_eq, List.mem_append, List.mem_append] at hz
  rcases hz with hz | hz | hz
  · unfold hdQ at hz
    simp only [List.mem_cons, List.not_mem_nil, or_false] at hz
    omega
  · exact hi z hz
  · have := List.eq_of_mem_replicate hz
    omega
end Go.Proofs.YtcgclhahonndbaaGreat
namespace Go.Proofs.YtcgclhahonndbaaGreat
open Go.RowKit Go.Shelf
set_option linter.unusedVariables false
end Go.Proofs.YtcgclhahonndbaaGreat
namespace Go.Proofs.YtcgclhahonndbaaGreat
open Go.RowKit Go.Shelf
set_option linter.unusedVariables false
theorem rea_base {zs L : List Int} (h : ∀ b ∈ L, rnE zs b = 0) : ∀ s ∈ reaL (ndA zs) L, s ∈ lfL zs L := by
  intro s hs
  unfold reaL at hs
  unfold lfL
  rw [List.mem_flatMap] at hs ⊢
  obtain ⟨b, hb, hs⟩ := hs
  refine ⟨b, hb, ?_⟩
  rw [nd_yes (h b hb)] at hs
  exact hs
theorem rd_out {zs : List Int} (h : rdB zs = true) : (2 ≤ nbI zs ∧ nbI zs ≤ 256 ∧ 1 ≤ rtI zs ∧ rtI zs < nbI zs) ∧ zs.take 16 = hdW (nbI zs) (rtI zs) := by
  unfold rdB at h
  rw [Bool.and_eq_true, decide_eq_true_iff] at h
  exact ⟨mbB_iff.1 h.1, h.2⟩
/-- A leaf's slot is a record in the arena. -/
theorem slot_rec {zs L : List Int} (hL : lvA zs = some L) (hs : sndB zs = true) {b s : Int} (hb : b ∈ L) (hsl : s ∈ (rnN zs b).sl) : RrdE zs s = 0 := by
  obtain ⟨_, _, hok, _⟩ := lvA_out hL
  by_cases h : RrdE zs s = 0
  · exact h
  · have := sdB_damage (nd := ndA zs) (rc := rcA zs) (pl := plN) (nd_yes (hok b hb).2.1) (plN_has _ s hsl) (rc_no h) hb
    rw [← snd_of hL, hs] at this
    cases this
/-- From which key on a leaf of a sound arena is. -/
theorem low_get {zs L : List Int} (hL : lvA zs = some L) (hs : sndB zs = true) {i : Nat} {b : Int} (hb : L[i]? = some b) :
    loE zs b = 0 ∧ ((loS zs b).toList = [] ↔ i = 0) ∧ ∀ (j : Nat) c, i = j + 1 → L[j]? = some c → Op.bytesLess (loS zs c).toList (loS zs b).toList = true := by
  obtain ⟨_, _, hok, _⟩ := lvA_out hL
  have key : ∀ c ∈ L, ∀ m, lwA (ndA zs) (rcA zs) c = some m → loE zs c = 0 ∧ (loS zs c).toList = m := by
    intro c hc m hm
    have hE := (hok c hc).2.1
    unfold lwA at hm
    rw [nd_yes hE] at hm
    simp only at hm
    cases hK : lowK zs (rnN zs c) with
    | false => rw [low_no hK] at hm; cases hm
    | true =>
      rw [low_yes hK] at hm
      unfold loE loS
      rw [if_pos ⟨hE, hK⟩, if_pos ⟨hE, hK⟩]
      exact ⟨rfl, Option.some.inj hm⟩
  have hs' := hs
  rw [snd_of hL] at hs'
  obtain ⟨low, g1, g2, g3⟩ := sdB_get hs' i b hb
  obtain ⟨k1, k2⟩ := key b (List.mem_of_getElem? hb) low g1
  refine ⟨k1, by rw [k2]; exact g2, ?_⟩
  intro j c hj hc
  obtain ⟨m, q1, _⟩ := sdB_get hs' j c hc
  rw [k2, (key c (List.mem_of_getElem? hc) m q1).2]
  exact g3 j c m hj hc q1
end Go.Proofs.YtcgclhahonndbaaGreat
namespace Go.Proofs.YtcgclhahonndbaaGreat
open Go.RowKit
set_option maxRecDepth 100000 in
set_option maxHeartbeats 1000000 in
theorem numbers_any (u v : Value) (zs ys : List Int) (w : World) (hu : Rd w u zs) (hv : Rd w v ys) : Calls Tryz.prog 72 #[u, v] w fun e w' => e = .returned (.bool (decide (zs = ys))) ∧ Below w.heap.size w w' := by
  have hu' := hu
  have hv' := hv
  obtain ⟨hz, a, cap, rfl⟩ := hu.form
  obtain ⟨hy, a2, cap2, rfl⟩ := hv.form
  by_cases hl : zs.length = ys.length
  · have hl2 : ((zs.length : Int) != (ys.length : Int)) = false := by simp [hl]
    have Hl : Hid (zs.length = ys.length) := hl
    clear hl
    go_enter Tryz.func72, Tryz.ntmps72
    go_wp2
    go_loopw [5] (fun i w1 => ∃ k : Nat, k ≤ zs.length ∧ i = .int .i64 k ∧ zs.take k = ys.take k ∧ Below w.heap.size w w1) (fun i _ => zs.length - (Go.RowKit.intOf i).toNat)
    case atStart => exact ⟨0, Nat.zero_le _, rfl, rfl, Below.refl _ _⟩
    case round =>
      obtain ⟨k, hk, rfl, ht, hbel⟩ := hrel
      by_cases hlt : k < zs.length
      · have hlt2 : k < ys.length := by have := Hl.out; omega
        obtain ⟨b, off, rfl, hc⟩ := (hu'.below hbel).at k hlt
        obtain ⟨b2, off2, rfl, hc2⟩ := (hv'.below hbel).at k hlt2
        have Ht : Hid (zs.take k = ys.take k) := ht
        clear ht
        by_cases hne : zs[k] = ys[k]
        · have hne2 : (zs[k] != ys[k]) = false := by simpa using hne
          have Hn : Hid (zs.take (k + 1) = ys.take (k + 1)) := by rw [List.take_succ_eq_append_getElem hlt, List.take_succ_eq_append_getElem hlt2, Ht.out, hne]; exact rfl
          clear hne
          go_wp2
          go_quiet (fail)
          go_wp2
          go_roundw
          case rel => exact ⟨k + 1, by omega, by go_num, Hn.out, below_drewN hbel _⟩
          case measure => simp [Go.RowKit.intOf]; omega
        · have hne2 : (zs[k] != ys[k]) = true := by simpa using hne
          have Hn : Hid (decide (zs = ys) = false) := decide_eq_false (fun e => hne (by subst e; rfl))
          go_wp2
          go_quiet (fail)
          go_wp2
          go_ret
          exact ⟨ret_bool Hn.out.symm, below_drewN hbel _⟩
      · have hkk : k = zs.length := by omega
        have Hn : Hid (decide (zs = ys) = true) := decide_eq_true (by rw [List.take_of_length_le (by omega), List.take_of_length_le (by have := Hl.out; omega)] at ht; exact ht)
        clear ht
        go_wp2
        go_ret
        exact ⟨ret_bool Hn.out.symm, hbel⟩
  · have hl2 : ((zs.length : Int) != (ys.length : Int)) = true := by simp; omega
    go_enter Tryz.func72, Tryz.ntmps72
    go_wp2
    go_ret
    exact ⟨ret_bool (decide_eq_false (fun e => hl (by rw [e]))).symm, Below.refl _ _⟩
end Go.Proofs.YtcgclhahonndbaaGreat
namespace Go.Proofs.YtcgclhahonndbaaGreat
open Go.RowKit
set_option linter.unusedVariables false
/-- The same, by the document's own reading. -/
def geN (L : List Int) : Nd := ⟨(heI L).tmod 16, (heI L).tdiv 16, L.getD 1 0, L.getD 2 0, (L.drop 3).takeWhile (fun x => decide (x ≠ 0))⟩
def okR (L : List Int) : Bool := decide (0 ≤ L.getD 0 0 ∧ 0 ≤ heI L) && (nnB (geN L) && decide (imN (geN L) = L))
theorem ge_im {n : Nd} (h : May n) : geN (imN n) = n := by
  obtain ⟨e1, e2⟩ := num_im h
  have e3 : ((imN n).drop 3).takeWhile (fun x => decide (x ≠ 0)) = n.sl := while_pad _ (fun x hx => decide_eq_true (by have := h.sl x hx; omega)) rfl
  unfold geN
  rw [e1, e2, e3]
  rfl
/-- Both readings are one. -/
theorem ok_same (L : List Int) : okR L = okB L ∧ (okB L = true → geN L = guN L) := by
  have key : okB L = true → okR L = true ∧ geN L = guN L := by
    intro h
    obtain ⟨hm, he⟩ := okB_out h
    have h1 : geN L = guN L := by
      have := ge_im hm
      rwa [he] at this
    refine ⟨?_, h1⟩
    have h2 : heI L = 16 * (guN L).tu + (guN L).lv := by
      have := he_im hm
      rwa [he] at this
    have h3 : L.getD 0 0 = hdI (guN L).tu (guN L).lv := by
      have : (imN (guN L)).getD 0 0 = hdI (guN L).tu (guN L).lv := rfl
      rwa [he] at this
    unfold okR
    rw [h1, nnB_iff.2 hm, decide_eq_true he]
    have : 0 ≤ L.getD 0 0 ∧ 0 ≤ heI L := by
      rw [h2, h3]
      unfold hdI
      have := hm.l0
      have := hm.t0
      omega
    rw [decide_eq_true this]
    rfl
  refine ⟨?_, fun h => (key h).2⟩
  cases e : okB L with
  | true => exact (key e).1
  | false =>
    cases e2 : okR L with
    | false => rfl
    | true =>
      unfold okR at e2
      simp only [Bool.and_eq_true, decide_eq_true_eq] at e2
      have := ok_im (nnB_iff.1 e2.2.1)
      rw [e2.2.2, e] at this
      cases this
theorem lkB_iff {x : Int} : lkB x = true ↔ 0 ≤ x ∧ x ≤ 255 := by simp [lkB]
theorem slB_iff {x : Int} : slB x = true ↔ 1 ≤ x ∧ x ≤ 255 := by simp [slB]
end Go.Proofs.YtcgclhahonndbaaGreat
namespace Go.Proofs.YtcgclhahonndbaaGreat
open Go.RowKit Go.Shelf
set_option linter.unusedVariables false
set_option maxRecDepth 100000 in
theorem block_any (x : Int) (w : World) : Calls Tryz.prog 119 #[.int .i64 x] w fun e w' => e = .returned (.bool (lkB x)) ∧ w' = w := by
  by_cases h1 : x ≥ 0
  · by_cases h2 : x ≤ 255
    · have H : Hid (lkB x = true) := decide_eq_true ⟨h1, h2⟩
      go_enter Tryz.func119, Tryz.ntmps119
      go_wp2
      go_ret
      exact ⟨ret_bool H.out.symm, rfl⟩
    · have H : Hid (lkB x = false) := decide_eq_false (by omega)
      go_enter Tryz.func119, Tryz.ntmps119
      go_wp2
      go_ret
      exact ⟨ret_bool H.out.symm, rfl⟩
  · have H : Hid (lkB x = false) := decide_eq_false (by omega)
    go_enter Tryz.func119, Tryz.ntmps119
    go_wp2
    go_ret
    exact ⟨ret_bool H.out.symm, rfl⟩
set_option maxRecDepth 100000 in
theorem first_any (lv tu nx lo : Int) (v : Value) (w : World) (h0 : 0 ≤ lv) (h1 : lv ≤ 9) (h2 : 0 ≤ tu) (h3 : tu ≤ 1099511627776) : Calls Tryz.prog 101 #[.agg #[.int .i64 lv, .int .i64 tu, .int .i64 nx, .int .i64 lo, v]] w fun e w' => e = .returned (.int .i64 (hdI tu lv)) ∧ Below w.heap.size w w' := by
  go_enter Tryz.func101, Tryz.ntmps101
  go_wp2
  go_ret
  exact ⟨ret_int rfl, (Below.refl _ _).alloc (Nat.le_refl _) _⟩
end Go.Proofs.YtcgclhahonndbaaGreat
