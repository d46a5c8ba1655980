/- Layer 12: the records that have a leaf's own keys. · Layer 12: a leaf's own pairs, one behind the other. -/
import Derived.Test.YtcgclhahonndbaaGreatPoa
import Derived.RangeFuncBox
import Derived.RangeFuncNested
import Derived.RangeFuncBound
import Derived.RangeFuncCalls
import Derived.RangeFuncLeaves
import Derived.Shelf.Abstract
import Derived.Shelf.RegionOpen
import Derived.OwnWalkIn
import Derived.TacticsInMore
import Derived.LoopNIn
import Derived.LoopIn
import Derived.Maps.AppendAt
namespace Go.Proofs.YtcgclhahonndbaaGreat
open Go.RowKit Go.Shelf
set_option linter.unusedVariables false

/-- A leaf's records; those that have its own keys. -/
def slR (zs : List Int) (b : Int) : List Rc := (plN (rnN zs b).sl).map (rdX zs)
def cutR (zs : List Int) (b : Int) : List Rc := if (rnN zs b).nx = 0 then slR zs b else (slR zs b).take (fiG (fun x => !tL x.key (loS zs (rnN zs b).nx)) (slR zs b))
theorem sl_small (zs : List Int) (b : Int) : (rnN zs b).sl.length ≤ 13 ∧ ∀ x ∈ (rnN zs b).sl, 1 ≤ x ∧ x ≤ 255 := by
  cases hk : rnK zs b with
  | false => rw [(rn_out hk).2]; exact ⟨by decide, fun x hx => by cases hx⟩
  | true =>
    cases ho : okB (bkL zs b) with
    | false => rw [(rn_bad hk ho).2]; exact ⟨by decide, fun x hx => by cases hx⟩
    | true =>
      have h := (rn_may (rn_ok hk ho).1).2
      exact ⟨h.len, h.sl⟩
theorem rxs_single (x : Rc) : rxs [x] = rx1 x := by simp [rxs]
theorem plN_le : ∀ (l : List Int), (plN l).length ≤ l.length
  | [] => Nat.le_refl _
  | x :: r => by
    rw [plN_cons]
    split
    · exact Nat.le_succ_of_le (plN_le r)
    · exact Nat.succ_le_succ (plN_le r)

set_option maxRecDepth 100000 in
set_option maxHeartbeats 2000000 in
theorem ownRecords_any (v : Value) (zs : List Int) (b : Int) (w : World) (hR : Rl w v zs) (hF : Fits zs) : Calls Tryz.prog 70 #[v, .int .i64 b] w fun e w' => ∃ v', e = .returned v' ∧ OwR w' w.heap.size v' (cutR zs b) ∧ Below w.heap.size w w' := by
  have HR : Hid (Rl w v zs) := hR
  have HF : Hid (Fits zs) := hF
  obtain ⟨hsl, hsb⟩ := sl_small zs b
  have hpl := plN_le (rnN zs b).sl
  have HC : Hid (cutR zs b = if (rnN zs b).nx = 0 then slR zs b else (slR zs b).take (fiG (fun x => !tL x.key (loS zs (rnN zs b).nx)) (slR zs b))) := rfl
  have HSL : Hid (slR zs b = (plN (rnN zs b).sl).map (rdX zs)) := rfl
  have K57 : Hid (∀ W, Rl W v zs → Calls Tryz.prog 94 #[v, .int .i64 b] W fun e w' => ∃ v', e = .returned (.tuple #[.agg #[.int .i64 (rnN zs b).lv, .int .i64 (rnN zs b).tu, .int .i64 (rnN zs b).nx, .int .i64 (rnN zs b).lo, v'], .int .i64 (rnE zs b)]) ∧ OwnI w' W.heap.size v' (rnN zs b).sl ∧ Below W.heap.size W w') := fun W h => read_any v zs b W h
  have hsb2 : ∀ x ∈ plN (rnN zs b).sl, 1 ≤ x ∧ x ≤ 255 := fun x hx => hsb x (plN_sub _ x hx)
  clear hsb hR hF
  obtain ⟨P, hP⟩ : ∃ P, P = plN (rnN zs b).sl := ⟨_, rfl⟩
  obtain ⟨S, hS⟩ : ∃ S, S = slR zs b := ⟨_, rfl⟩
  obtain ⟨C, hC⟩ : ∃ C, C = cutR zs b := ⟨_, rfl⟩
  obtain ⟨E, hE⟩ : ∃ E, E = rnE zs b := ⟨_, rfl⟩
  rw [← hP] at hpl hsb2 HSL
  rw [← hS] at HSL HC
  rw [← hC] at HC ⊢
  rw [← hE] at K57
  have HP : Hid (plN (rnN zs b).sl = P) := hP.symm
  clear hP hS hC hE
  generalize rnN zs b = N at *
  obtain ⟨lv, tu, nx, lo, sl⟩ := N
  dsimp only at hsl hpl HC K57 HP
  have HB2 : Hid (∀ x ∈ P, 1 ≤ x ∧ x ≤ 255) := hsb2
  have hPl : P.length ≤ 13 := Nat.le_trans hpl hsl
  clear hsb2 hpl
  obtain ⟨i0, hi, hz0, hz1, hz2⟩ := info_parts Tryz.info40
  go_enter Tryz.func70, Tryz.ntmps70
  go_wp2_with (first
    | (go_at_call 94; refine (K57.out _ HR.out).mono ?_; rintro e w1 ⟨v1, rfl, r1, hb1⟩; obtain ⟨a1, c1, rfl⟩ := r1.form; have N1 : Hid (Nb (w1.alloc (.cells #[.int .i64 lv, .int .i64 tu, .int .i64 nx, .int .i64 lo, .slice a1 sl.length c1] 43)) w1.heap.size lv tu nx lo (.slice a1 sl.length c1)) := heap_alloc_new w1 _; obtain ⟨n0, n1, n2, n3, n4⟩ := N1.out.c; have R1 : Hid (Rd (w1.alloc (.cells #[.int .i64 lv, .int .i64 tu, .int .i64 nx, .int .i64 lo, .slice a1 sl.length c1] 43)) (.slice a1 sl.length c1) sl) := (r1.rd (Nat.le_trans hsl (by omega))).below ((Below.refl _ _).alloc (Nat.le_refl _) _); have B1 : Hid (Below w.heap.size w (w1.alloc (.cells #[.int .i64 lv, .int .i64 tu, .int .i64 nx, .int .i64 lo, .slice a1 sl.length c1] 43))) := pal hb1 _; clear r1 hb1)
    | (go_at_call 95; refine (plain_any _ sl _ R1.out).mono ?_; rintro e w2 ⟨v2, rfl, r2, hb2⟩; rw [HP.out] at r2; obtain ⟨_, a2, c2, rfl⟩ := r2.form; have R2 : Hid (Rd w2 (.slice a2 P.length c2) P) := r2; have B2 : Hid (Below w.heap.size w w2) := bstep B1.out hb2; have N2 : Hid (Nb w2 w1.heap.size lv tu nx lo (.slice a1 sl.length c1)) := N1.out.below hb2; clear r2 hb2 n0 n1 n2 n3 n4))
  go_loopw [7, 24] (fun s7 i wr => ∃ (k : Nat) (o : Value), k ≤ P.length ∧ o = s7 ∧ i = .int .i64 k ∧ wr.ownsRow w2.heap.size 40 4 o ((P.take k).map (rdX zs)).length (rxs ((P.take k).map (rdX zs))) ∧ Below w2.heap.size w2 wr) (fun _ i _ => P.length - (Go.RowKit.intOf i).toNat)
  case atStart => exact ⟨0, _, Nat.zero_le _, rfl, rfl, World.ownsRow_nil _ _ _ _, Below.refl _ _⟩
  case round =>
    obtain ⟨k, o7, hk, rfl, rfl, hown, hbel⟩ := hrel
    have HO : Hid (wr.ownsRow w2.heap.size 40 4 o7 ((P.take k).map (rdX zs)).length (rxs ((P.take k).map (rdX zs)))) := hown
    have HB : Hid (Below w2.heap.size w2 wr) := hbel
    clear hown hbel
    by_cases hlt : k < P.length
    · have hltI : (k : Int) < (P.length : Int) := by omega
      obtain ⟨s, hs⟩ : ∃ s, P[k]? = some s := ⟨_, List.getElem?_eq_getElem hlt⟩
      obtain ⟨bb, off, e2, hcell⟩ := (R2.out.below HB.out).at k hlt
      have hs2 : P[k] = s := by rw [List.getElem?_eq_getElem hlt] at hs; exact Option.some.inj hs
      cases e2
      rw [hs2] at hcell
      have hsb := HB2.out s (List.mem_of_getElem? hs)
      have K76 : Hid (∀ W, Rl W v zs → Calls Tryz.prog 96 #[v, .int .i64 s] W fun e w' => e = .returned (.tuple #[.agg #[.int .i64 (rdX zs s).k, .string (rdX zs s).key, .string (rdX zs s).val, .int .i64 (rdX zs s).ch], .int .i64 (RrdE zs s)]) ∧ Below W.heap.size W w') := fun W h => Rread_any v zs s W h HF.out (by omega)
      have Hnext : Hid ((P.take (k + 1)).map (rdX zs) = (P.take k).map (rdX zs) ++ [rdX zs s]) := by
        show _ = _
        rw [take_nextR hs, List.map_append]
        rfl
      have hlen : ((P.take k).map (rdX zs)).length ≤ 13 := by rw [List.length_map, List.length_take]; omega
      clear hs hs2 hsb
      generalize rdX zs s = x at *
      go_wp2_with (first
        | (go_at_call 96; refine (K76.out _ (HR.out.below (bstep B2.out HB.out))).mono ?_; rintro e w3 ⟨rfl, hb3⟩; have B3 : Hid (Below w2.heap.size w2 (w3.alloc (.cells #[.int .i64 x.k, .string x.key, .string x.val, .int .i64 x.ch] 40))) := pal (bstep HB.out hb3) _; have O3 : Hid ((w3.alloc (.cells #[.int .i64 x.k, .string x.key, .string x.val, .int .i64 x.ch] 40)).ownsRow w2.heap.size 40 4 o7 ((P.take k).map (rdX zs)).length (rxs ((P.take k).map (rdX zs)))) := own_below HO.out (bstep hb3 ((Below.refl _ _).alloc (Nat.le_refl _) _)); clear hb3)
        | (at_builtin; refine append_rdc rfl _ _ 102 rfl w2.heap.size 40 4 _ 48 Tryz.underlying102 Tryz.info40 rfl (by decide) (by decide) _ _ _ rfl (own_below O3.out ((Below.refl _ _).alloc (Nat.le_refl _) _)) _ 1 (rx1 x) rfl (lit_rdc _ 40 (rx1 x) 4 _ rfl (by simp)) (rx1_one x) (by omega) (by have := B3.out.size; simp at this ⊢; omega) ?_; intro v4 w4 o4 g4; have B4 : Hid (Below w2.heap.size w2 w4) := (pal B3.out _).grown g4 (by have := B3.out.size; simp at this ⊢; omega) (fun q hq => (World.ownsRow.lt O3.out q hq).1); have O4 : Hid (w4.ownsRow w2.heap.size 40 4 v4 ((P.take (k + 1)).map (rdX zs)).length (rxs ((P.take (k + 1)).map (rdX zs)))) := (by rw [Hnext.out, List.length_append, rxs_append, rxs_single]; exact o4); clear o4 g4))
      go_roundw
      case rel => exact ⟨k + 1, _, by omega, rfl, by go_num, O4.out, B4.out⟩
      case measure => simp [Go.RowKit.intOf]; omega
    · have hge : ¬ (k : Int) < (P.length : Int) := by omega
      have Hall : Hid ((P.take k).map (rdX zs) = S) := by (show _ = _; rw [List.take_of_length_le (by omega), HSL.out])
      have HS2 : Hid (wr.ownsRow w2.heap.size 40 4 o7 S.length (rxs S)) := by have := HO.out; rwa [Hall.out] at this
      have NR : Hid (Nb wr w1.heap.size lv tu nx lo (.slice a1 sl.length c1)) := N2.out.below HB.out
      have Bw : Hid (Below w.heap.size w wr) := bstep B2.out HB.out
      obtain ⟨m0, m1, m2, m3, m4⟩ := NR.out.c
      clear HO Hall
      by_cases hx : nx = 0
      · have hx2 : (nx == 0) = true := by simpa using hx
        have HCe : Hid (C = S) := by (show _ = _; rw [HC.out, if_pos hx])
        clear hx
        go_wp2
        go_ret
        exact ⟨_, rfl, by rw [HCe.out]; exact (OwR.of_own (own_mono HS2.out B2.out.size)), Bw.out⟩
      · have hx2 : (nx == 0) = false := by simpa using hx
        have HCe : Hid (C = S.take (fiG (fun x => !tL x.key (loS zs nx)) S)) := by (show _ = _; rw [HC.out, if_neg hx])
        have hfl := fiG_le (t := fun x : Rc => !tL x.key (loS zs nx)) S
        have K12 : Hid (∀ W, Rl W v zs → Calls Tryz.prog 97 #[v, .int .i64 nx] W fun e w' => e = .returned (.tuple #[.string (loS zs nx), .int .i64 (loE zs nx)]) ∧ Below W.heap.size W w') := fun W h => low_any v zs nx W h HF.out
        have OS : Hid (OwR wr w2.heap.size o7 S) := OwR.of_own HS2.out
        clear hx HC HSL
        generalize loS zs nx = T at *
        generalize loE zs nx = TE at *
        obtain ⟨f, hf⟩ : ∃ f, f = fiG (fun x : Rc => !tL x.key T) S := ⟨_, rfl⟩
        rw [← hf] at HCe hfl
        have PR : Hid (∀ g W, OwR W w2.heap.size o7 S → W.cell? ⟨g, 0, none⟩ = some (.string T) → Calls Tryz.prog 98 #[o7, .func (.func 99) #[] #[.pointer (some ⟨g, 0, none⟩)]] W fun e w' => e = .returned (.int .i64 (f : Nat)) ∧ Below W.heap.size W w') := fun g W h hc => by
          rw [hf]
          exact placeR_any 99 #[.pointer (some ⟨g, 0, none⟩)] (fun x => !tL x.key T) (enters_of Tryz.func99 (by kernel_rfl) rfl) w2.heap.size o7 S W h (fun p W' hb => ge_any p T g W' ((hb.cell (p := ⟨g, 0, none⟩) (World.block_lt_of_cell? _ _ hc)).trans hc))
        have hmf : ∀ (fn : Fn) (first cap : Array Value) (w : World), (Instr.makeFunc fn first cap).run Tryz.prog w = .ok (.func fn first cap) w := fun _ _ _ _ => rfl
        clear hf HS2
        obtain ⟨oa, oc, rfl, ho1, ho2, ho3⟩ := OS.out
        have hfI : (f : Int) ≤ (S.length : Int) := by omega
        have hfc : (f : Int) ≤ (oc : Int) := by omega
        unfold maxLen at ho2
        go_wp2_with (first
          | (go_at_call 97; refine (K12.out _ (HR.out.below Bw.out)).mono ?_; rintro e w4 ⟨rfl, hb4⟩; have hcn : (w4.alloc (.cells #[.string T] 9)).cell? ⟨w4.heap.size, 0, none⟩ = some (.string T) := (by have := cell_one_new w4 (.string T) 9 0 (.string T) rfl; rwa [Addr.add_lit] at this); have B4 : Hid (Below wr.heap.size wr (w4.alloc (.cells #[.string T] 9))) := pal hb4 _; clear hb4)
          | (go_at_call 98; refine (PR.out _ _ (OS.out.below B4.out) hcn).mono ?_; rintro e w5 ⟨rfl, hb5⟩; have B5 : Hid (Below wr.heap.size wr w5) := bstep B4.out hb5; have O5 : Hid (OwR w5 w2.heap.size (.slice oa S.length oc) S) := OS.out.below B5.out; clear hb5))
        go_ret
        refine ⟨_, rfl, ?_, bstep Bw.out B5.out⟩
        rw [HCe.out]
        obtain ⟨a5, c5, e5, h51, h52, h53⟩ := O5.out
        cases e5
        have hlf : (S.take f).length = f := by rw [List.length_take]; omega
        refine ⟨oa, oc, by rw [hlf]; rfl, by omega, h52, ?_⟩
        rcases h53 with ⟨h0, hn⟩ | ⟨g, e, h4, h5⟩
        · exact .inl ⟨by rw [h0]; simp, hn⟩
        · exact .inr ⟨g, e, Nat.le_trans B2.out.size h4, h5.take f⟩
end Go.Proofs.YtcgclhahonndbaaGreat
namespace Go.Proofs.YtcgclhahonndbaaGreat
open Go.RowKit Go.Shelf
set_option linter.unusedVariables false
attribute [local go_sem] Oper.semAt_some

/-- All blocks of records are kept. -/
structure Kp48 (W W' : World) : Prop where
  size : W.heap.size ≤ W'.heap.size
  same : ∀ (b : Nat) cs fz, W.heap[b]? = some (Obj.cells cs 40 fz) → W'.heap[b]? = some (Obj.cells cs 40 fz)
theorem Kp48.refl (W : World) : Kp48 W W := ⟨Nat.le_refl _, fun _ _ _ h => h⟩
theorem Kp48.trans {A B C : World} (h : Kp48 A B) (k : Kp48 B C) : Kp48 A C := ⟨Nat.le_trans h.size k.size, fun b cs fz hb => k.same b cs fz (h.same b cs fz hb)⟩
theorem Kp48.below {W W' : World} (h : Below W.heap.size W W') : Kp48 W W' := ⟨h.size, fun b cs fz hb => (h.block b (Array.getElem?_eq_some_iff.1 hb).1).trans hb⟩
theorem Kp48.putObj {W : World} {l : Nat} {o o' : Obj} (h : W.heap[l]? = some o) (ho : o.isCells = false) : Kp48 W (W.putObj l o') := by
  refine ⟨by simp, fun b cs fz hb => ?_⟩
  by_cases e : b = l
  · subst e
    rw [h] at hb
    cases hb
    cases ho
  · exact (World.putObj_heap_other e).trans hb
theorem OwR.kp {W W' : World} {base : Nat} {v : Value} {D : List Rc} (h : OwR W base v D) (hk : Kp48 W W') : OwR W' base v D := by
  obtain ⟨a, c, e, h1, h2, h3⟩ := h
  refine ⟨a, c, e, h1, h2, ?_⟩
  rcases h3 with h | ⟨g, e, h4, h5⟩
  · exact .inl h
  · exact .inr ⟨g, e, h4, h5.of_blk fun cs fz hc => hk.same g cs fz hc⟩
theorem grown_of {W W' : World} (h : Below W.heap.size W W') : W.grownBy W' none := ⟨h.os, h.tape, h.output, h.size, fun k hk _ => h.block k hk⟩
/-- A record's pair; a leaf's own pairs. -/
def prR (x : Rc) : Pa := ⟨x.key, x.val⟩
def ownL (zs : List Int) (b : Int) : List Pa := (cutR zs b).map prR
theorem cutR_len (zs : List Int) (b : Int) : (cutR zs b).length ≤ 13 := by
  have h1 : (slR zs b).length ≤ 13 := by
    unfold slR
    rw [List.length_map]
    exact Nat.le_trans (plN_le _) (sl_small zs b).1
  unfold cutR
  split
  · exact h1
  · rw [List.length_take]; omega
theorem ownL_len (zs : List Int) (b : Int) : (ownL zs b).length ≤ 13 := by unfold ownL; rw [List.length_map]; exact cutR_len zs b

set_option maxRecDepth 100000 in
set_option maxHeartbeats 2000000 in
/-- The closure, for every loop body that keeps the blocks of records. -/
theorem own1_in (n : Nat) (hn : 1 ≤ n) (l Bw Bl : Nat) (v : Value) (zs : List Int) (b : Int) (J Jx : List Pa → World → Prop) (hF : Fits zs) (W : World) (hJ : AbidesFrom W.heap.size J)
    (hY : ∀ pre x W1, J pre W1 → pre.length < (ownL zs b).length → YieldAt Fence.wide (n - 1) Tryz.prog l #[.agg #[.string x.k, .string x.v]] W1 fun e W' =>
      (e = .returned (.bool true) ∧ J (pre ++ [x]) W' ∧ Kp48 W1 W') ∨ (e = .returned (.bool false) ∧ Jx (pre ++ [x]) W'))
    (hw : W.cell? ⟨Bw, 0, none⟩ = some v) (hl : W.cell? ⟨Bl, 0, none⟩ = some (.int .i64 b)) (hR : Rl W v zs) (h0 : J [] W) :
    CallsIn Fence.wide n Tryz.prog 69 #[.func (.yield l) #[] #[], .pointer (some ⟨Bw, 0, none⟩), .pointer (some ⟨Bl, 0, none⟩)] W fun e W' => (∃ v, e = .returned v) ∧
      ((∃ ys, ys = ownL zs b ∧ J ys W') ∨ (∃ pre, True ∧ Jx pre W')) := by
  obtain ⟨_, va, vc, rfl, _⟩ := hR.form
  have K73 := ownRecords_any (.slice va zs.length vc) zs b W hR hF
  have hCl := cutR_len zs b
  have HO : Hid (ownL zs b = (cutR zs b).map prR) := rfl
  have HJ : Hid (AbidesFrom W.heap.size J) := hJ
  have HY : Hid (∀ pre x W1, J pre W1 → pre.length < (ownL zs b).length → YieldAt Fence.wide (n - 1) Tryz.prog l #[.agg #[.string x.k, .string x.v]] W1 fun e W' => (e = .returned (.bool true) ∧ J (pre ++ [x]) W' ∧ Kp48 W1 W') ∨ (e = .returned (.bool false) ∧ Jx (pre ++ [x]) W')) := hY
  have H0 : Hid (J [] W) := h0
  clear hJ hY h0
  have K : Hid (Calls Tryz.prog 70 #[.slice va zs.length vc, .int .i64 b] W fun e w' => ∃ v', e = .returned v' ∧ OwR w' W.heap.size v' (cutR zs b) ∧ Below W.heap.size W w') := K73
  clear K73
  generalize ownL zs b = O at *
  generalize cutR zs b = C at *
  have hro : Fence.wide.round = none := rfl
  refine callsIn_of_wp Tryz.func69 rfl trivial ?_ hro
  simp only [Tryz.ntmps69, List.size_toArray, List.length_cons, List.length_nil, Nat.reduceAdd, Nat.reduceSub, Array.replicate_succ, Array.replicate_zero, List.push_toArray, List.append_toArray, List.nil_append, List.cons_append]
  gi_wp2_with (first
    | (refine ⟨trivial, ?_⟩; gi_at_call 70; refine (callsIn_wide.2 K.out).mono ?_; rintro e W1 ⟨v1, rfl, o1, hb1⟩; obtain ⟨oa, oc, rfl, ho1, ho2, ho3⟩ := o1; have O1 : Hid (OwR W1 W.heap.size (.slice oa C.length oc) C) := ⟨oa, oc, rfl, ho1, ho2, ho3⟩; have J1 : Hid (J [] W1) := HJ.out _ _ _ none H0.out (grown_of hb1) (fun r e => by cases e); clear ho3))
  unfold maxLen at ho2
  gi_loopw [10] (fun i wr => ∃ k : Nat, k ≤ C.length ∧ i = .int .i64 k ∧ J ((C.take k).map prR) wr ∧ OwR wr W.heap.size (.slice oa C.length oc) C) (fun i _ => C.length - (Go.RowKit.intOf i).toNat)
  case atStart => exact ⟨0, Nat.zero_le _, rfl, J1.out, O1.out⟩
  case round =>
    obtain ⟨k, hk, rfl, hJ, hO⟩ := hrel
    have JR : Hid (J ((C.take k).map prR) wr) := hJ
    have OR : Hid (OwR wr W.heap.size (.slice oa C.length oc) C) := hO
    clear hJ hO
    by_cases hlt : k < C.length
    · have hltI : (k : Int) < (C.length : Int) := by omega
      obtain ⟨x, hx⟩ : ∃ x, C[k]? = some x := ⟨_, List.getElem?_eq_getElem hlt⟩
      obtain ⟨a', c', e', _, _, h3⟩ := OR.out
      cases e'
      rcases h3 with ⟨h0, _⟩ | ⟨g, rfl, _, hbk⟩
      · rw [h0] at hlt; simp at hlt
      obtain ⟨x0, x1, x2, x3⟩ := hbk.at' k x hx
      have Hn : Hid ((C.take (k + 1)).map prR = (C.take k).map prR ++ [prR x]) := by (show _ = _; rw [take_nextR hx, List.map_append]; rfl)
      have hJa := HJ.out _ _ _ none JR.out (World.grownBy_alloc wr (.cells #[.int .i64 x.k, .string x.key, .string x.val, .int .i64 x.ch] 40) none) (fun r e => by cases e)
      have OA : Hid (OwR (wr.alloc (.cells #[.int .i64 x.k, .string x.key, .string x.val, .int .i64 x.ch] 40)) W.heap.size (.slice (some ⟨g, 0, none⟩) C.length oc) C) := OR.out.below ((Below.refl _ _).alloc (Nat.le_refl _) _)
      obtain ⟨fn, tmps, assign, body, hy, hRd⟩ := HY.out _ (prR x) _ hJa (by rw [HO.out, List.length_map, List.length_map, List.length_take]; omega)
      rw [← Hn.out] at hRd
      have hy2 : (Instr.yield l #[.agg #[.string x.key, .string x.val]]).run Tryz.prog (wr.alloc (.cells #[.int .i64 x.k, .string x.key, .string x.val, .int .i64 x.ch] 40)) = .ok (.round l fn tmps assign body) (wr.alloc (.cells #[.int .i64 x.k, .string x.key, .string x.val, .int .i64 x.ch] 40)) := hy
      clear hx hbk hy hJa
      gi_wp2
      refine hRd.mono ?_
      rintro e W3 (⟨rfl, hJ3, hk3⟩ | ⟨rfl, hJx3⟩)
      · gi_wp2
        exact ⟨⟨k + 1, by omega, by go_num, hJ3, OA.out.kp hk3⟩, by simp [Go.RowKit.intOf]; omega⟩
      · gi_wp2
        refine bodyPost_ret (results_none rfl _ _ _) rfl ?_
        exact ⟨⟨_, rfl⟩, .inr ⟨_, trivial, hJx3⟩⟩
    · have hge : ¬ (k : Int) < (C.length : Int) := by omega
      have Hn : Hid ((C.take k).map prR = O) := by (show _ = _; rw [List.take_of_length_le (by omega), HO.out])
      gi_wp2
      go_end0
      exact ⟨⟨_, rfl⟩, .inl (by rw [← Hn.out]; exact JR.out)⟩
theorem own1_stops (n : Nat) (hn : 1 ≤ n) (Bw Bl : Nat) (v : Value) (zs : List Int) (b : Int) (w : World) (hF : Fits zs) (hw : w.cell? ⟨Bw, 0, none⟩ = some v) (hl : w.cell? ⟨Bl, 0, none⟩ = some (.int .i64 b)) (hR : Rl w v zs) :
    SeqStopsK Fence.wide n Tryz.prog 69 #[.pointer (some ⟨Bw, 0, none⟩), .pointer (some ⟨Bl, 0, none⟩)] (fun x : Pa => #[.agg #[.string x.k, .string x.v]]) Kp48 (fun ys => ys = ownL zs b) (fun _ => True) (ownL zs b).length w := fun l J Jx W hW hJ _ hY h0 =>
  own1_in n hn l Bw Bl v zs b J Jx hF W hJ hY ((hW.cell (p := ⟨Bw, 0, none⟩) (World.block_lt_of_cell? _ _ hw)).trans hw) ((hW.cell (p := ⟨Bl, 0, none⟩) (World.block_lt_of_cell? _ _ hl)).trans hl) (hR.below hW) h0
set_option maxHeartbeats 1000000 in
theorem own_in (n : Nat) (va : Option Addr) (vl vc : Nat) (b : Int) (w : World) :
    CallsIn Fence.wide n Tryz.prog 42 #[.slice va vl vc, .int .i64 b] w fun e w' => e = .returned (.func (.func 69) #[] #[.pointer (some ⟨w.heap.size, 0, none⟩), .pointer (some ⟨w.heap.size + 1, 0, none⟩)]) ∧ w' = (w.alloc (.cells #[.slice va vl vc] 22)).alloc (.cells #[.int .i64 b] 3) := by
  have hro : Fence.wide.round = none := rfl
  have hmf : ∀ (fn : Fn) (first cap : Array Value) (w : World), (Instr.makeFunc fn first cap).run Tryz.prog w = .ok (.func fn first cap) w := fun _ _ _ _ => rfl
  refine callsIn_of_wp Tryz.func42 rfl trivial ?_ hro
  simp only [Tryz.ntmps42, List.size_toArray, List.length_cons, List.length_nil, Nat.reduceAdd, Nat.reduceSub, Array.replicate_succ, Array.replicate_zero, List.push_toArray, List.append_toArray, List.nil_append, List.cons_append]
  gi_wp2
  go_ret
  exact ⟨rfl, rfl⟩
end Go.Proofs.YtcgclhahonndbaaGreat
