/- Layer 12: the own pairs of some leaves, one leaf behind the other. -/
import Derived.Test.YtcgclhahonndbaaGreatPoc
namespace Go.Proofs.YtcgclhahonndbaaGreat
open Go.RowKit Go.Shelf
set_option linter.unusedVariables false
attribute [local go_sem] Oper.semAt_some

/-- The mark that a range over a function leaves among the deferred calls. -/
def mkD (D : Nat) : Deferred := { target := .collected D, args := #[] }
/-- Marks below one block: nothing is deferred behind any. -/
def MkL (n₀ top : Nat) (Bs : List Nat) (W : World) : Prop := Bs.Nodup ∧ ∀ D ∈ Bs, n₀ ≤ D ∧ D < top ∧ W.heap[D]? = some (.deferred (some []))
theorem MkL.own {n₀ top : Nat} {Bs : List Nat} {β : Type} : OwnFrom top (fun (_ : β) W => MkL n₀ top Bs W) := by
  rintro s W W' row ⟨h1, h2⟩ hg hr
  refine ⟨h1, fun D hD => ?_⟩
  obtain ⟨h3, h4, h5⟩ := h2 D hD
  refine ⟨h3, h4, (hg.block D (Array.getElem?_eq_some_iff.1 h5).1 (fun e => ?_)).trans h5⟩
  have := (hr D e.symm).1
  omega
theorem MkL.others {n₀ top : Nat} {Bs : List Nat} {W W' : World} (h : MkL n₀ top Bs W) (hk : KeepsOthers W W') : MkL n₀ top Bs W' :=
  ⟨h.1, fun D hD => ⟨(h.2 D hD).1, (h.2 D hD).2.1, hk.same D _ (h.2 D hD).2.2 rfl⟩⟩
theorem MkL.below {n₀ top : Nat} {Bs : List Nat} {W W' : World} (h : MkL n₀ top Bs W) (hb : Below W.heap.size W W') : MkL n₀ top Bs W' :=
  ⟨h.1, fun D hD => ⟨(h.2 D hD).1, (h.2 D hD).2.1, (hb.block D (Array.getElem?_eq_some_iff.1 (h.2 D hD).2.2).1).trans (h.2 D hD).2.2⟩⟩
theorem MkL.top {n₀ top top' : Nat} {Bs : List Nat} {W : World} (h : MkL n₀ top Bs W) (ht : top ≤ top') : MkL n₀ top' Bs W :=
  ⟨h.1, fun D hD => ⟨(h.2 D hD).1, Nat.lt_of_lt_of_le (h.2 D hD).2.1 ht, (h.2 D hD).2.2⟩⟩
theorem MkL.cons {n₀ top D : Nat} {Bs : List Nat} {W : World} (h : MkL n₀ top Bs W) (h0 : n₀ ≤ top) (hD : top ≤ D) (hd : W.heap[D]? = some (.deferred (some []))) : MkL n₀ W.heap.size (D :: Bs) W := by
  have hlt := (Array.getElem?_eq_some_iff.1 hd).1
  refine ⟨List.nodup_cons.2 ⟨fun hm => ?_, h.1⟩, fun E hE => ?_⟩
  · have := (h.2 D hm).2.1
    omega
  · rw [List.mem_cons] at hE
    rcases hE with rfl | hE
    · exact ⟨by omega, hlt, hd⟩
    · obtain ⟨a, b, c⟩ := h.2 E hE
      exact ⟨a, by omega, c⟩
/-- A function that leaves such marks behind it leaves. -/
theorem leave_marks {F : Fence} {n : Nat} {P : Program} {fn : Func} {tmps : Array Value} {R : Ending → World → Prop} {n₀ : Nat} : ∀ (Bs : List Nat) (W : World), Bs.Nodup → (∀ D ∈ Bs, n₀ ≤ D ∧ W.heap[D]? = some (.deferred (some []))) →
    (∀ W', Below n₀ W W' → (∀ (b : Nat) cs t fz, W.heap[b]? = some (Obj.cells cs t fz) → W'.heap[b]? = some (Obj.cells cs t fz)) → LeavesInM F n P fn tmps R [] .returning W') →
    LeavesInM F n P fn tmps R (Bs.map mkD) .returning W
  | [], W, _, _, h => h W (Below.refl _ _) (fun _ _ _ _ h => h)
  | D :: r, W, hn, hd, h => by
    obtain ⟨hn1, hn2⟩ := List.nodup_cons.1 hn
    obtain ⟨h1, h2⟩ := hd D (.head _)
    refine ⟨by simp, .inl ⟨D, _, rfl, run_takeDeferred h2, ?_⟩⟩
    have hb : Below n₀ W (W.putObj D (.deferred none)) := (Below.refl n₀ W).grown (grownBy_putObj' W D _) (by have := (Array.getElem?_eq_some_iff.1 h2).1; omega) (fun k e => by cases e; exact h1)
    refine leave_marks r _ hn2 (fun E hE => ?_) (fun W' hb' hc' => h W' (hb.trans hb') (fun b cs t fz hc => hc' b cs t fz ?_))
    · obtain ⟨g1, g2⟩ := hd E (.tail _ hE)
      refine ⟨g1, (World.putObj_heap_other (fun e => hn1 (by rw [← e]; exact hE))).trans g2⟩
    · refine (World.putObj_heap_other (fun e => ?_)).trans hc
      subst e
      rw [h2] at hc
      cases hc
/-- A pair in a box of its own. -/
def BxP (W : World) (b : Nat) (x : Pa) : Prop := W.heap[b]? = some (.cells #[.string x.k, .string x.v] 45 (0, 0))
theorem OwnP.keep {W W' : World} {base : Nat} {v : Value} {D : List Pa} (h : OwnP W base v D) (hc : ∀ (b : Nat) cs t fz, W.heap[b]? = some (Obj.cells cs t fz) → W'.heap[b]? = some (Obj.cells cs t fz)) : OwnP W' base v D := by
  refine ⟨h.1, ?_⟩
  rcases h.2 with hn | ⟨g, cap, cur, rfl, hg, hgg, rest⟩
  · exact .inl hn
  · exact .inr ⟨g, cap, cur, rfl, hg, hc _ _ _ _ hgg, rest⟩
theorem kp_app {W w1 : World} {B base k : Nat} {o : Value} {xs : List Value} {tmp : Obj} (v' : Value) (hv : Boxed W B 23 o) (hrow : W.ownsRow base 45 2 o k xs) (hg : (W.alloc tmp).grownBy w1 o.ownBlock) : Kp48 W (w1.setCell ⟨B, 0, none⟩ v') := by
  refine ⟨Nat.le_trans (Nat.le_succ _) (by have := hg.size; simpa using this), fun b cs fz hb => ?_⟩
  have hlt := (Array.getElem?_eq_some_iff.1 hb).1
  have h1 : b ≠ B := by
    rintro rfl
    rw [show W.heap[b]? = _ from hv] at hb
    cases hb
  have h2 : some b ≠ o.ownBlock := by
    rcases hrow.2 with ⟨rfl, _⟩ | ⟨g, cap, cur, rfl, _, hgb, _⟩
    · simp [Value.ownBlock]
    · intro e
      obtain rfl : b = g := by simpa [Value.ownBlock] using e
      rw [hgb] at hb
      cases hb
  refine (Below.heap_setCell w1 ⟨B, 0, none⟩ v' b h1).trans ?_
  exact (hg.block b (by simp; omega) h2).trans ((Below.heap_alloc W tmp b hlt).trans hb)
theorem pcs_single (x : Pa) : pcs [x] = pc1 x := by simp [pcs]
theorem lit_at (W : World) (t : TypeId) (cs : List Value) : ∀ (j : Nat) u, cs[j]? = some u → (W.alloc (.cells cs.toArray t)).cell? ((⟨W.heap.size, 0, none⟩ : Addr).add j) = some u := fun j u hu => by
  rw [Addr.add_lit, Nat.zero_add]
  have := World.cell?_alloc_at (w := W) cs.toArray t W.heap.size j rfl
  rw [this]
  simpa using hu
theorem flat_next {L : List Int} {k : Nat} {b : Int} (zs : List Int) (h : L[k]? = some b) : (L.take (k + 1)).flatMap (ownL zs) = (L.take k).flatMap (ownL zs) ++ ownL zs b := by
  rw [take_nextR h, List.flatMap_append]
  simp
theorem flat_len (zs : List Int) : ∀ (L : List Int), (L.flatMap (ownL zs)).length ≤ 13 * L.length
  | [] => Nat.le_refl _
  | b :: r => by
    rw [List.flatMap_cons, List.length_append, List.length_cons]
    have := ownL_len zs b
    have := flat_len zs r
    omega

set_option maxRecDepth 100000 in
set_option maxHeartbeats 4000000 in
theorem listed_any (va : Option Addr) (vc : Nat) (u : Value) (zs L : List Int) (w : World) (hR : Rl w (.slice va zs.length vc) zs) (hF : Fits zs) (hL : Rd w u L) (hl : L.length ≤ 300) :
    Calls Tryz.prog 23 #[.slice va zs.length vc, u] w fun e w' => ∃ v', e = .returned v' ∧ OwnP w' w.heap.size v' (L.flatMap (ownL zs)) ∧ Below w.heap.size w w' := by
  have HL : Hid (Rd w u L) := hL
  have HR : Hid (Rl w (.slice va zs.length vc) zs) := hR
  have HF : Hid (Fits zs) := hF
  obtain ⟨_, a, cap, rfl⟩ := hL.form
  clear hR hF hL
  obtain ⟨i0, hi, hz0, hz1, hz2⟩ := info_parts Tryz.info45
  obtain ⟨n, hn5⟩ : ∃ n, 5 ≤ n := ⟨5, by omega⟩
  have hro : Fence.wide.round = none := rfl
  have h1 : 1 ≤ n := by omega
  have h2 : 1 ≤ n - 1 := by omega
  have HB0 : Hid (Below w.heap.size w (w.alloc (.cells #[.slice none 0 0] 23))) := (Below.refl _ _).alloc (Nat.le_refl _) _
  refine (callsIn_wide (n := n)).1 ?_
  refine callsIn_of_wp_marks Tryz.func23 rfl trivial ?_ rfl
  simp only [Tryz.ntmps23, List.size_toArray, List.length_cons, List.length_nil, Nat.reduceAdd, Nat.reduceSub, Array.replicate_succ, Array.replicate_zero, List.push_toArray, List.append_toArray, List.nil_append, List.cons_append]
  gi_wp2
  refine wpIn_loop (fun a' w' => ∃ (k : Nat) (Bs : List Nat) (o u7 u12 u13 u14 u15 u16 u17 u23 : Value), k ≤ L.length ∧ Boxed w' w.heap.size 23 o ∧ OwnP w' w.heap.size o ((L.take k).flatMap (ownL zs)) ∧ Below w.heap.size w w' ∧ MkL w.heap.size w'.heap.size Bs w' ∧
      a' = { tmps := #[.slice va zs.length vc, .slice a L.length cap, undef, undef, .slice none 0 0, .pointer (some ⟨w.heap.size, 0, none⟩), undef, u7, undef, .slice a L.length cap, .int .i64 L.length, .int .i64 k, u12, u13, u14, u15, u16, u17, undef, undef, undef, undef, undef, u23, undef], defers := Bs.map mkD })
    (fun a' _ => L.length - (Go.RowKit.intOf (a'.tmps.getD 11 undef)).toNat) ?start ?round
  case start => exact ⟨0, [], _, _, _, _, _, _, _, _, _, Nat.zero_le _, Boxed.new _ _ _, OwnP.bare _ _, HB0.out, ⟨List.nodup_nil, fun D hD => by cases hD⟩, rfl⟩
  case round =>
    rintro a' wr ⟨k, Bs, o, u7, u12, u13, u14, u15, u16, u17, u23, hk, hbx, hown, hbel, hmk, rfl⟩
    have HX : Hid (Boxed wr w.heap.size 23 o) := hbx
    have HO : Hid (OwnP wr w.heap.size o ((L.take k).flatMap (ownL zs))) := hown
    have HB : Hid (Below w.heap.size w wr) := hbel
    have HM : Hid (MkL w.heap.size wr.heap.size Bs wr) := hmk
    have hcB := hbx.cell
    clear hbx hown hbel hmk
    by_cases hlt : k < L.length
    · have hltI : (k : Int) < (L.length : Int) := by omega
      obtain ⟨b, hb⟩ : ∃ b, L[k]? = some b := ⟨_, List.getElem?_eq_getElem hlt⟩
      obtain ⟨bb, off, e2, hcell⟩ := (HL.out.below HB.out).at k hlt
      have hs2 : L[k] = b := by rw [List.getElem?_eq_getElem hlt] at hb; exact Option.some.inj hb
      rw [hs2] at hcell
      cases e2
      have Hn : Hid ((L.take (k + 1)).flatMap (ownL zs) = (L.take k).flatMap (ownL zs) ++ ownL zs b) := flat_next zs hb
      have hlen := flat_len zs (L.take k)
      have hlen2 := ownL_len zs b
      rw [List.length_take] at hlen
      clear hb hs2
      gi_wp2_with (refine ⟨trivial, ?_⟩; gi_at_call 42; refine (own_in _ _ _ _ _ _).mono ?_; rintro e w1 ⟨rfl, rfl⟩)
      obtain ⟨wl, hwl⟩ : ∃ wl, wl = (wr.alloc (.cells #[.slice va zs.length vc] 22)).alloc (.cells #[.int .i64 b] 3) := ⟨_, rfl⟩
      have hszl : wl.heap.size = wr.heap.size + 2 := by rw [hwl]; simp
      have hbl : Below wr.heap.size wr wl := by rw [hwl]; exact ((Below.refl _ wr).alloc (Nat.le_refl _) _).alloc (by simp) _
      have hXl : Boxed wl w.heap.size 23 o := by rw [hwl]; exact (HX.out.alloc _).alloc _
      have hOl : OwnP wl w.heap.size o ((L.take k).flatMap (ownL zs)) := HO.out.below hbl
      have hBl : Below w.heap.size w wl := bstep HB.out hbl
      have hMl : MkL w.heap.size wl.heap.size Bs wl := (HM.out.below hbl).top (by omega)
      have hw : wl.cell? ⟨wr.heap.size, 0, none⟩ = some (.slice va zs.length vc) := by
        rw [hwl, World.cell?_alloc_past _ _ _ (by simp)]
        exact World.cell?_alloc_at _ _ _ _ rfl
      have hw2 : wl.cell? ⟨wr.heap.size + 1, 0, none⟩ = some (.int .i64 b) := by
        rw [hwl]
        exact World.cell?_alloc_at _ _ _ _ (by simp)
      have hRl : Rl wl (.slice va zs.length vc) zs := HR.out.below hBl
      rw [← hwl]
      clear hwl hbl hcell hcB
      generalize (L.take k).flatMap (ownL zs) = out0 at *
      have hwle : w.heap.size ≤ wl.heap.size := hBl.size
      refine wpIn_rangeFunc_ownH hro h1 (gf := 69) (lb := #[.pointer (some ⟨wr.heap.size, 0, none⟩), .pointer (some ⟨wr.heap.size + 1, 0, none⟩)]) rfl trivial (enters_of Tryz.func69 (by kernel_rfl) rfl)
        (own1_stops (n - 1) h2 wr.heap.size (wr.heap.size + 1) (.slice va zs.length vc) zs b wl HF.out hw hw2 hRl)
        (fun h k => h.trans k) (fun W l o o' _ hlo ho _ => Kp48.putObj hlo ho) (Below.refl _ _) (fun _ => rfl)
        (fun (pre : List Pa) W => (∃ o, Boxed W w.heap.size 23 o ∧ W.ownsRow w.heap.size 45 2 o (out0 ++ pre).length (pcs (out0 ++ pre)) ∧ True) ∧ (Below w.heap.size w W ∧ MkL w.heap.size wl.heap.size Bs W))
        (fun _ _ _ => False)
        (OwnFrom.and (Own.from (holdsRow_own w.heap.size w.heap.size 23 45 2 (fun (pre : List Pa) => (out0 ++ pre).length) (fun pre => pcs (out0 ++ pre)) (fun _ _ => True)) _) (OwnFrom.and (ownFrom_below (Nat.le_refl _) hwle) MkL.own))
        (fun _ _ _ _ _ hs _ _ => hs)
        ⟨⟨o, hXl, by rw [List.append_nil]; exact hOl, trivial⟩, hBl, hMl⟩
        (fun (x : Pa) a' W => ∃ Bx, BxP W Bx x ∧ a' = { tmps := #[.slice va zs.length vc, .slice (some ⟨bb, off, none⟩) L.length cap, undef, undef, .slice none 0 0, .pointer (some ⟨w.heap.size, 0, none⟩), undef, .int .i64 b, .pointer (some ⟨Bx, 0, none⟩), .slice (some ⟨bb, off, none⟩) L.length cap, .int .i64 L.length, .int .i64 k, .bool true, .pointer (some ⟨bb, off + k, none⟩), .int .i64 b, .slice va zs.length vc, .int .i64 b, .func (.func 69) #[] #[.pointer (some ⟨wr.heap.size, 0, none⟩), .pointer (some ⟨wr.heap.size + 1, 0, none⟩)], .agg #[.string x.k, .string x.v], undef, undef, undef, undef, u23, undef], defers := [] })
        ?hAx ?assign ?body ?done ?stop
      case hAx =>
        rintro x a' s W W' row ⟨Bx, hb9, e⟩ hg hr
        refine ⟨Bx, (hg.block Bx (Array.getElem?_eq_some_iff.1 hb9).1 (fun e' => ?_)).trans hb9, e⟩
        obtain ⟨_, o, ho, hc⟩ := hr Bx e'.symm
        rw [show W.heap[Bx]? = _ from hb9] at ho
        cases ho
        cases hc
      case assign =>
        rintro l pre x W K ⟨⟨o', hb', hr', _⟩, hbb, hmm⟩ hK
        gi_wp2
        exact hK _ _ ((KeepsOthers.alloc _ _).from _) (Kp48.below ((Below.refl _ _).alloc (Nat.le_refl _) _)) ⟨⟨o', hb'.alloc _, hr'.alloc _, trivial⟩, hbb.alloc hbb.size _, hmm.below ((Below.refl _ _).alloc (Nat.le_refl _) _)⟩ ⟨W.heap.size, heap_alloc_new W _, rfl⟩
      case body =>
        rintro l pre x a' W hl9 ⟨r, hr⟩ ⟨⟨o', hv, hrow, _⟩, hbb, hmm⟩ ⟨Bx, hbx2, rfl⟩ hlt9
        have c0 : W.cell? ⟨Bx, 0, none⟩ = some (.string x.k) := by simp [World.cell?, show W.heap[Bx]? = _ from hbx2]
        have c1 : W.cell? ⟨Bx, 1, none⟩ = some (.string x.v) := by simp [World.cell?, show W.heap[Bx]? = _ from hbx2]
        have hc := hv.cell
        have hsum : (out0 ++ pre).length ≤ 10000 := by rw [List.length_append]; omega
        have HM9 : Hid (MkL w.heap.size wl.heap.size Bs W) := hmm
        have HR9 : Hid (W.ownsRow w.heap.size 45 2 o' (out0 ++ pre).length (pcs (out0 ++ pre))) := hrow
        clear hmm hrow hbx2
        gi_wp2_with (gi_at_builtin; refine wpListIn_append_own _ rfl _ _ 23 rfl w.heap.size 45 i0 _ 2 32 Tryz.underlying23 hi hz0 hz1 hz2 rfl (by decide) _ _ _ rfl (HR9.out.alloc _) ⟨W.heap.size, 0, none⟩ 1 1 (pc1 x) rfl rfl (lit_at W 45 (pc1 x)) (by simp [pc1, Value.oneCell']) (by unfold maxLen; omega) (by omega) (by have := hbb.size; simp; omega) ?_; intro v' w1 hown' hgrow _; obtain ⟨g', cap', rfl⟩ := ownsRow_succ hown'; obtain ⟨hv1, hv2, hr2, hk2, hb2⟩ := hv.appended (by decide) HR9.out hbb.size (Nat.le_refl _) hown' hgrow; have hkp := kp_app (.slice (some ⟨g', 0, none⟩) ((out0 ++ pre).length + 1) cap') hv HR9.out hgrow; have hc1 := hv1.cell; have hf1 := hv1.frozen)
        rw [List.length_append] at hkp hv2 hr2 hk2 hb2
        exact ⟨hk2.from _, hkp, ⟨⟨_, hv2, by rw [← List.append_assoc, List.length_append, List.length_append, pcs_append, pcs_single]; exact hr2, trivial⟩, hbb.trans hb2, HM9.out.others hk2⟩⟩
      case done =>
        rintro D xs W hD rfl ⟨⟨o', hv, hrow, _⟩, hbb, hmm⟩ hKd
        have HV : Hid (Boxed W w.heap.size 23 o') := hv
        have HR9 : Hid (OwnP W w.heap.size o' ((L.take (k + 1)).flatMap (ownL zs))) := by (show OwnP _ _ _ _; rw [Hn.out]; exact hrow)
        have HM9 : Hid (MkL w.heap.size W.heap.size (D :: Bs) W) := hmm.cons hwle hD hKd
        clear hv hrow hmm hKd
        gi_wp2
        exact ⟨⟨k + 1, D :: Bs, o', _, _, _, _, _, _, _, _, by omega, HV.out, HR9.out, hbb, HM9.out, rfl⟩, by simp [Go.RowKit.intOf]; omega⟩
      case stop =>
        rintro D c pre W _ _ h _
        exact h.elim
    · have hge : ¬ (k : Int) < (L.length : Int) := by omega
      have HO2 : Hid (OwnP wr w.heap.size o (L.flatMap (ownL zs))) := by have := HO.out; rwa [List.take_of_length_le (by omega)] at this
      clear HO
      gi_wp2
      refine leave_marks (n₀ := w.heap.size) Bs wr HM.out.1 (fun D hD => ⟨(HM.out.2 D hD).1, (HM.out.2 D hD).2.2⟩) (fun W' hb' hc' => ?_)
      exact ⟨_, results_tmp rfl _ _ _, o, rfl, HO2.out.keep hc', HB.out.trans hb'⟩
end Go.Proofs.YtcgclhahonndbaaGreat
