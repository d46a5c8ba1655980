/- Walks of layer 6: fills that are read, rows of the call's own; put. -/
import Derived.Test.YtoboiahknapddaaFasta
import Derived.Test.YtoboiahknapddaaWalkf
namespace Go.Proofs.Ytoboiahknapddaa
open Go.RowKit Go.Shelf
set_option linter.unusedVariables false

/-- The cells of fills. -/
def fc1 (x : Fl) : List Value := [.int .i64 x.s, .int .i64 x.v]
def fcs (l : List Fl) : List Value := l.flatMap fc1
theorem fcs_append (ps qs : List Fl) : fcs (ps ++ qs) = fcs ps ++ fcs qs := by simp [fcs]
theorem fcs_at (ps : List Fl) (k : Nat) (hk : k < ps.length) (i : Nat) (hi : i < 2) : (fcs ps)[k * 2 + i]? = (fc1 (ps[k]'hk))[i]? := by
  induction ps generalizing k with
  | nil => simp at hk
  | cons p ps ih =>
    have e : fcs (p :: ps) = fc1 p ++ fcs ps := by simp [fcs]
    rw [e]
    cases k with
    | zero =>
      rw [Nat.zero_mul, Nat.zero_add, List.getElem?_append_left (by simp [fc1]; omega)]
      rfl
    | succ k =>
      rw [List.getElem?_append_right (by simp [fc1]; omega)]
      have : (k + 1) * 2 + i - (fc1 p).length = k * 2 + i := by simp [fc1]; omega
      rw [this, ih k (by simpa using hk)]
      rfl
/-- The slice v holds the fills l. -/
def RdF (W : World) (v : Value) (l : List Fl) : Prop := RdC W 2 v l.length (fcs l)
theorem RdF.below {W W' : World} {v : Value} {l : List Fl} (h : RdF W v l) (hb : Below W.heap.size W W') : RdF W' v l := RdC.below h hb
theorem RdF.form {W : World} {v : Value} {l : List Fl} (h : RdF W v l) : l.length ≤ 1000 ∧ ∃ a cap, v = .slice a l.length cap := by
  obtain ⟨_, h2, a, cap, rfl, _⟩ := h
  exact ⟨h2, a, cap, rfl⟩
theorem RdF.get {W : World} {a : Option Addr} {n cap : Nat} {l : List Fl} (h : RdF W (.slice a n cap) l) {k : Nat} {x : Fl} (hp : l[k]? = some x) :
    ∃ b off, a = some ⟨b, off, none⟩ ∧ W.cell? ⟨b, off + k * 2, none⟩ = some (.int .i64 x.s) ∧ W.cell? ⟨b, off + k * 2 + 1, none⟩ = some (.int .i64 x.v) := by
  obtain ⟨hk, rfl⟩ := List.getElem?_eq_some_iff.1 hp
  obtain ⟨_, _, a', cap', e, _, h3⟩ := h
  cases e
  rcases h3 with ⟨h0, _⟩ | ⟨b, off, rfl, _, hc⟩
  · omega
  · exact ⟨b, off, rfl, hc (k * 2 + 0) _ (by rw [fcs_at l k hk 0 (by omega)]; rfl), hc (k * 2 + 1) _ (by rw [fcs_at l k hk 1 (by omega)]; rfl)⟩
theorem RdF.cells {W : World} {b off n c : Nat} {l : List Fl} (h : RdF W (.slice (some ⟨b, off, none⟩) n c) l) {k : Nat} {x : Fl} (hp : l[k]? = some x) : W.cell? ⟨b, off + k * 2, none⟩ = some (.int .i64 x.s) ∧ W.cell? ⟨b, off + k * 2 + 1, none⟩ = some (.int .i64 x.v) := by
  obtain ⟨b', off', e, h3⟩ := h.get hp
  cases e
  exact h3

/-- Rows of the call's own: steps, fills. -/
def OwnS (W : World) (base : Nat) (v : Value) (l : List Mi) : Prop := W.ownsRow base 51 3 v l.length (mcs l)
def OwnF (W : World) (base : Nat) (v : Value) (l : List Fl) : Prop := W.ownsRow base 55 2 v l.length (fcs l)
theorem OwnS.rd {W : World} {base : Nat} {v : Value} {l : List Mi} (h : OwnS W base v l) (hl : l.length ≤ 1000) : RdS W v l := RdC.of_own h hl
theorem OwnF.rd {W : World} {base : Nat} {v : Value} {l : List Fl} (h : OwnF W base v l) (hl : l.length ≤ 1000) : RdF W v l := RdC.of_own h hl
theorem OwnS.below {W W' : World} {base : Nat} {v : Value} {l : List Mi} (h : OwnS W base v l) (hb : Below W.heap.size W W') : OwnS W' base v l := own_below h hb
theorem OwnF.below {W W' : World} {base : Nat} {v : Value} {l : List Fl} (h : OwnF W base v l) (hb : Below W.heap.size W W') : OwnF W' base v l := own_below h hb
theorem OwnS.bare (W : World) (base : Nat) : OwnS W base (.slice none 0 0) [] := ⟨rfl, .inl ⟨rfl, rfl⟩⟩
theorem OwnF.bare (W : World) (base : Nat) : OwnF W base (.slice none 0 0) [] := ⟨rfl, .inl ⟨rfl, rfl⟩⟩
theorem Try.info51 : (Try.prog.info? 51).map (fun i => (i.zero, i.size, i.bytes)) = some (some (.agg #[.int .i64 0, .int .i64 0, .int .i64 0]), 3, 24) := by kernel_rfl
theorem Try.info55 : (Try.prog.info? 55).map (fun i => (i.zero, i.size, i.bytes)) = some (some (.agg #[.int .i64 0, .int .i64 0]), 2, 16) := by kernel_rfl

/-- One that was just laid is appended to a row of the call's own. -/
theorem append_s1 {W w0 : World} {ops : Array Oper} {rest : List Oper} {o : Oper} {a : Act} {Q : Exit → Act → World → Prop} (hgd : o.guard = none) (s x : Operand)
    (ho : o.op = .call { callee := .builtin .append, args := #[s, x], argTypes := #[24, 24] }) (base : Nat) (v : Value) (ps : List Mi) (p : Mi)
    (hown : OwnS w0 base v ps) (hn : ps.length ≤ 2000) (hbase : base ≤ w0.heap.size)
    (hW : W = w0.alloc (.cells #[.int .i64 p.k, .int .i64 p.a, .int .i64 p.v] 51)) (hs : a.eval s = v) (H : Nat) (hH : w0.heap.size = H) (hx : a.eval x = .slice (some ⟨H, 0, none⟩) 1 1)
    (h : ∀ g cap w', OwnS w' base (.slice (some ⟨g, 0, none⟩) (ps.length + 1) cap) (ps ++ [p]) → Below base w0 w' → wpList Try.prog ops Q rest (a.put o.dst (.slice (some ⟨g, 0, none⟩) (ps.length + 1) cap)) w') :
    wpList Try.prog ops Q (o :: rest) a W := by
  obtain ⟨i0, hi, hz0, hz1, hz2⟩ := info_parts Try.info51
  subst hW
  subst hH
  refine wpList_append_lies _ hgd s x 24 ho base 51 i0 _ 3 24 Try.underlying24 hi hz0 hz1 hz2 rfl (by decide) v ps.length (mcs ps) hs (World.ownsRow.alloc hown _) ⟨w0.heap.size, 0, none⟩ 1 1 (mc1 p) hx rfl ?_ (fun u hu => by simp [mc1] at hu; rcases hu with rfl | rfl | rfl <;> rfl) (by omega) (by unfold maxLen; omega) (by omega) (by simp; omega) (w0.heap.size + 1) (by simp) ?_
  · exact World.news_of_block (heap_alloc_new w0 _)
  · intro g cap w' h1 h2 h3 h4
    refine h g cap w' ?_ ((Below.refl _ w0).grown (row := v.ownBlock) ⟨h2.os, h2.tape, h2.output, ?_, fun j hj hne => (h2.block j (by simp; omega) hne).trans (Below.heap_alloc w0 _ j hj)⟩ hbase (fun k hk => (World.ownsRow.lt hown k hk).1))
    · unfold OwnS
      rw [List.length_append, mcs_append]
      exact h1
    · have := h2.size
      simp at this
      omega
theorem append_f1 {W w0 : World} {ops : Array Oper} {rest : List Oper} {o : Oper} {a : Act} {Q : Exit → Act → World → Prop} (hgd : o.guard = none) (s x : Operand)
    (ho : o.op = .call { callee := .builtin .append, args := #[s, x], argTypes := #[53, 53] }) (base : Nat) (v : Value) (ps : List Fl) (p : Fl)
    (hown : OwnF w0 base v ps) (hn : ps.length ≤ 2000) (hbase : base ≤ w0.heap.size)
    (hW : W = w0.alloc (.cells #[.int .i64 p.s, .int .i64 p.v] 55)) (hs : a.eval s = v) (H : Nat) (hH : w0.heap.size = H) (hx : a.eval x = .slice (some ⟨H, 0, none⟩) 1 1)
    (h : ∀ g cap w', OwnF w' base (.slice (some ⟨g, 0, none⟩) (ps.length + 1) cap) (ps ++ [p]) → Below base w0 w' → wpList Try.prog ops Q rest (a.put o.dst (.slice (some ⟨g, 0, none⟩) (ps.length + 1) cap)) w') :
    wpList Try.prog ops Q (o :: rest) a W := by
  obtain ⟨i0, hi, hz0, hz1, hz2⟩ := info_parts Try.info55
  subst hW
  subst hH
  refine wpList_append_lies _ hgd s x 53 ho base 55 i0 _ 2 16 Try.underlying53 hi hz0 hz1 hz2 rfl (by decide) v ps.length (fcs ps) hs (World.ownsRow.alloc hown _) ⟨w0.heap.size, 0, none⟩ 1 1 (fc1 p) hx rfl ?_ (fun u hu => by simp [fc1] at hu; rcases hu with rfl | rfl <;> rfl) (by omega) (by unfold maxLen; omega) (by omega) (by simp; omega) (w0.heap.size + 1) (by simp) ?_
  · exact World.news_of_block (heap_alloc_new w0 _)
  · intro g cap w' h1 h2 h3 h4
    refine h g cap w' ?_ ((Below.refl _ w0).grown (row := v.ownBlock) ⟨h2.os, h2.tape, h2.output, ?_, fun j hj hne => (h2.block j (by simp; omega) hne).trans (Below.heap_alloc w0 _ j hj)⟩ hbase (fun k hk => (World.ownsRow.lt hown k hk).1))
    · unfold OwnF
      rw [List.length_append, fcs_append]
      exact h1
    · have := h2.size
      simp at this
      omega

theorem drop_at {fs : List Fl} {k : Nat} {f : Fl} (h : fs[k]? = some f) : fs.drop k = f :: fs.drop (k + 1) := by
  obtain ⟨hk, rfl⟩ := List.getElem?_eq_some_iff.1 h
  exact List.drop_eq_getElem_cons hk
theorem OwnS.form {W : World} {base : Nat} {v : Value} {l : List Mi} (h : OwnS W base v l) : ∃ a cap, v = .slice a l.length cap := by
  rcases h.2 with ⟨rfl, e⟩ | ⟨g, cap, cur, rfl, _⟩
  · exact ⟨none, 0, by rw [e]⟩
  · exact ⟨_, cap, rfl⟩

set_option maxRecDepth 100000 in
set_option maxHeartbeats 2000000 in
theorem put_fast (b : Int) (v : Value) (fs : List Fl) (w : World) (hb : ndB b = true) (hs : ∀ f ∈ fs, 0 ≤ f.s ∧ f.s ≤ 12) (hl : fs.length ≤ 100) (hR : RdF w v fs) : Calls Try.prog 34 #[.int .i64 b, v] w fun e w' => ∃ v', e = .returned v' ∧ RdS w' v' (putS b fs) ∧ Below w.heap.size w w' := by
  obtain ⟨_, a, cap, rfl⟩ := hR.form
  have HR : Hid (RdF w (.slice a fs.length cap) fs) := hR
  have HS : Hid (∀ f ∈ fs, 0 ≤ plc b f.s ∧ plc b f.s < 100000) := by
    intro f hf
    obtain ⟨h0, h1⟩ := hs f hf
    obtain ⟨b0, b1, b2⟩ := ndB_out hb
    rw [plc_yes hb h0 h1]
    omega
  have HL : Hid ((putS b fs).length ≤ 200) := by
    show _ ≤ _
    have := putS_length b fs
    omega
  clear hR hb hs
  go_enter Try.func34, Try.ntmps34
  go_wp2
  go_loopw [5, 12] (fun o i w1 => ∃ (k : Nat) (L : List Mi), k ≤ fs.length ∧ i = .int .i64 k ∧ OwnS w1 w.heap.size o L ∧ L ++ putS b (fs.drop k) = putS b fs ∧ Below w.heap.size w w1) (fun _ i _ => fs.length - (intOf i).toNat)
  case atStart => exact ⟨0, [], Nat.zero_le _, rfl, OwnS.bare _ _, rfl, Below.refl _ _⟩
  case round =>
    obtain ⟨k, L, hk, rfl, hO, hE, hB⟩ := hrel
    have HE : Hid (L ++ putS b (fs.drop k) = putS b fs) := hE
    have HB : Hid (Below w.heap.size w wr) := hB
    have HO : Hid (OwnS wr w.heap.size _ L) := hO
    have hL : L.length ≤ 200 := by
      have := congrArg List.length hE
      have := HL.out
      simp only [List.length_append] at *
      omega
    have hsz : w.heap.size ≤ wr.heap.size := hB.size
    clear hE hB hO
    by_cases hlt : k < fs.length
    · obtain ⟨f, hf⟩ : ∃ f, fs[k]? = some f := ⟨_, List.getElem?_eq_getElem hlt⟩
      have Hd : Hid (fs.drop k = f :: fs.drop (k + 1)) := drop_at hf
      obtain ⟨q0, q1⟩ := HS.out f (List.mem_of_getElem? hf)
      obtain ⟨blk, off, rfl, y0, y1⟩ := (HR.out.below HB.out).get hf
      have HmS : Hid (mS b f = ⟨1, plc b f.s, f.v⟩) := rfl
      have HmP : Hid (mP b f = ⟨2, plc b f.s / 8, 0⟩) := rfl
      have HO1 : Hid (OwnS (wr.alloc (.cells #[.int .i64 f.s, .int .i64 f.v] 55)) w.heap.size _ L) := HO.out.below ((Below.refl _ _).alloc (Nat.le_refl _) _)
      have HB1 : Hid (Below w.heap.size w (wr.alloc (.cells #[.int .i64 f.s, .int .i64 f.v] 55))) := HB.out.alloc hsz _
      clear hf
      obtain ⟨fs', fv⟩ := f
      dsimp only at y0 y1 q0 q1 HmS HmP HO1 HB1
      have Hq : Hid (plc b fs' = plc b fs') := rfl
      generalize hq : plc b fs' = q at q0 q1 HmS HmP
      have t0 : Hid (0 = 0) := rfl
      have t1 : Hid (0 = 0) := rfl
      have t2 : Hid (0 = 0) := rfl
      have t3 : Hid (0 = 0) := rfl
      by_cases hlast : k + 1 = fs.length
      · have d1 : ((k : Int) == (fs.length : Int) - 1) = true := by simp; omega
        have Hn : Hid (L ++ [⟨1, q, fv⟩] ++ [⟨2, q / 8, 0⟩] ++ putS b (fs.drop (k + 1)) = putS b fs) := by
          show _ = _
          have e := HE.out
          have e2 : lastB b ⟨fs', fv⟩ (fs.drop (k + 1)) = true := by rw [List.drop_of_length_le (by omega)]; rfl
          rw [Hd.out, putS_yes e2, HmS.out, HmP.out] at e
          simpa using e
        clear hlast
        go_wp2_with (first
          | (go_at_call 19; clear t0; refine (place_any b fs' _).mono ?_; rintro e w' ⟨rfl, hw⟩; rw [hw, hq]; clear hw w')
          | (at_builtin; clear t1; refine append_s1 rfl _ _ rfl w.heap.size _ L ⟨1, q, fv⟩ HO1.out (by omega) (by simp; omega) rfl rfl (wr.heap.size + 1) (by simp) rfl ?_; intro g5 c5 w5 o5 b5; have HO5 : Hid (OwnS w5 w.heap.size _ (L ++ [⟨1, q, fv⟩])) := o5; have HB5 : Hid (Below w.heap.size w w5) := HB1.out.trans b5; have hsz5 : w.heap.size ≤ w5.heap.size := HB5.out.size; clear o5 b5)
          | (at_builtin; clear t2; refine append_s1 rfl _ _ rfl w.heap.size _ (L ++ [⟨1, q, fv⟩]) ⟨2, q / 8, 0⟩ HO5.out (by simp; omega) hsz5 rfl rfl w5.heap.size rfl rfl ?_; intro g6 c6 w6 o6 b6; have HO6 : Hid (OwnS w6 w.heap.size _ (L ++ [⟨1, q, fv⟩] ++ [⟨2, q / 8, 0⟩])) := o6; have HB6 : Hid (Below w.heap.size w w6) := HB5.out.trans b6; clear o6 b6))
        go_roundw
        case rel => exact ⟨k + 1, L ++ [⟨1, q, fv⟩] ++ [⟨2, q / 8, 0⟩], by omega, by go_num, by simpa using HO6.out, Hn.out, HB6.out⟩
        case measure => simp [intOf]; omega
      · have d1 : ((k : Int) == (fs.length : Int) - 1) = false := by simp; omega
        have hlt2 : k + 1 < fs.length := by omega
        obtain ⟨g, hg⟩ : ∃ g, fs[k + 1]? = some g := ⟨_, List.getElem?_eq_getElem hlt2⟩
        have Hd2 : Hid (fs.drop (k + 1) = g :: fs.drop (k + 1 + 1)) := drop_at hg
        have Hg : Hid (fs[k + 1]? = some g) := hg
        obtain ⟨p0, p1⟩ := HS.out g (List.mem_of_getElem? hg)
        clear hg hlast
        obtain ⟨gs', gv⟩ := g
        dsimp only at p0 p1
        have Hls : Hid (lastB b ⟨fs', fv⟩ (fs.drop (k + 1)) = decide (plc b gs' / 8 ≠ q / 8)) := by (show _ = _; rw [Hd2.out, ← hq]; rfl)
        generalize hq2 : plc b gs' = q2 at p0 p1 Hls
        by_cases hne : q2 / 8 = q / 8
        · have d2 : (q2 / 8 != q / 8) = false := by simpa using hne
          have Hn : Hid (L ++ [⟨1, q, fv⟩] ++ putS b (fs.drop (k + 1)) = putS b fs) := by
            show _ = _
            have e := HE.out
            rw [Hd.out, putS_no (Hls.out.trans (decide_eq_false (fun h => h hne))), HmS.out] at e
            simpa using e
          clear hne
          go_wp2_with (first
          | (go_at_call 19; clear t0; refine (place_any b fs' _).mono ?_; rintro e w' ⟨rfl, hw⟩; rw [hw, hq]; clear hw w')
          | (at_builtin; clear t1; refine append_s1 rfl _ _ rfl w.heap.size _ L ⟨1, q, fv⟩ HO1.out (by omega) (by simp; omega) rfl rfl (wr.heap.size + 1) (by simp) rfl ?_; intro g5 c5 w5 o5 b5; have HO5 : Hid (OwnS w5 w.heap.size _ (L ++ [⟨1, q, fv⟩])) := o5; have HB5 : Hid (Below w.heap.size w w5) := HB1.out.trans b5; have hsz5 : w.heap.size ≤ w5.heap.size := HB5.out.size; obtain ⟨z0, z1⟩ := (HR.out.below HB5.out).cells Hg.out; dsimp only at z0 z1; clear o5 b5)
          | (go_at_call 19; clear t3; refine (place_any b gs' _).mono ?_; rintro e w' ⟨rfl, hw⟩; rw [hw, hq2]; clear hw w'))
          go_roundw
          case rel => exact ⟨k + 1, L ++ [⟨1, q, fv⟩], by omega, by go_num, by simpa using HO5.out, Hn.out, HB5.out⟩
          case measure => simp [intOf]; omega
        · have d2 : (q2 / 8 != q / 8) = true := by simpa using hne
          have Hn : Hid (L ++ [⟨1, q, fv⟩] ++ [⟨2, q / 8, 0⟩] ++ putS b (fs.drop (k + 1)) = putS b fs) := by
            show _ = _
            have e := HE.out
            rw [Hd.out, putS_yes (Hls.out.trans (decide_eq_true hne)), HmS.out, HmP.out] at e
            simpa using e
          clear hne
          go_wp2_with (first
          | (go_at_call 19; clear t0; refine (place_any b fs' _).mono ?_; rintro e w' ⟨rfl, hw⟩; rw [hw, hq]; clear hw w')
          | (at_builtin; clear t1; refine append_s1 rfl _ _ rfl w.heap.size _ L ⟨1, q, fv⟩ HO1.out (by omega) (by simp; omega) rfl rfl (wr.heap.size + 1) (by simp) rfl ?_; intro g5 c5 w5 o5 b5; have HO5 : Hid (OwnS w5 w.heap.size _ (L ++ [⟨1, q, fv⟩])) := o5; have HB5 : Hid (Below w.heap.size w w5) := HB1.out.trans b5; have hsz5 : w.heap.size ≤ w5.heap.size := HB5.out.size; obtain ⟨z0, z1⟩ := (HR.out.below HB5.out).cells Hg.out; dsimp only at z0 z1; clear o5 b5)
          | (go_at_call 19; clear t3; refine (place_any b gs' _).mono ?_; rintro e w' ⟨rfl, hw⟩; rw [hw, hq2]; clear hw w')
          | (at_builtin; clear t2; refine append_s1 rfl _ _ rfl w.heap.size _ (L ++ [⟨1, q, fv⟩]) ⟨2, q / 8, 0⟩ HO5.out (by simp; omega) hsz5 rfl rfl w5.heap.size rfl rfl ?_; intro g6 c6 w6 o6 b6; have HO6 : Hid (OwnS w6 w.heap.size _ (L ++ [⟨1, q, fv⟩] ++ [⟨2, q / 8, 0⟩])) := o6; have HB6 : Hid (Below w.heap.size w w6) := HB5.out.trans b6; clear o6 b6))
          go_roundw
          case rel => exact ⟨k + 1, L ++ [⟨1, q, fv⟩] ++ [⟨2, q / 8, 0⟩], by omega, by go_num, by simpa using HO6.out, Hn.out, HB6.out⟩
          case measure => simp [intOf]; omega
    · have Hn : Hid (L = putS b fs) := by
        show _ = _
        have e := HE.out
        rw [List.drop_of_length_le (by omega)] at e
        simpa [putS] using e
      go_wp2
      go_ret
      exact ⟨_, rfl, by rw [← Hn.out]; exact HO.out.rd (by omega), HB.out⟩
end Go.Proofs.Ytoboiahknapddaa
