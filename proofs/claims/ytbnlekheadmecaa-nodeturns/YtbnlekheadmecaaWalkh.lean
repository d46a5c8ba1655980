/- Walks of layer 4: what is kept, as a closure tells. · Walks of layer 4: Fence, Sync. · Walks of layer 4: Evict. -/
import Derived.Test.YtbnlekheadmecaaWalkg
import Derived.Shelf.Abstract
namespace Go.Proofs.Ytbnlekheadmecaa
open Go.RowKit Go.Shelf
set_option linter.unusedVariables false

/-- Blocks from n on are as they were. -/
def Same (n : Nat) (W W' : World) : Prop := W.heap.size ≤ W'.heap.size ∧ ∀ j, n ≤ j → j < W.heap.size → W'.heap[j]? = W.heap[j]?
theorem Bx.same {W W' : World} {n b : Nat} {va vb vc : Value} (h : Bx W b va vb vc) (hS : Same n W W') (hb : n ≤ b) : Bx W' b va vb vc := h.kept (hS.2 b hb h.lt)
theorem own_same {W W' : World} {n base : Nat} {e : TypeId} {size : Nat} {v : Value} {k : Nat} {xs : List Value} (h : W.ownsRow base e size v k xs) (hS : Same n W W') (hb : n ≤ base) : W'.ownsRow base e size v k xs := by
  refine ⟨h.1, ?_⟩
  rcases h.2 with hn | ⟨g, cap, cur, rfl, hg, hgg, rest⟩
  · exact .inl hn
  · exact .inr ⟨g, cap, cur, rfl, hg, (hS.2 g (Nat.le_trans hb hg) (Array.getElem?_eq_some_iff.1 hgg).1).trans hgg, rest⟩
theorem Out.same {W W' : World} {n base ob : Nat} {v1 v2 v3 : Value} {m : Mm} (h : Out W base ob v1 v2 v3 m) (hS : Same n W W') (hb : n ≤ base) : Out W' base ob v1 v2 v3 m :=
  ⟨h.box.same hS (Nat.le_trans hb h.hb), ⟨own_same h.own.vol hS hb, own_same h.own.per hS hb, own_same h.own.pend hS hb, h.own.ab, h.own.ac, h.own.bc⟩, h.hb, h.n1, h.n2, h.n3⟩
/-- What is pending, cut to none. -/
theorem OwnM.cut {W : World} {base : Nat} {a : Option Addr} {n c : Nat} {v1 v2 : Value} {m : Mm} (h : OwnM W base v1 v2 (.slice a n c) m) : OwnM W base v1 v2 (.slice a 0 c) ⟨m.vol, m.per, []⟩ := by
  have ho : (Value.slice a 0 c).ownBlock = (Value.slice a n c).ownBlock := by cases a <;> rfl
  have hp : OwnP W base (.slice a 0 c) [] := by
    refine ⟨rfl, ?_⟩
    rcases h.pend.2 with ⟨e, _⟩ | ⟨g, cap, cur, e, hg, hgg, hn, hm, hs, _⟩
    · cases e; exact .inl ⟨rfl, rfl⟩
    · cases e; exact .inr ⟨g, c, cur, rfl, hg, hgg, Nat.zero_le _, hm, hs, rfl⟩
  exact ⟨h.vol, h.per, hp, h.ab, fun g => by rw [ho]; exact h.ac g, fun g => by rw [ho]; exact h.bc g⟩
/-- A closure that tells, of what is pending, one by one, what bs says. -/
structure Tells (m : Mm) (bs : List Bool) (g : Nat) (caps : Array Value) (B n : Nat) (J : Nat → World → Prop) : Prop where
  enter : ∀ args w, (callFunc g args).run Try.prog w = .ok (.enter g args) w
  len : bs.length = m.pend.length
  stay : ∀ k W W', J k W → Below n W W' → J k W'
  call : ∀ k p b W, m.pend[k]? = some p → bs[k]? = some b → J k W → n ≤ W.heap.size → Calls Try.prog g (#[.agg #[.int .i64 p.a, .int .i64 p.v, .bool p.f]] ++ caps) W fun e W' => e = .returned (.bool b) ∧ J (k + 1) W' ∧ Below B W W' ∧ Same n W W'

set_option maxRecDepth 100000 in
set_option maxHeartbeats 4000000 in
theorem withKept_any (va vb vc : Value) (m : Mm) (bs : List Bool) (g : Nat) (caps : Array Value) (B : Nat) (J : Nat → World → Prop) (w : World) (hR : RdM w va vb vc m) (hRB : ∀ W', Below B w W' → RdM W' va vb vc m) (hB : B ≤ w.heap.size) (hI : InPl m.per.length m.pend) (hT : Tells m bs g caps B w.heap.size J) (hJ : J 0 w) :
    Calls Try.prog 44 #[.agg #[va, vb, vc], .func (.func g) #[] caps] w fun e w' => ∃ va' vb' vc', e = .returned (.agg #[va', vb', vc']) ∧ OwnM w' w.heap.size va' vb' vc' (kM m (m.pend.zip bs)) ∧ Below B w w' := by
  obtain ⟨l1, l2, l3⟩ := hR.lens
  obtain ⟨a1, c1, a2, c2, a3, c3, rfl, rfl, rfl⟩ := hR.forms
  have HB : Hid (Below w.heap.size w ((w.alloc (.cells #[.slice a1 m.vol.length c1, .slice a2 m.per.length c2, .slice a3 m.pend.length c3] 43)).alloc (.cells #[.slice none 0 0, .slice none 0 0, .slice none 0 0] 43))) := ((Below.refl _ _).alloc (Nat.le_refl _) _).alloc (by simp) _
  have X0 : Hid (Bx ((w.alloc (.cells #[.slice a1 m.vol.length c1, .slice a2 m.per.length c2, .slice a3 m.pend.length c3] 43)).alloc (.cells #[.slice none 0 0, .slice none 0 0, .slice none 0 0] 43)) w.heap.size (.slice a1 m.vol.length c1) (.slice a2 m.per.length c2) (.slice a3 m.pend.length c3)) := by (show Bx _ _ _ _ _; simp [Bx])
  have Y0 : Hid (Bx ((w.alloc (.cells #[.slice a1 m.vol.length c1, .slice a2 m.per.length c2, .slice a3 m.pend.length c3] 43)).alloc (.cells #[.slice none 0 0, .slice none 0 0, .slice none 0 0] 43)) (w.heap.size + 1) (.slice none 0 0) (.slice none 0 0) (.slice none 0 0)) := by (show Bx _ _ _ _ _; simp [Bx])
  have Hs : Hid (w.heap.size + 2 = ((w.alloc (.cells #[.slice a1 m.vol.length c1, .slice a2 m.per.length c2, .slice a3 m.pend.length c3] 43)).alloc (.cells #[.slice none 0 0, .slice none 0 0, .slice none 0 0] 43)).heap.size) := by (show _ = _; simp)
  have HR0 : Hid (RdM w (.slice a1 m.vol.length c1) (.slice a2 m.per.length c2) (.slice a3 m.pend.length c3) m) := hR
  clear hR
  have eg := hT.enter
  have HI : Hid (InPl m.per.length m.pend) := hI
  have HRB : Hid (∀ W', Below B w W' → RdM W' (.slice a1 m.vol.length c1) (.slice a2 m.per.length c2) (.slice a3 m.pend.length c3) m) := hRB
  clear hI hRB
  have HT : Hid (Tells m bs g caps B w.heap.size J) := hT
  have HJ : Hid (J 0 w) := hJ
  clear hT hJ
  go_enter Try.func44, Try.ntmps44
  go_wp2_with (first
    | (go_at_call 54; refine (clone_any _ _ _ m _ (HR0.out.below HB.out)).mono ?_; rintro e w1 ⟨v1, v2, v3, rfl, O1, hb1⟩; obtain ⟨b1, d1, b2, d2, b3, d3, rfl, rfl, rfl⟩ := (O1.rd l1 l2 l3).forms; have U1 := Out.made (w := w) O1.cut hb1.size; have T1 := hb1.alloc hb1.size (.cells #[.slice b1 m.vol.length d1, .slice b2 m.per.length d2, .slice b3 0 d3] 43); obtain ⟨⟨x0, x1, x2⟩, _⟩ := X0.out.far T1 (by have := Hs.out; omega); rw [← Hs.out] at U1; have HU1 : Hid (Out _ _ _ (.slice b1 m.vol.length d1) (.slice b2 m.per.length d2) (.slice b3 0 d3) ⟨m.vol, m.per, []⟩) := U1; have HT1 : Hid (Below _ _ _) := T1; clear U1 T1 O1 hb1))
  go_loopw [17] (fun i w4 => ∃ (k : Nat) (v3 : Value), k ≤ m.pend.length ∧ i = .int .i64 k ∧ J k w4 ∧ Out w4 (w.heap.size + 2) w1.heap.size (.slice b1 m.vol.length d1) (.slice b2 m.per.length d2) v3 (kM m ((m.pend.zip bs).take k)) ∧ Bx w4 w.heap.size (.slice a1 m.vol.length c1) (.slice a2 m.per.length c2) (.slice a3 m.pend.length c3) ∧ Bx w4 (w.heap.size + 1) (.slice none 0 0) (.slice none 0 0) (.slice none 0 0) ∧ Below B w w4) (fun i _ => m.pend.length - (intOf i).toNat)
  case atStart => exact ⟨0, _, Nat.zero_le _, rfl, HT.out.stay 0 _ _ HJ.out (HB.out.trans (HT1.out.mono HB.out.size)), HU1.out, X0.out.far HT1.out (by have := Hs.out; omega), Y0.out.far HT1.out (by have := Hs.out; omega), (HB.out.trans (HT1.out.mono HB.out.size)).mono hB⟩
  case round =>
    obtain ⟨k, v3, hk, rfl, hJ, hO, hX, hY, hbel⟩ := hrel
    obtain ⟨a4, c4, rfl⟩ := hO.own.pend.form
    clear x0 x1 x2
    have hsw : w.heap.size ≤ wr.heap.size := hbel.size
    by_cases hlt : k < m.pend.length
    · have hltI : (k : Int) < (m.pend.length : Int) := by omega
      obtain ⟨p, hp⟩ : ∃ p, m.pend[k]? = some p := ⟨_, List.getElem?_eq_getElem hlt⟩
      obtain ⟨bb, hb⟩ : ∃ b, bs[k]? = some b := ⟨_, List.getElem?_eq_getElem (by rw [HT.out.len]; exact hlt)⟩
      have hin := HI.out p (List.mem_of_getElem? hp)
      have HZ : Hid ((m.pend.zip bs).take (k + 1) = (m.pend.zip bs).take k ++ [(p, bb)]) := take_next (zip_get hp hb)
      obtain ⟨blk, off, rfl, y0, y1, y2⟩ := (HRB.out wr hbel).pend.get hp
      obtain ⟨pa, pv, pf⟩ := p
      dsimp only at y0 y1 y2 hin
      obtain ⟨q, rfl⟩ := Int.eq_ofNat_of_zero_le hin.1
      have hqI : (q : Int) < (m.per.length : Int) := hin.2
      have hq : q < (kM m ((m.pend.zip bs).take k)).per.length := by (show q < (kPer _ _).length; rw [kPer_length]; omega)
      have b5 : Below wr.heap.size wr (wr.alloc (.cells #[.int .i64 (q : Int), .int .i64 pv, .bool pf] 71)) := (Below.refl _ _).alloc (Nat.le_refl _) _
      have HJ5 : Hid (J k (wr.alloc (.cells #[.int .i64 (q : Int), .int .i64 pv, .bool pf] 71))) := HT.out.stay k _ _ hJ (b5.mono hsw)
      have HX5 : Hid (Bx (wr.alloc (.cells #[.int .i64 (q : Int), .int .i64 pv, .bool pf] 71)) w.heap.size (.slice a1 m.vol.length c1) (.slice a2 m.per.length c2) (.slice (some ⟨blk, off, none⟩) m.pend.length c3)) := hX.below b5
      have HY5 : Hid (Bx (wr.alloc (.cells #[.int .i64 (q : Int), .int .i64 pv, .bool pf] 71)) (w.heap.size + 1) (.slice none 0 0) (.slice none 0 0) (.slice none 0 0)) := hY.below b5
      have HU5 : Hid (Out (wr.alloc (.cells #[.int .i64 (q : Int), .int .i64 pv, .bool pf] 71)) (w.heap.size + 2) w1.heap.size (.slice b1 m.vol.length d1) (.slice b2 m.per.length d2) (.slice a4 (kPend ((m.pend.zip bs).take k)).length c4) (kM m ((m.pend.zip bs).take k))) := hO.below b5
      have HP5 : Hid (Bx (wr.alloc (.cells #[.int .i64 (q : Int), .int .i64 pv, .bool pf] 71)) wr.heap.size (.int .i64 (q : Int)) (.int .i64 pv) (.bool pf)) := by (show Bx _ _ _ _ _; simp [Bx])
      have HB5 : Hid (Below B w (wr.alloc (.cells #[.int .i64 (q : Int), .int .i64 pv, .bool pf] 71))) := hbel.trans (b5.mono (Nat.le_trans hB hsw))
      have hs5 : w.heap.size ≤ (wr.alloc (.cells #[.int .i64 (q : Int), .int .i64 pv, .bool pf] 71)).heap.size := Nat.le_trans hsw b5.size
      have hkl : (kPend ((m.pend.zip bs).take k)).length ≤ 1000 := Nat.le_trans (kPend_length _) (by rw [List.length_take]; omega)
      clear hJ hX hY hO hbel b5
      cases bb
      · go_wp2_with (first
          | (go_at_fn g; refine (HT.out.call k ⟨(q : Int), pv, pf⟩ false (wr.alloc (.cells #[.int .i64 (q : Int), .int .i64 pv, .bool pf] 71)) hp hb HJ5.out hs5).mono ?_; rintro e W6 ⟨rfl, J6, B6, S6⟩; have HJ6 : Hid (J (k + 1) W6) := J6; have HB6 : Hid (Below B (wr.alloc (.cells #[.int .i64 (q : Int), .int .i64 pv, .bool pf] 71)) W6) := B6; have HX6 : Hid (Bx W6 w.heap.size (.slice a1 m.vol.length c1) (.slice a2 m.per.length c2) (.slice (some ⟨blk, off, none⟩) m.pend.length c3)) := HX5.out.same S6 (Nat.le_refl _); have HY6 : Hid (Bx W6 (w.heap.size + 1) (.slice none 0 0) (.slice none 0 0) (.slice none 0 0)) := HY5.out.same S6 (Nat.le_succ _); have HU6 : Hid (Out W6 (w.heap.size + 2) w1.heap.size (.slice b1 m.vol.length d1) (.slice b2 m.per.length d2) (.slice a4 (kPend ((m.pend.zip bs).take k)).length c4) (kM m ((m.pend.zip bs).take k))) := HU5.out.same S6 (Nat.le_add_right _ 2); obtain ⟨⟨p0, p1, p2⟩, _⟩ := HP5.out.same S6 hsw; obtain ⟨⟨o0, o1, o2⟩, of0, of1, of2⟩ := HU6.out.box; clear J6 B6 S6)
          | (at_builtin; refine append_p1 rfl _ _ rfl _ _ (kPend ((m.pend.zip bs).take k)) ⟨(q : Int), pv, pf⟩ HU6.out.own.pend (by omega) (Nat.le_of_lt (Nat.lt_of_le_of_lt HU6.out.hb HU6.out.box.lt)) rfl rfl W6.heap.size rfl rfl ?_; intro g7 cap7 w7 o7 g7' at7 lt7; obtain ⟨X7, U7, T7⟩ := HU6.out.more o7 g7' at7; obtain ⟨⟨r0, r1, r2⟩, rf0, rf1, rf2⟩ := X7; have HU7 : Hid (Out _ _ _ _ _ _ _) := U7; have HT7 : Hid (Below _ W6 _) := T7; clear o7 g7' at7 U7 T7))
        have T := HT7.out
        exact ⟨⟨k + 1, _, by omega, by go_num, HT.out.stay (k + 1) _ _ HJ6.out (T.mono (Nat.le_add_right _ 2)), by rw [HZ.out, kM_no]; exact HU7.out, HX6.out.far T (by omega), HY6.out.far T (by omega), (HB5.out.trans HB6.out).trans (T.mono (by omega))⟩, by simp [intOf]; omega⟩
      · go_wp2_with (first
          | (go_at_fn g; refine (HT.out.call k ⟨(q : Int), pv, pf⟩ true (wr.alloc (.cells #[.int .i64 (q : Int), .int .i64 pv, .bool pf] 71)) hp hb HJ5.out hs5).mono ?_; rintro e W6 ⟨rfl, J6, B6, S6⟩; have HJ6 : Hid (J (k + 1) W6) := J6; have HB6 : Hid (Below B (wr.alloc (.cells #[.int .i64 (q : Int), .int .i64 pv, .bool pf] 71)) W6) := B6; have HX6 : Hid (Bx W6 w.heap.size (.slice a1 m.vol.length c1) (.slice a2 m.per.length c2) (.slice (some ⟨blk, off, none⟩) m.pend.length c3)) := HX5.out.same S6 (Nat.le_refl _); have HY6 : Hid (Bx W6 (w.heap.size + 1) (.slice none 0 0) (.slice none 0 0) (.slice none 0 0)) := HY5.out.same S6 (Nat.le_succ _); have HU6 : Hid (Out W6 (w.heap.size + 2) w1.heap.size (.slice b1 m.vol.length d1) (.slice b2 m.per.length d2) (.slice a4 (kPend ((m.pend.zip bs).take k)).length c4) (kM m ((m.pend.zip bs).take k))) := HU5.out.same S6 (Nat.le_add_right _ 2); obtain ⟨⟨p0, p1, p2⟩, _⟩ := HP5.out.same S6 hsw; obtain ⟨⟨o0, o1, o2⟩, of0, of1, of2⟩ := HU6.out.box; clear J6 B6 S6; obtain ⟨g2, rfl, ⟨hc, hf⟩, hset⟩ := HU6.out.setPer (k := q) hq; obtain ⟨U7, T7⟩ := hset pv; have HU7 : Hid (Out _ _ _ _ _ _ _) := U7; have HT7 : Hid (Below _ W6 _) := T7; clear U7 T7 hset))
        have T := HT7.out
        exact ⟨⟨k + 1, _, by omega, by go_num, HT.out.stay (k + 1) _ _ HJ6.out (T.mono (Nat.le_add_right _ 2)), by rw [HZ.out, kM_yes]; exact HU7.out, HX6.out.far T (by omega), HY6.out.far T (by omega), (HB5.out.trans HB6.out).trans (T.mono (by omega))⟩, by simp [intOf]; omega⟩
    · have hkl : (kPend (m.pend.zip bs)).length ≤ 1000 := Nat.le_trans (kPend_length _) (by rw [List.length_zip]; omega)
      rw [List.take_of_length_le (by rw [List.length_zip]; omega)] at hO
      have HU : Hid (Out wr (w.heap.size + 2) w1.heap.size (.slice b1 m.vol.length d1) (.slice b2 m.per.length d2) (.slice a4 (kM m (m.pend.zip bs)).pend.length c4) (kM m (m.pend.zip bs))) := hO
      obtain ⟨⟨o0, o1, o2⟩, _⟩ := hO.box
      have HY : Hid (Bx wr (w.heap.size + 1) (.slice none 0 0) (.slice none 0 0) (.slice none 0 0)) := hY
      obtain ⟨⟨y0, y1, y2⟩, yf0, yf1, yf2⟩ := hY
      have HBe : Hid (Below B w wr) := hbel
      clear hJ hX hO hbel
      go_wp2
      obtain ⟨f1, f2, f3⟩ := finish4 HU.out.own HY.out (Nat.lt_succ_self _) HBe.out (Nat.le_trans hB (Nat.le_succ _))
      exact bodyPost_ret (ret_cell (p := 4) (b := w.heap.size + 1) Try.results44 rfl f1) rfl ⟨_, _, _, rfl, f2.mono (Nat.le_add_right _ 2), f3⟩
end Go.Proofs.Ytbnlekheadmecaa
namespace Go.Proofs.Ytbnlekheadmecaa
open Go.RowKit Go.Shelf
set_option linter.unusedVariables false

theorem kM_l2 {m : Mm} {zs : List (Pd × Bool)} (h : m.per.length ≤ 1000) : (kM m zs).per.length ≤ 1000 := by show (kPer _ _).length ≤ 1000; rw [kPer_length]; exact h
theorem kM_l3 {m : Mm} {bs : List Bool} (h : m.pend.length ≤ 1000) : (kM m (m.pend.zip bs)).pend.length ≤ 1000 := Nat.le_trans (kPend_length _) (by rw [List.length_zip]; omega)
theorem Below.sames {n : Nat} {W W' : World} (h : Below W.heap.size W W') : Same n W W' := ⟨h.size, fun j _ hj => h.block j hj⟩
theorem enter60 : ∀ args w, (callFunc 60 args).run Try.prog w = .ok (.enter 60 args) w := enters_of Try.func60 rfl rfl

theorem fence1_any (p : Pd) (w : World) : Calls Try.prog 60 #[.agg #[.int .i64 p.a, .int .i64 p.v, .bool p.f]] w fun e w' => e = .returned (.bool p.f) ∧ Below w.heap.size w w' := by
  go_enter Try.func60, Try.ntmps60
  go_wp2
  go_ret
  exact ⟨rfl, (Below.refl _ _).alloc (Nat.le_refl _) _⟩
theorem tells_fence (m : Mm) (n : Nat) : Tells m (m.pend.map (·.f)) 60 #[] n n (fun _ _ => True) := by
  refine ⟨enter60, by simp, fun _ _ _ _ _ => trivial, ?_⟩
  intro k p b W hp hb _ hn
  rw [List.getElem?_map, hp] at hb
  cases hb
  refine (fence1_any p W).mono ?_
  rintro e W' ⟨rfl, hb⟩
  exact ⟨rfl, trivial, hb.mono hn, Below.sames hb⟩

set_option maxRecDepth 100000 in
set_option maxHeartbeats 4000000 in
theorem fence_any (va vb vc : Value) (m : Mm) (w : World) (hR : RdM w va vb vc m) : Calls Try.prog 57 #[.agg #[va, vb, vc]] w fun e w' => ∃ va' vb' vc', e = .returned (.tuple #[.agg #[va', vb', vc'], .int .i64 (okE m)]) ∧ RdM w' va' vb' vc' (fenM m) ∧ Below w.heap.size w w' := by
  obtain ⟨l1, l2, l3⟩ := hR.lens
  obtain ⟨a1, c1, a2, c2, a3, c3, rfl, rfl, rfl⟩ := hR.forms
  have HB : Hid (Below w.heap.size w ((w.alloc (.cells #[.slice a1 m.vol.length c1, .slice a2 m.per.length c2, .slice a3 m.pend.length c3] 43)).alloc (.cells #[.slice none 0 0, .slice none 0 0, .slice none 0 0] 43))) := ((Below.refl _ _).alloc (Nat.le_refl _) _).alloc (by simp) _
  have X0 : Hid (Bx ((w.alloc (.cells #[.slice a1 m.vol.length c1, .slice a2 m.per.length c2, .slice a3 m.pend.length c3] 43)).alloc (.cells #[.slice none 0 0, .slice none 0 0, .slice none 0 0] 43)) w.heap.size (.slice a1 m.vol.length c1) (.slice a2 m.per.length c2) (.slice a3 m.pend.length c3)) := by (show Bx _ _ _ _ _; simp [Bx])
  have Y0 : Hid (Bx ((w.alloc (.cells #[.slice a1 m.vol.length c1, .slice a2 m.per.length c2, .slice a3 m.pend.length c3] 43)).alloc (.cells #[.slice none 0 0, .slice none 0 0, .slice none 0 0] 43)) (w.heap.size + 1) (.slice none 0 0) (.slice none 0 0) (.slice none 0 0)) := by (show Bx _ _ _ _ _; simp [Bx])
  have Hs : Hid (w.heap.size + 2 = ((w.alloc (.cells #[.slice a1 m.vol.length c1, .slice a2 m.per.length c2, .slice a3 m.pend.length c3] 43)).alloc (.cells #[.slice none 0 0, .slice none 0 0, .slice none 0 0] 43)).heap.size) := by (show _ = _; simp)
  have HR : Hid (RdM w (.slice a1 m.vol.length c1) (.slice a2 m.per.length c2) (.slice a3 m.pend.length c3) m) := hR
  clear hR
  cases e1 : ok m
  · have HE : Hid (okE m = 40) := by (show okE m = _; unfold okE; rw [e1]; rfl)
    have HM : Hid (fenM m = m) := by (show fenM m = _; unfold fenM; rw [e1]; rfl)
    go_enter Try.func57, Try.ntmps57
    go_wp2_with (first
      | (go_at_call 40; refine (check_any _ _ _ m _ (HR.out.below HB.out)).mono ?_; rintro e w1 ⟨rfl, hb1⟩; have HB1 : Hid (Below w.heap.size w w1) := bstep HB.out hb1; have HY1 : Hid (Bx w1 (w.heap.size + 1) (.slice none 0 0) (.slice none 0 0) (.slice none 0 0)) := Y0.out.below hb1; obtain ⟨⟨x0, x1, x2⟩, _⟩ := X0.out.below hb1; have Hs1 : Hid (w.heap.size + 2 ≤ w1.heap.size) := by (have := hb1.size; have := Hs.out; show _ ≤ _; omega))
      | (go_at_call 54; refine (clone_any _ _ _ m _ (HR.out.below HB1.out)).mono ?_; rintro e w2 ⟨v1, v2, v3, rfl, O2, hb2⟩; obtain ⟨b1, d1, b2, d2, b3, d3, rfl, rfl, rfl⟩ := (O2.rd l1 l2 l3).forms; obtain ⟨⟨y0, y1, y2⟩, yf0, yf1, yf2⟩ := HY1.out.below hb2))
    obtain ⟨f1, f2, f3⟩ := finish3 O2 l1 l2 l3 (HY1.out.below hb2) (by have := Hs1.out; omega) (bstep HB1.out hb2) (Nat.le_succ _)
    exact bodyPost_ret (ret_cell2 (p := 2) (u := 3) Try.results57 rfl f1) rfl ⟨_, _, _, by rw [HE.out]; rfl, by rw [HM.out]; exact f2, f3⟩
  · have HE : Hid (okE m = 0) := by (show okE m = _; unfold okE; rw [e1]; rfl)
    have HM : Hid (fenM m = kM m (m.pend.zip (m.pend.map (·.f)))) := by (show fenM m = _; unfold fenM; rw [e1]; rfl)
    go_enter Try.func57, Try.ntmps57
    go_wp2_with (first
      | (go_at_call 40; refine (check_any _ _ _ m _ (HR.out.below HB.out)).mono ?_; rintro e w1 ⟨rfl, hb1⟩; have HB1 : Hid (Below w.heap.size w w1) := bstep HB.out hb1; have HY1 : Hid (Bx w1 (w.heap.size + 1) (.slice none 0 0) (.slice none 0 0) (.slice none 0 0)) := Y0.out.below hb1; obtain ⟨⟨x0, x1, x2⟩, _⟩ := X0.out.below hb1; have Hs1 : Hid (w.heap.size + 2 ≤ w1.heap.size) := by (have := hb1.size; have := Hs.out; show _ ≤ _; omega))
      | (go_at_call 44; refine (withKept_any _ _ _ m (m.pend.map (·.f)) 60 #[] w1.heap.size (fun _ _ => True) w1 (HR.out.below HB1.out) (fun W' h => (HR.out.below HB1.out).below h) (Nat.le_refl _) (ok_in e1) (tells_fence m _) trivial).mono ?_; rintro e w2 ⟨v1, v2, v3, rfl, O2, hb2⟩; obtain ⟨b1, d1, b2, d2, b3, d3, rfl, rfl, rfl⟩ := (O2.rd l1 (kM_l2 l2) (kM_l3 l3)).forms; obtain ⟨⟨y0, y1, y2⟩, yf0, yf1, yf2⟩ := HY1.out.below hb2))
    obtain ⟨f1, f2, f3⟩ := finish3 O2 l1 (kM_l2 l2) (kM_l3 l3) (HY1.out.below hb2) (by have := Hs1.out; omega) (bstep HB1.out hb2) (Nat.le_succ _)
    exact bodyPost_ret (ret_cell2 (p := 2) (u := 3) Try.results57 rfl f1) rfl ⟨_, _, _, by rw [HE.out]; rfl, by rw [HM.out]; exact f2, f3⟩


end Go.Proofs.Ytbnlekheadmecaa
namespace Go.Proofs.Ytbnlekheadmecaa
open Go.RowKit Go.Shelf
set_option linter.unusedVariables false

theorem bx_new (W : World) (x y z : Value) (t : TypeId) : Bx (W.alloc (.cells #[x, y, z] t)) W.heap.size x y z := by simp [Bx]
/-- What is held: what is pending, in its box, and a number. -/
def SL (w : World) (b lb : Nat) (x y z u : Value) (w2 : World) : Prop := (w2.cell? ⟨b, 0, none⟩ = some x ∧ w2.cell? ⟨b, 1, none⟩ = some y ∧ w2.cell? ⟨b, 2, none⟩ = some z) ∧ w2.cell? ⟨lb, 0, none⟩ = some u ∧ Below w.heap.size w w2
theorem SL.next {w W w2 : World} {b lb : Nat} {x y z u : Value} (hb : Below W.heap.size W w2) (h : SL w b lb x y z u W) : SL w b lb x y z u w2 := ⟨⟨cell_held h.1.1 hb, cell_held h.1.2.1 hb, cell_held h.1.2.2 hb⟩, cell_held h.2.1 hb, bstep h.2.2 hb⟩


end Go.Proofs.Ytbnlekheadmecaa
