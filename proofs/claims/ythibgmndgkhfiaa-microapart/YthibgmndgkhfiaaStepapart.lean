/- Walks of layer 5's statements: steps of lines that are not the same. -/
import Derived.Test.YthibgmndgkhfiaaStepin
import Derived.Test.YthibgmndgkhfiaaLawc
import Derived.Test.YthibgmndgkhfiaaNumk
import Derived.Deep.DeepCutAuto
namespace Go.Proofs.Ythibgmndgkhfiaa
open Go.RowKit Go.Shelf
set_option linter.unusedVariables false

/-- A step's line, as it is reckoned. -/
def lnS (x : Mi) : Int := if x.k = 1 then wrap64 (x.a.tdiv 8) else x.a
set_option maxRecDepth 100000 in
theorem line_any (x : Mi) (w : World) : Calls Try.prog 21 #[.agg #[.int .i64 x.k, .int .i64 x.a, .int .i64 x.v]] w fun e w' => e = .returned (.int .i64 (lnS x)) ∧ Below w.heap.size w w' := by
  by_cases h : x.k = 1
  · have H : Hid (lnS x = wrap64 (x.a.tdiv 8)) := if_pos h
    have hb : (x.k == 1) = true := by simpa using h
    clear h
    go_enter Try.func21, Try.ntmps21
    go_wp2
    go_ret
    exact ⟨ret_int H.out.symm, (Below.refl _ _).alloc (Nat.le_refl _) _⟩
  · have H : Hid (lnS x = x.a) := if_neg h
    have hb : (x.k == 1) = false := by simpa using h
    clear h
    go_enter Try.func21, Try.ntmps21
    go_wp2
    go_ret
    exact ⟨ret_int H.out.symm, (Below.refl _ _).alloc (Nat.le_refl _) _⟩
theorem lnS_val {n : Nat} {x : Mi} (hn : n ≤ 4096) (h : miB (n : Int) x = true) : lnS x = lnM x := by
  unfold lnS lnM
  rcases miB_kind h with k | k
  · rw [if_pos k, if_pos k]
    have := mi_one h k
    exact quo8 x.a this.1 (by omega)
  · rw [if_neg (by omega), if_neg (by omega)]
theorem ap_next {x : Mi} {l : List Mi} {k : Nat} {y : Mi} (h : ∀ z ∈ l.take k, lnS x ≠ lnS z) (hy : l[k]? = some y) (hn : ¬ lnS x = lnS y) : ∀ z ∈ l.take (k + 1), lnS x ≠ lnS z := by
  rw [take_next hy]
  intro z hz
  rcases List.mem_append.1 hz with hz | hz
  · exact h z hz
  · rw [List.mem_singleton.1 hz]; exact hn
theorem ap_next2 {a b : List Mi} {i : Nat} {x : Mi} (h : ∀ z ∈ a.take i, ∀ y ∈ b, lnS z ≠ lnS y) (hx : a[i]? = some x) (hn : ∀ y ∈ b, lnS x ≠ lnS y) : ∀ z ∈ a.take (i + 1), ∀ y ∈ b, lnS z ≠ lnS y := by
  rw [take_next hx]
  intro z hz
  rcases List.mem_append.1 hz with hz | hz
  · exact h z hz
  · rw [List.mem_singleton.1 hz]; exact hn
/-- Own steps. -/
def OwnS (W : World) (base : Nat) (v : Value) (l : List Mi) : Prop := W.ownsRow base 28 3 v l.length (mcs l)
theorem OwnS.below {W W' : World} {base : Nat} {v : Value} {l : List Mi} (h : OwnS W base v l) (hb : Below W.heap.size W W') : OwnS W' base v l := own_below h hb
theorem OwnS.rd {W : World} {base : Nat} {v : Value} {l : List Mi} (h : OwnS W base v l) (hl : l.length ≤ 1000) : RdS W v l := RdC.of_own h hl
theorem own_mtS {W : World} {b : Nat} (h : W.heap[b]? = some (.cells #[] 28)) : OwnS W b (.slice (some ⟨b, 0, none⟩) 0 0) [] := by
  refine ⟨rfl, .inr ⟨b, 0, #[], rfl, Nat.le_refl _, h, Nat.le_refl _, by simp, by simp, rfl⟩⟩
theorem Try.info28 : (Try.prog.info? 28).map (fun i => (i.zero, i.size, i.bytes)) = some (some (.agg #[.int .i64 0, .int .i64 0, .int .i64 0]), 3, 24) := by kernel_rfl
/-- Steps that came in are appended to own ones, in a region that draws. -/
theorem step_rds1 {ops : Array Oper} {o : Oper} {a : Act} {W : World} {K : Act → World → Prop} {Q : Exit → Act → World → Prop} {E : Prop} (hgd : o.guard = none) (s x : Operand)
    (ho : o.op = .call { callee := .builtin .append, args := #[s, x], argTypes := #[26, 26] }) (base g c : Nat) (l1 : List Mi) (hs : a.eval s = .slice (some ⟨g, 0, none⟩) l1.length c) (hown : OwnS W base (.slice (some ⟨g, 0, none⟩) l1.length c) l1) (hn : l1.length ≤ 2000) (vx : Value) (l2 : List Mi) (hx : a.eval x = vx) (hR : RdS W vx l2)
    (h : ∀ g' cap w', OwnS w' base (.slice (some ⟨g', 0, none⟩) (l1.length + l2.length) cap) (l1 ++ l2) → W.grownBy w' (some g) → K (a.put o.dst (.slice (some ⟨g', 0, none⟩) (l1.length + l2.length) cap)) w') :
    if Region.wanted o (yielded ops a.tmps) = true then Oper.wp Try.prog o a W K Q else E := by
  obtain ⟨i0, hi, hz0, hz1, hz2⟩ := info_parts Try.info28
  have hlt := (World.ownsRow.lt hown g rfl)
  obtain ⟨hl, hk, ad, cap, rfl, h3⟩ := hR
  have hw : Region.wanted o (yielded ops a.tmps) = true := by simp [Region.wanted, hgd]
  by_cases h0 : l2.length = 0
  · have : l2 = [] := List.eq_nil_of_length_eq_zero h0
    subst this
    have hown' : OwnS W base (.slice (some ⟨g, 0, none⟩) (l1.length + ([] : List Mi).length) c) (l1 ++ []) := by rw [List.append_nil]; exact hown
    cases ad with
    | none =>
      have hc0 : cap = 0 := by
        rcases h3 with ⟨_, h⟩ | ⟨b', off, e, _⟩
        · exact h rfl
        · cases e
      subst hc0
      rw [if_pos hw]
      have hrun := run_append_owned_none (P := Try.prog) (w := W) base 26 o.type 28 i0 3 Try.underlying26 hi _ _ _ hown
      unfold Oper.wp
      have hx' : a.eval x = .slice none 0 0 := hx
      simp [execOp, ho, resolve, invoke, builtin, hs, hx', hrun, Result.andThen]
      exact h g c W hown' (World.grownBy.refl W _)
    | some p =>
      have hroom : l1.length + 0 ≤ c := by
        rcases hown.2 with ⟨e, _⟩ | ⟨g', cap', cur, e, _, _, hnc, _⟩
        · cases e
        · cases e; exact hnc
      refine step_append_room hgd s x 26 ho 28 i0 3 Try.underlying26 hi hz1 g 0 l1.length c hs p 0 cap [] hx (by simp) (by intro j u hu; simp at hu) (by simp) hroom (by intro j hj; simp at hj) ?_
      exact h g c W hown' (World.grownBy.refl W _)
  · rcases h3 with ⟨h4, _⟩ | ⟨b', off, rfl, hlt', hc⟩
    · exact absurd h4 h0
    · refine step_append_lies _ hgd s x 26 ho base 28 i0 _ 3 24 Try.underlying26 hi hz0 hz1 hz2 rfl (by decide) _ l1.length (mcs l1) hs hown ⟨b', off, none⟩ l2.length cap (mcs l2) hx hl (by intro j u hu; rw [Addr.add_lit]; exact hc j u hu) (mcs_one l2) (by omega) (by unfold maxLen; omega) (by omega) (by omega) W.heap.size rfl ?_
      intro g' cap' w' r1 r2 r3 r4
      refine h g' cap' w' ?_ r2
      unfold OwnS
      rw [List.length_append, mcs_append]
      exact r1
theorem step_rds0 {ops : Array Oper} {o : Oper} {a : Act} {W : World} {K : Act → World → Prop} {Q : Exit → Act → World → Prop} {E : Prop} (hgd : o.guard = none) (s x : Operand)
    (ho : o.op = .call { callee := .builtin .append, args := #[s, x], argTypes := #[26, 26] }) (b : Nat) (vx : Value) (l : List Mi) (hs : a.eval s = .slice (some ⟨b, 0, none⟩) 0 0) (hx : a.eval x = vx) (hE : W.heap[b]? = some (.cells #[] 28)) (hR : RdS W vx l)
    (h : ∀ g cap w', OwnS w' b (.slice (some ⟨g, 0, none⟩) l.length cap) l → W.grownBy w' (some b) → (g = b ∨ g = W.heap.size) → K (a.put o.dst (.slice (some ⟨g, 0, none⟩) l.length cap)) w') :
    if Region.wanted o (yielded ops a.tmps) = true then Oper.wp Try.prog o a W K Q else E := by
  obtain ⟨i0, hi, hz0, hz1, hz2⟩ := info_parts Try.info28
  have hown := own_mtS hE
  have hlt : b < W.heap.size := (Array.getElem?_eq_some_iff.1 hE).1
  obtain ⟨hl, hk, ad, cap, rfl, h3⟩ := hR
  have hw : Region.wanted o (yielded ops a.tmps) = true := by simp [Region.wanted, hgd]
  by_cases h0 : l.length = 0
  · have : l = [] := List.eq_nil_of_length_eq_zero h0
    subst this
    cases ad with
    | none =>
      have hc0 : cap = 0 := by
        rcases h3 with ⟨_, h⟩ | ⟨b', off, e, _⟩
        · exact h rfl
        · cases e
      subst hc0
      rw [if_pos hw]
      have hrun := run_append_owned_none (P := Try.prog) (w := W) b 26 o.type 28 i0 3 Try.underlying26 hi _ 0 _ hown
      unfold Oper.wp
      have hx' : a.eval x = .slice none 0 0 := hx
      simp [execOp, ho, resolve, invoke, builtin, hs, hx', hrun, Result.andThen]
      exact h b 0 W hown (World.grownBy.refl W _) (.inl rfl)
    | some p =>
      refine step_append_room hgd s x 26 ho 28 i0 3 Try.underlying26 hi hz1 b 0 0 0 hs p 0 cap [] hx (by simp) (by intro j u hu; simp at hu) (by simp) (by omega) (by intro j hj; simp at hj) ?_
      exact h b 0 W hown (World.grownBy.refl W _) (.inl rfl)
  · rcases h3 with ⟨h4, _⟩ | ⟨b', off, rfl, hlt', hc⟩
    · exact absurd h4 h0
    · refine step_append_lies _ hgd s x 26 ho b 28 i0 _ 3 24 Try.underlying26 hi hz0 hz1 hz2 rfl (by decide) _ 0 [] hs hown ⟨b', off, none⟩ l.length cap (mcs l) hx hl (by intro j u hu; rw [Addr.add_lit]; exact hc j u hu) (mcs_one l) (by omega) (by unfold maxLen; omega) (by omega) (by omega) W.heap.size rfl ?_
      intro g cap' w' r1 r2 r3 r4
      rw [Nat.zero_add] at r1 ⊢
      exact h g cap' w' r1 r2 (r3.imp (fun e => by simpa [Value.ownBlock] using e.symm) id)
theorem ne1 {n g : Nat} (h : g = n + 1 ∨ g = n + 2) : n ≠ g := by omega
theorem ne2 {n g : Nat} (h : g = n ∨ g = n + 2) : n + 1 ≠ g := by omega
theorem bo_first (X : World) (o : Obj) : Bo ((X.alloc (.cells #[.slice none 0 0, .slice none 0 0, .slice none 0 0] 25)).alloc o) X.heap.size (.slice none 0 0) (.slice none 0 0) (.slice none 0 0) := (Bo.new X _ _ _).below ((Below.refl _ _).alloc (Nat.le_refl _) _)
theorem bo_second (X : World) (o : Obj) : Bo ((X.alloc o).alloc (.cells #[.slice none 0 0, .slice none 0 0, .slice none 0 0] 25)) (X.heap.size + 1) (.slice none 0 0) (.slice none 0 0) (.slice none 0 0) := by
  have := Bo.new (X.alloc o) (.slice none 0 0) (.slice none 0 0) (.slice none 0 0)
  simpa using this
/-- What both orders leave. -/
theorem apart_ways (m : Mm) (la lb : List Mi) (h : ∀ x ∈ la, ∀ y ∈ lb, lnS x ≠ lnS y) : ruE m (la ++ lb) = ruE m (lb ++ la) ∧ (ruM m (la ++ lb)).vol = (ruM m (lb ++ la)).vol ∧ (m.pend = [] → (ruM m (la ++ lb)).per = (ruM m (lb ++ la)).per) := by
  have e : mrB m (la ++ lb) = mrB m (lb ++ la) := by rw [mr_append, mr_append, Bool.and_comm]
  cases hm : mrB m (la ++ lb)
  · have hm2 : mrB m (lb ++ la) = false := by rw [← e]; exact hm
    rw [ruE_no hm, ruE_no hm2, ruM_no hm, ruM_no hm2]
    exact ⟨rfl, rfl, fun _ => rfl⟩
  · have hm2 : mrB m (lb ++ la) = true := by rw [← e]; exact hm
    rw [ruE_yes hm, ruE_yes hm2, ruM_yes hm, ruM_yes hm2]
    have ho := (mrB_out hm).1
    have hv := val_of hm
    have va : Val m.vol.length la := fun x hx => hv x (List.mem_append.2 (.inl hx))
    have vb : Val m.vol.length lb := fun x hx => hv x (List.mem_append.2 (.inr hx))
    have hl : ∀ x ∈ la, ∀ y ∈ lb, lnM x ≠ lnM y := fun x hx y hy => by
      rw [← lnS_val ho.2.1 (va x hx), ← lnS_val ho.2.1 (vb y hy)]
      exact h x hx y hy
    exact ⟨rfl, vol_turn ho va vb hl, fun hp => per_turn ho (fun p hq => by rw [hp] at hq; cases hq) va vb hl⟩

set_option maxRecDepth 100000 in
set_option maxHeartbeats 16000000 in
theorem apart_b (a1 a2 a3 aa ab : Option Addr) (c1 c2 c3 ca cb : Nat) (la lb : List Mi) (w : World) (m : Mm) (HB : Hid (Below w.heap.size w (w.alloc (.cells #[.slice a1 m.vol.length c1, .slice a2 m.per.length c2, .slice a3 m.pend.length c3] 25)))) (HX : Hid (Bo (w.alloc (.cells #[.slice a1 m.vol.length c1, .slice a2 m.per.length c2, .slice a3 m.pend.length c3] 25)) w.heap.size (.slice a1 m.vol.length c1) (.slice a2 m.per.length c2) (.slice a3 m.pend.length c3))) (HR : Hid (RdM (w.alloc (.cells #[.slice a1 m.vol.length c1, .slice a2 m.per.length c2, .slice a3 m.pend.length c3] 25)) (.slice a1 m.vol.length c1) (.slice a2 m.per.length c2) (.slice a3 m.pend.length c3) m)) (HSA : Hid (RdS (w.alloc (.cells #[.slice a1 m.vol.length c1, .slice a2 m.per.length c2, .slice a3 m.pend.length c3] 25)) (.slice aa la.length ca) la)) (HSB : Hid (RdS (w.alloc (.cells #[.slice a1 m.vol.length c1, .slice a2 m.per.length c2, .slice a3 m.pend.length c3] 25)) (.slice ab lb.length cb) lb)) (hfew : fewB m.vol.length m.per.length m.pend.length = true) (hp : m.pend.length ≤ 100) (hla : (la.length : Int) ≤ 50) (hlb : (lb.length : Int) ≤ 50) : Calls Try.prog 7 #[.agg #[.slice a1 m.vol.length c1, .slice a2 m.per.length c2, .slice a3 m.pend.length c3], .slice aa la.length ca, .slice ab lb.length cb] w fun e w' => e = .returned (.bool true) ∧ Below w.heap.size w w' := by
  have t0 : Hid (0 = 0) := rfl
  have t1 : Hid (0 = 0) := rfl
  go_enter Try.func7, Try.ntmps7
  go_wp2_with (first
    | (go_at_call 8; clear t0; refine (awake_any _).mono ?_; rintro e w0 ⟨rfl, hb0⟩; have F1 : Hid (RdM w0 (.slice a1 m.vol.length c1) (.slice a2 m.per.length c2) (.slice a3 m.pend.length c3) m) := HR.out.below hb0; have F2 : Hid (Bo w0 w.heap.size (.slice a1 m.vol.length c1) (.slice a2 m.per.length c2) (.slice a3 m.pend.length c3)) := HX.out.below hb0; have F3 : Hid (Below w.heap.size w w0) := bstep HB.out hb0; have F4 : Hid (RdS w0 (.slice aa la.length ca) la) := HSA.out.below hb0; have F5 : Hid (RdS w0 (.slice ab lb.length cb) lb) := HSB.out.below hb0; clear hb0; obtain ⟨⟨c6, c7, c8⟩, -⟩ := F2.out.bx; clear HR HX HB HSA HSB)
    | (go_at_call 9; clear t1; refine (few_any _ _ _ _ _ _ _ _ _ _).mono ?_; rintro e wf ⟨rfl, hbf⟩; have F9 : Hid (RdM wf (.slice a1 m.vol.length c1) (.slice a2 m.per.length c2) (.slice a3 m.pend.length c3) m) := F1.out.below hbf; have F10 : Hid (Bo wf w.heap.size (.slice a1 m.vol.length c1) (.slice a2 m.per.length c2) (.slice a3 m.pend.length c3)) := F2.out.below hbf; have F11 : Hid (Below w.heap.size w wf) := bstep F3.out hbf; have F12 : Hid (RdS wf (.slice aa la.length ca) la) := F4.out.below hbf; have F13 : Hid (RdS wf (.slice ab lb.length cb) lb) := F5.out.below hbf; clear hbf; obtain ⟨⟨c14, c15, c16⟩, -⟩ := F10.out.bx; clear c6 c7 c8; clear F1 F2 F3 F4 F5))
  clear c14 c15 c16
  have Hlt : Hid (w.heap.size < wf.heap.size) := F10.out.lt
  generalize wf = WL at F9 F10 F11 F12 F13 Hlt ⊢
  go_loopw [8] (fun s w4 => ∃ i : Nat, i ≤ la.length ∧ s = .int .i64 i ∧ (∀ z ∈ la.take i, ∀ y ∈ lb, lnS z ≠ lnS y) ∧ Below WL.heap.size WL w4) (fun s _ => la.length - (intOf s).toNat)
  case atStart => exact ⟨0, Nat.zero_le _, rfl, fun z hz => by simp at hz, Below.refl _ _⟩
  case round =>
    obtain ⟨i, hi, rfl, hap, hbel⟩ := hrel
    have Hap : Hid (∀ z ∈ la.take i, ∀ y ∈ lb, lnS z ≠ lnS y) := hap
    have HBr : Hid (Below WL.heap.size WL wr) := hbel
    clear hap hbel
    by_cases hlt : i < la.length
    · have hltI : (i : Int) < (la.length : Int) := by omega
      obtain ⟨x, hx⟩ : ∃ x, la[i]? = some x := ⟨_, List.getElem?_eq_getElem hlt⟩
      have Hx : Hid (la[i]? = some x) := hx
      clear hx
      go_wp2
      go_loopw [9] (fun s w5 => ∃ k : Nat, k ≤ lb.length ∧ s = .int .i64 k ∧ (∀ z ∈ lb.take k, lnS x ≠ lnS z) ∧ Below WL.heap.size WL w5) (fun s _ => lb.length - (intOf s).toNat)
      case atStart => exact ⟨0, Nat.zero_le _, rfl, fun z hz => by simp at hz, HBr.out⟩
      case round =>
        obtain ⟨k, hk, rfl, hap2, hb2⟩ := hrel
        have Hap2 : Hid (∀ z ∈ lb.take k, lnS x ≠ lnS z) := hap2
        have HB2 : Hid (Below WL.heap.size WL wr) := hb2
        clear hap2 hb2
        by_cases hltk : k < lb.length
        · have hltkI : (k : Int) < (lb.length : Int) := by omega
          obtain ⟨y, hy⟩ : ∃ y, lb[k]? = some y := ⟨_, List.getElem?_eq_getElem hltk⟩
          have Hy : Hid (lb[k]? = some y) := hy
          obtain ⟨bx, ox, rfl, c0, c1', c2'⟩ := (F12.out.below HB2.out).get Hx.out
          obtain ⟨by', oy, rfl, d0, d1, d2⟩ := (F13.out.below HB2.out).get hy
          clear hy
          have HS0 : Hid ((wr.drew.cell? ⟨bx, ox + i * 3, none⟩ = some (.int .i64 x.k) ∧ wr.drew.cell? ⟨bx, ox + i * 3 + 1, none⟩ = some (.int .i64 x.a) ∧ wr.drew.cell? ⟨bx, ox + i * 3 + 2, none⟩ = some (.int .i64 x.v)) ∧ (wr.drew.cell? ⟨by', oy + k * 3, none⟩ = some (.int .i64 y.k) ∧ wr.drew.cell? ⟨by', oy + k * 3 + 1, none⟩ = some (.int .i64 y.a) ∧ wr.drew.cell? ⟨by', oy + k * 3 + 2, none⟩ = some (.int .i64 y.v))) := ⟨⟨c0, c1', c2'⟩, d0, d1, d2⟩
          have tk : Hid (0 = 0) := rfl
          by_cases hxy : lnS x = lnS y
          · have hbq : (lnS x == lnS y) = true := by simpa using hxy
            clear hxy
            go_wp2
            go_region_held3 (fun W => (W.cell? ⟨bx, ox + i * 3, none⟩ = some (.int .i64 x.k) ∧ W.cell? ⟨bx, ox + i * 3 + 1, none⟩ = some (.int .i64 x.a) ∧ W.cell? ⟨bx, ox + i * 3 + 2, none⟩ = some (.int .i64 x.v)) ∧ (W.cell? ⟨by', oy + k * 3, none⟩ = some (.int .i64 y.k) ∧ W.cell? ⟨by', oy + k * 3 + 1, none⟩ = some (.int .i64 y.a) ∧ W.cell? ⟨by', oy + k * 3 + 2, none⟩ = some (.int .i64 y.v)))
              (first | exact HS0.out | exact ⟨(F12.out.below (bstep HB2.out (by ((repeat (first | exact Below.refl _ _ | exact HN2.out | exact HN1.out | with_reducible refine Below.dr ?_ | with_reducible refine Below.al _ ?_)); all_goals fail)))).cells Hx.out, (F13.out.below (bstep HB2.out (by ((repeat (first | exact Below.refl _ _ | exact HN2.out | exact HN1.out | with_reducible refine Below.dr ?_ | with_reducible refine Below.al _ ?_)); all_goals fail)))).cells Hy.out⟩)
              (first
              | (go_at_call 21; clear tk; refine (line_any x _).mono ?_; rintro e n1 ⟨rfl, hn1⟩; have HN1 : Hid (Below wr.heap.size wr n1) := bstep (by ((repeat (first | exact Below.refl _ _ | with_reducible refine Below.dr ?_ | with_reducible refine Below.al _ ?_)); all_goals fail)) hn1; clear hn1)
              | (go_at_call 21; refine (line_any y _).mono ?_; rintro e n2 ⟨rfl, hn2⟩; have HN2 : Hid (Below wr.heap.size wr n2) := bstep HN1.out hn2; clear hn2))
            all_goals
              go_wp2
              go_ret
              exact ⟨rfl, bstep (bstep F11.out HB2.out) HN2.out⟩
          · have hbq : (lnS x == lnS y) = false := by simpa using hxy
            have Hn2 : Hid (∀ z ∈ lb.take (k + 1), lnS x ≠ lnS z) := ap_next Hap2.out Hy.out hxy
            clear hxy
            go_wp2
            go_region_held3 (fun W => (W.cell? ⟨bx, ox + i * 3, none⟩ = some (.int .i64 x.k) ∧ W.cell? ⟨bx, ox + i * 3 + 1, none⟩ = some (.int .i64 x.a) ∧ W.cell? ⟨bx, ox + i * 3 + 2, none⟩ = some (.int .i64 x.v)) ∧ (W.cell? ⟨by', oy + k * 3, none⟩ = some (.int .i64 y.k) ∧ W.cell? ⟨by', oy + k * 3 + 1, none⟩ = some (.int .i64 y.a) ∧ W.cell? ⟨by', oy + k * 3 + 2, none⟩ = some (.int .i64 y.v)))
              (first | exact HS0.out | exact ⟨(F12.out.below (bstep HB2.out (by ((repeat (first | exact Below.refl _ _ | exact HN2.out | exact HN1.out | with_reducible refine Below.dr ?_ | with_reducible refine Below.al _ ?_)); all_goals fail)))).cells Hx.out, (F13.out.below (bstep HB2.out (by ((repeat (first | exact Below.refl _ _ | exact HN2.out | exact HN1.out | with_reducible refine Below.dr ?_ | with_reducible refine Below.al _ ?_)); all_goals fail)))).cells Hy.out⟩)
              (first
              | (go_at_call 21; clear tk; refine (line_any x _).mono ?_; rintro e n1 ⟨rfl, hn1⟩; have HN1 : Hid (Below wr.heap.size wr n1) := bstep (by ((repeat (first | exact Below.refl _ _ | with_reducible refine Below.dr ?_ | with_reducible refine Below.al _ ?_)); all_goals fail)) hn1; clear hn1)
              | (go_at_call 21; refine (line_any y _).mono ?_; rintro e n2 ⟨rfl, hn2⟩; have HN2 : Hid (Below wr.heap.size wr n2) := bstep HN1.out hn2; clear hn2))
            all_goals
              go_wp2
              go_roundw
              case rel => exact ⟨k + 1, by omega, by go_num, Hn2.out, bstep HB2.out HN2.out⟩
              case measure => simp [intOf]; omega
        · have Hn : Hid (∀ z ∈ la.take (i + 1), ∀ y ∈ lb, lnS z ≠ lnS y) := ap_next2 Hap.out Hx.out (by have := Hap2.out; rwa [List.take_of_length_le (by omega)] at this)
          go_wp2
          go_roundw
          case rel => exact ⟨i + 1, by omega, by go_num, Hn.out, HB2.out⟩
          case measure => simp [intOf]; omega
    · have hap : ∀ x ∈ la, ∀ y ∈ lb, lnS x ≠ lnS y := by have := Hap.out; rwa [List.take_of_length_le (by omega)] at this
      obtain ⟨w1', w2', w3'⟩ := apart_ways m la lb hap
      have heq : (ruE m (la ++ lb) == ruE m (lb ++ la)) = true := by rw [w1']; simp
      have hvo : decide ((ruM m (la ++ lb)).vol = (ruM m (lb ++ la)).vol) = true := decide_eq_true w2'
      have Hpe : Hid (m.pend = [] → decide ((ruM m (la ++ lb)).per = (ruM m (lb ++ la)).per) = true) := fun h => decide_eq_true (w3' h)
      have HSr : Hid (RdS wr (.slice aa la.length ca) la) := F12.out.below HBr.out
      have HTr : Hid (RdS wr (.slice ab lb.length cb) lb) := F13.out.below HBr.out
      have HMr : Hid (RdM wr (.slice a1 m.vol.length c1) (.slice a2 m.per.length c2) (.slice a3 m.pend.length c3) m) := F9.out.below HBr.out
      have HXr : Hid (Bo wr w.heap.size (.slice a1 m.vol.length c1) (.slice a2 m.per.length c2) (.slice a3 m.pend.length c3)) := F10.out.below HBr.out
      have lt0 : w.heap.size < wr.heap.size := HXr.out.lt
      have le0 : WL.heap.size ≤ wr.heap.size := HBr.out.size
      have hl1 : la.length ≤ 2000 := by omega
      have hl2 : lb.length ≤ 2000 := by omega
      have hl3 : (la ++ lb).length ≤ 1000 := by rw [List.length_append]; omega
      have hl4 : (lb ++ la).length ≤ 1000 := by rw [List.length_append]; omega
      have hl5 : m.pend.length + (la ++ lb).length ≤ 900 := by rw [List.length_append]; omega
      have hl6 : m.pend.length + (lb ++ la).length ≤ 900 := by rw [List.length_append]; omega
      clear w1' w2' w3' hap
      go_upto_region 12 with fail
      go_cut [10, 11] (fun s10 s11 wx => ∃ bz v1 v2 v3, s10 = .pointer (some ⟨bz, 0, none⟩) ∧ s11 = .int .i64 (ruE m (la ++ lb)) ∧ Below WL.heap.size WL wx ∧ RdM wx v1 v2 v3 (ruM m (la ++ lb)) ∧ Bo wx bz v1 v2 v3)
      case first =>
        obtain ⟨⟨z0, z1, z2⟩, -⟩ := HXr.out.bx
        have HS0 : Hid (wr.drew.cell? ⟨w.heap.size, 0, none⟩ = some (.slice a1 m.vol.length c1) ∧ wr.drew.cell? ⟨w.heap.size, 1, none⟩ = some (.slice a2 m.per.length c2) ∧ wr.drew.cell? ⟨w.heap.size, 2, none⟩ = some (.slice a3 m.pend.length c3)) := ⟨z0, z1, z2⟩
        go_region_held3 (fun W => W.cell? ⟨w.heap.size, 0, none⟩ = some (.slice a1 m.vol.length c1) ∧ W.cell? ⟨w.heap.size, 1, none⟩ = some (.slice a2 m.per.length c2) ∧ W.cell? ⟨w.heap.size, 2, none⟩ = some (.slice a3 m.pend.length c3))
          (first | exact HS0.out | (with_reducible exact keep9 (HXr.out.below H6.out) hz.out _ _ _) | exact (HXr.out.below (by ((repeat (first | exact Below.refl _ _ | exact H6.out | exact HT2.out | exact HT1.out | with_reducible refine Below.dr ?_ | with_reducible refine Below.al _ ?_)); all_goals fail))).bx.1)
          (first
          | (refine step_rds0 rfl (.tmp 55) (.tmp 56) rfl _ _ la rfl rfl (hp_drew (hp_new rfl)) (HSr.out.below (by ((repeat (first | exact Below.refl _ _ | with_reducible refine Below.dr ?_ | with_reducible refine Below.al _ ?_)); all_goals fail))) ?_; intro q1 e1 r1 o1 gr1 at1; have HT1 : Hid (Below wr.heap.size wr r1) := Below.gr (by ((repeat (first | exact Below.refl _ _ | with_reducible refine Below.dr ?_ | with_reducible refine Below.al _ ?_)); all_goals fail)) gr1 (by simp); have HO1 : Hid (OwnS r1 _ (.slice (some ⟨q1, 0, none⟩) la.length e1) la) := o1; have q1lt : Hid (q1 < r1.heap.size) := (World.ownsRow.lt o1 q1 rfl).2; have HG1 : Hid (World.grownBy _ r1 _) := gr1; (try simp at at1); have q1le : Hid (wr.heap.size ≤ q1) := (by show _ ≤ _; omega); have at1 : Hid _ := at1; clear o1 gr1)
          | (refine step_rds0 rfl (.tmp 55) (.tmp 56) rfl _ _ la rfl rfl (hp_drew (hp_new (World.size_alloc _ _).symm)) (HSr.out.below (by ((repeat (first | exact Below.refl _ _ | with_reducible refine Below.dr ?_ | with_reducible refine Below.al _ ?_)); all_goals fail))) ?_; intro q1 e1 r1 o1 gr1 at1; have HT1 : Hid (Below wr.heap.size wr r1) := Below.gr (by ((repeat (first | exact Below.refl _ _ | with_reducible refine Below.dr ?_ | with_reducible refine Below.al _ ?_)); all_goals fail)) gr1 (by simp); have HO1 : Hid (OwnS r1 _ (.slice (some ⟨q1, 0, none⟩) la.length e1) la) := o1; have q1lt : Hid (q1 < r1.heap.size) := (World.ownsRow.lt o1 q1 rfl).2; have HG1 : Hid (World.grownBy _ r1 _) := gr1; (try simp at at1); have q1le : Hid (wr.heap.size ≤ q1) := (by show _ ≤ _; omega); have at1 : Hid _ := at1; clear o1 gr1)
          | (refine step_rds0 rfl (.tmp 55) (.tmp 56) rfl _ _ la rfl rfl (hp_drew (hp_old (hp_new rfl))) (HSr.out.below (by ((repeat (first | exact Below.refl _ _ | with_reducible refine Below.dr ?_ | with_reducible refine Below.al _ ?_)); all_goals fail))) ?_; intro q1 e1 r1 o1 gr1 at1; have HT1 : Hid (Below wr.heap.size wr r1) := Below.gr (by ((repeat (first | exact Below.refl _ _ | with_reducible refine Below.dr ?_ | with_reducible refine Below.al _ ?_)); all_goals fail)) gr1 (by simp); have HO1 : Hid (OwnS r1 _ (.slice (some ⟨q1, 0, none⟩) la.length e1) la) := o1; have q1lt : Hid (q1 < r1.heap.size) := (World.ownsRow.lt o1 q1 rfl).2; have HG1 : Hid (World.grownBy _ r1 _) := gr1; (try simp at at1); have q1le : Hid (wr.heap.size ≤ q1) := (by show _ ≤ _; omega); have at1 : Hid _ := at1; clear o1 gr1)
          | (refine step_rds1 rfl (.tmp 57) (.tmp 58) rfl _ q1 e1 la rfl (HO1.out.below (by ((repeat (first | exact Below.refl _ _ | with_reducible refine Below.dr ?_ | with_reducible refine Below.al _ ?_)); all_goals fail))) hl1 _ lb rfl (HTr.out.below (by ((repeat (first | exact Below.refl _ _ | exact HT1.out | with_reducible refine Below.dr ?_ | with_reducible refine Below.al _ ?_)); all_goals fail))) ?_; intro q2 e2 r2 o2 gr2; have HT2 : Hid (Below wr.heap.size wr r2) := Below.gr (by ((repeat (first | exact Below.refl _ _ | exact HT1.out | with_reducible refine Below.dr ?_ | with_reducible refine Below.al _ ?_)); all_goals fail)) gr2 q1le.out; have HO2 : Hid (OwnS r2 _ (.slice (some ⟨q2, 0, none⟩) (la.length + lb.length) e2) (la ++ lb)) := o2; have HG2 : Hid (World.grownBy _ r2 _) := gr2; clear o2 gr2)
          | (go_at_call 10; refine (run_any _ _ _ _ m (la ++ lb) _ (HMr.out.below (by ((repeat (first | exact Below.refl _ _ | exact HT2.out | with_reducible refine Below.dr ?_ | with_reducible refine Below.al _ ?_)); all_goals fail))) ((HO2.out.below (by ((repeat (first | exact Below.refl _ _ | with_reducible refine Below.dr ?_ | with_reducible refine Below.al _ ?_)); all_goals fail))).rd hl3) hl5).mono ?_; rintro e w6 ⟨v1, v2, v3, rfl, R6, hb6⟩; obtain ⟨g1, h1, g2, h2, g3, h3, rfl, rfl, rfl⟩ := R6.forms; have H6 : Hid (Below wr.heap.size wr w6) := bstep (by ((repeat (first | exact Below.refl _ _ | exact HT2.out | with_reducible refine Below.dr ?_ | with_reducible refine Below.al _ ?_)); all_goals fail)) hb6; (try (have HZ6 : Hid (Bo w6 r2.heap.size (.slice none 0 0) (.slice none 0 0) (.slice none 0 0)) := hp_below hb6 (hp_new rfl); have hz : Hid (w.heap.size ≠ r2.heap.size) := Nat.ne_of_lt (Nat.lt_of_lt_of_le lt0 HT2.out.size); have hz2 : Hid (WL.heap.size ≤ r2.heap.size) := Nat.le_trans le0 HT2.out.size; obtain ⟨⟨t0, t1, t2⟩, tf0, tf1, tf2⟩ := HZ6.out.bx)); (try (have HZ6 : Hid (Bo w6 r1.heap.size (.slice none 0 0) (.slice none 0 0) (.slice none 0 0)) := hp_below hb6 (hp_grown' HG2.out (Nat.ne_of_gt q1lt.out) (hp_new rfl)); have hz : Hid (w.heap.size ≠ r1.heap.size) := Nat.ne_of_lt (Nat.lt_of_lt_of_le lt0 HT1.out.size); have hz2 : Hid (WL.heap.size ≤ r1.heap.size) := Nat.le_trans le0 HT1.out.size; obtain ⟨⟨t0, t1, t2⟩, tf0, tf1, tf2⟩ := HZ6.out.bx)); (try (have HZ6 : Hid (Bo w6 (wr.heap.size + 1) (.slice none 0 0) (.slice none 0 0) (.slice none 0 0)) := hp_below hb6 (hp_grown' HG2.out (ne2 at1.out) (hp_grown' HG1.out (Nat.succ_ne_self _) (bo_second _ _))); have hz : Hid (w.heap.size ≠ (wr.heap.size + 1)) := Nat.ne_of_lt (Nat.lt_succ_of_lt lt0); have hz2 : Hid (WL.heap.size ≤ (wr.heap.size + 1)) := Nat.le_succ_of_le le0; obtain ⟨⟨t0, t1, t2⟩, tf0, tf1, tf2⟩ := HZ6.out.bx)); (try (have HZ6 : Hid (Bo w6 wr.heap.size (.slice none 0 0) (.slice none 0 0) (.slice none 0 0)) := hp_below hb6 (hp_grown' HG2.out (ne1 at1.out) (hp_grown' HG1.out (Nat.ne_of_lt (Nat.lt_succ_self _)) (bo_first _ _))); have hz : Hid (w.heap.size ≠ wr.heap.size) := Nat.ne_of_lt lt0; have hz2 : Hid (WL.heap.size ≤ wr.heap.size) := le0; obtain ⟨⟨t0, t1, t2⟩, tf0, tf1, tf2⟩ := HZ6.out.bx)); have HR6 : Hid (RdM w6 (.slice g1 (ruM m (la ++ lb)).vol.length h1) (.slice g2 (ruM m (la ++ lb)).per.length h2) (.slice g3 (ruM m (la ++ lb)).pend.length h3) (ruM m (la ++ lb))) := R6; clear R6 hb6))
        all_goals
          go_wp2_with fail
          go_meet
          first
            | exact ⟨_, _, _, _, rfl, rfl, S3.below (bstep HBr.out H6.out) hz2.out _ _ _, HR6.out.box HZ6.out _ _ _, HZ6.out.set _ _ _⟩
            | exact ⟨_, _, _, _, rfl, rfl, bstep (bstep HBr.out H6.out) ((Below.refl _ _).alloc (Nat.le_refl _) _), HR6.out.below ((Below.refl _ _).alloc (Nat.le_refl _) _), Bo.new w6 _ _ _⟩
      case rest =>
        generalize wc = wd at hcut ⊢
        obtain ⟨bz, v1, v2, v3, rfl, rfl, hBd, hRd, hNd⟩ := hcut
        obtain ⟨y1, u1, y2, u2, y3, u3, rfl, rfl, rfl⟩ := hRd.forms
        have HBd : Hid (Below WL.heap.size WL wd) := hBd
        have HRd : Hid (RdM wd (.slice y1 (ruM m (la ++ lb)).vol.length u1) (.slice y2 (ruM m (la ++ lb)).per.length u2) (.slice y3 (ruM m (la ++ lb)).pend.length u3) (ruM m (la ++ lb))) := hRd
        have HNd : Hid (Bo wd bz (.slice y1 (ruM m (la ++ lb)).vol.length u1) (.slice y2 (ruM m (la ++ lb)).per.length u2) (.slice y3 (ruM m (la ++ lb)).pend.length u3)) := hNd
        clear hBd hRd hNd HSr HTr HMr HXr lt0 le0
        have HSc : Hid (RdS wd (.slice aa la.length ca) la) := F12.out.below HBd.out
        have HTc : Hid (RdS wd (.slice ab lb.length cb) lb) := F13.out.below HBd.out
        have HMc : Hid (RdM wd (.slice a1 m.vol.length c1) (.slice a2 m.per.length c2) (.slice a3 m.pend.length c3) m) := F9.out.below HBd.out
        have HXc : Hid (Bo wd w.heap.size (.slice a1 m.vol.length c1) (.slice a2 m.per.length c2) (.slice a3 m.pend.length c3)) := F10.out.below HBd.out
        have HBc : Hid (Below wd.heap.size wd wd) := Below.refl _ _
        have lt1 : w.heap.size < wd.heap.size := HXc.out.lt
        have le1 : wd.heap.size ≤ wd.heap.size := Nat.le_refl _
        go_upto_region 13 with fail
        go_cut [12, 13] (fun s12 s13 wx => ∃ bz v1 v2 v3, s12 = .pointer (some ⟨bz, 0, none⟩) ∧ s13 = .int .i64 (ruE m (lb ++ la)) ∧ Below wd.heap.size wd wx ∧ RdM wx v1 v2 v3 (ruM m (lb ++ la)) ∧ Bo wx bz v1 v2 v3)
        case first =>
          obtain ⟨⟨z0, z1, z2⟩, -⟩ := HXc.out.bx
          have HS0 : Hid (wd.drew.cell? ⟨w.heap.size, 0, none⟩ = some (.slice a1 m.vol.length c1) ∧ wd.drew.cell? ⟨w.heap.size, 1, none⟩ = some (.slice a2 m.per.length c2) ∧ wd.drew.cell? ⟨w.heap.size, 2, none⟩ = some (.slice a3 m.pend.length c3)) := ⟨z0, z1, z2⟩
          go_region_held3 (fun W => W.cell? ⟨w.heap.size, 0, none⟩ = some (.slice a1 m.vol.length c1) ∧ W.cell? ⟨w.heap.size, 1, none⟩ = some (.slice a2 m.per.length c2) ∧ W.cell? ⟨w.heap.size, 2, none⟩ = some (.slice a3 m.pend.length c3))
            (first | exact HS0.out | (with_reducible exact keep9 (HXc.out.below H6.out) hz.out _ _ _) | exact (HXc.out.below (by ((repeat (first | exact Below.refl _ _ | exact H6.out | exact HT2.out | exact HT1.out | with_reducible refine Below.dr ?_ | with_reducible refine Below.al _ ?_)); all_goals fail))).bx.1)
            (first
            | (refine step_rds0 rfl (.tmp 65) (.tmp 66) rfl _ _ lb rfl rfl (hp_drew (hp_new rfl)) (HTc.out.below (by ((repeat (first | exact Below.refl _ _ | with_reducible refine Below.dr ?_ | with_reducible refine Below.al _ ?_)); all_goals fail))) ?_; intro q1 e1 r1 o1 gr1 at1; have HT1 : Hid (Below wd.heap.size wd r1) := Below.gr (by ((repeat (first | exact Below.refl _ _ | with_reducible refine Below.dr ?_ | with_reducible refine Below.al _ ?_)); all_goals fail)) gr1 (by simp); have HO1 : Hid (OwnS r1 _ (.slice (some ⟨q1, 0, none⟩) lb.length e1) lb) := o1; have q1lt : Hid (q1 < r1.heap.size) := (World.ownsRow.lt o1 q1 rfl).2; have HG1 : Hid (World.grownBy _ r1 _) := gr1; (try simp at at1); have q1le : Hid (wd.heap.size ≤ q1) := (by show _ ≤ _; omega); have at1 : Hid _ := at1; clear o1 gr1)
            | (refine step_rds0 rfl (.tmp 65) (.tmp 66) rfl _ _ lb rfl rfl (hp_drew (hp_new (World.size_alloc _ _).symm)) (HTc.out.below (by ((repeat (first | exact Below.refl _ _ | with_reducible refine Below.dr ?_ | with_reducible refine Below.al _ ?_)); all_goals fail))) ?_; intro q1 e1 r1 o1 gr1 at1; have HT1 : Hid (Below wd.heap.size wd r1) := Below.gr (by ((repeat (first | exact Below.refl _ _ | with_reducible refine Below.dr ?_ | with_reducible refine Below.al _ ?_)); all_goals fail)) gr1 (by simp); have HO1 : Hid (OwnS r1 _ (.slice (some ⟨q1, 0, none⟩) lb.length e1) lb) := o1; have q1lt : Hid (q1 < r1.heap.size) := (World.ownsRow.lt o1 q1 rfl).2; have HG1 : Hid (World.grownBy _ r1 _) := gr1; (try simp at at1); have q1le : Hid (wd.heap.size ≤ q1) := (by show _ ≤ _; omega); have at1 : Hid _ := at1; clear o1 gr1)
            | (refine step_rds0 rfl (.tmp 65) (.tmp 66) rfl _ _ lb rfl rfl (hp_drew (hp_old (hp_new rfl))) (HTc.out.below (by ((repeat (first | exact Below.refl _ _ | with_reducible refine Below.dr ?_ | with_reducible refine Below.al _ ?_)); all_goals fail))) ?_; intro q1 e1 r1 o1 gr1 at1; have HT1 : Hid (Below wd.heap.size wd r1) := Below.gr (by ((repeat (first | exact Below.refl _ _ | with_reducible refine Below.dr ?_ | with_reducible refine Below.al _ ?_)); all_goals fail)) gr1 (by simp); have HO1 : Hid (OwnS r1 _ (.slice (some ⟨q1, 0, none⟩) lb.length e1) lb) := o1; have q1lt : Hid (q1 < r1.heap.size) := (World.ownsRow.lt o1 q1 rfl).2; have HG1 : Hid (World.grownBy _ r1 _) := gr1; (try simp at at1); have q1le : Hid (wd.heap.size ≤ q1) := (by show _ ≤ _; omega); have at1 : Hid _ := at1; clear o1 gr1)
            | (refine step_rds1 rfl (.tmp 67) (.tmp 68) rfl _ q1 e1 lb rfl (HO1.out.below (by ((repeat (first | exact Below.refl _ _ | with_reducible refine Below.dr ?_ | with_reducible refine Below.al _ ?_)); all_goals fail))) hl2 _ la rfl (HSc.out.below (by ((repeat (first | exact Below.refl _ _ | exact HT1.out | with_reducible refine Below.dr ?_ | with_reducible refine Below.al _ ?_)); all_goals fail))) ?_; intro q2 e2 r2 o2 gr2; have HT2 : Hid (Below wd.heap.size wd r2) := Below.gr (by ((repeat (first | exact Below.refl _ _ | exact HT1.out | with_reducible refine Below.dr ?_ | with_reducible refine Below.al _ ?_)); all_goals fail)) gr2 q1le.out; have HO2 : Hid (OwnS r2 _ (.slice (some ⟨q2, 0, none⟩) (lb.length + la.length) e2) (lb ++ la)) := o2; have HG2 : Hid (World.grownBy _ r2 _) := gr2; clear o2 gr2)
            | (go_at_call 10; refine (run_any _ _ _ _ m (lb ++ la) _ (HMc.out.below (by ((repeat (first | exact Below.refl _ _ | exact HT2.out | with_reducible refine Below.dr ?_ | with_reducible refine Below.al _ ?_)); all_goals fail))) ((HO2.out.below (by ((repeat (first | exact Below.refl _ _ | with_reducible refine Below.dr ?_ | with_reducible refine Below.al _ ?_)); all_goals fail))).rd hl4) hl6).mono ?_; rintro e w6 ⟨v1, v2, v3, rfl, R6, hb6⟩; obtain ⟨g1, h1, g2, h2, g3, h3, rfl, rfl, rfl⟩ := R6.forms; have H6 : Hid (Below wd.heap.size wd w6) := bstep (by ((repeat (first | exact Below.refl _ _ | exact HT2.out | with_reducible refine Below.dr ?_ | with_reducible refine Below.al _ ?_)); all_goals fail)) hb6; (try (have HZ6 : Hid (Bo w6 r2.heap.size (.slice none 0 0) (.slice none 0 0) (.slice none 0 0)) := hp_below hb6 (hp_new rfl); have hz : Hid (w.heap.size ≠ r2.heap.size) := Nat.ne_of_lt (Nat.lt_of_lt_of_le lt1 HT2.out.size); have hz2 : Hid (wd.heap.size ≤ r2.heap.size) := Nat.le_trans le1 HT2.out.size; obtain ⟨⟨t0, t1, t2⟩, tf0, tf1, tf2⟩ := HZ6.out.bx)); (try (have HZ6 : Hid (Bo w6 r1.heap.size (.slice none 0 0) (.slice none 0 0) (.slice none 0 0)) := hp_below hb6 (hp_grown' HG2.out (Nat.ne_of_gt q1lt.out) (hp_new rfl)); have hz : Hid (w.heap.size ≠ r1.heap.size) := Nat.ne_of_lt (Nat.lt_of_lt_of_le lt1 HT1.out.size); have hz2 : Hid (wd.heap.size ≤ r1.heap.size) := Nat.le_trans le1 HT1.out.size; obtain ⟨⟨t0, t1, t2⟩, tf0, tf1, tf2⟩ := HZ6.out.bx)); (try (have HZ6 : Hid (Bo w6 (wd.heap.size + 1) (.slice none 0 0) (.slice none 0 0) (.slice none 0 0)) := hp_below hb6 (hp_grown' HG2.out (ne2 at1.out) (hp_grown' HG1.out (Nat.succ_ne_self _) (bo_second _ _))); have hz : Hid (w.heap.size ≠ (wd.heap.size + 1)) := Nat.ne_of_lt (Nat.lt_succ_of_lt lt1); have hz2 : Hid (wd.heap.size ≤ (wd.heap.size + 1)) := Nat.le_succ_of_le le1; obtain ⟨⟨t0, t1, t2⟩, tf0, tf1, tf2⟩ := HZ6.out.bx)); (try (have HZ6 : Hid (Bo w6 wd.heap.size (.slice none 0 0) (.slice none 0 0) (.slice none 0 0)) := hp_below hb6 (hp_grown' HG2.out (ne1 at1.out) (hp_grown' HG1.out (Nat.ne_of_lt (Nat.lt_succ_self _)) (bo_first _ _))); have hz : Hid (w.heap.size ≠ wd.heap.size) := Nat.ne_of_lt lt1; have hz2 : Hid (wd.heap.size ≤ wd.heap.size) := le1; obtain ⟨⟨t0, t1, t2⟩, tf0, tf1, tf2⟩ := HZ6.out.bx)); have HR6 : Hid (RdM w6 (.slice g1 (ruM m (lb ++ la)).vol.length h1) (.slice g2 (ruM m (lb ++ la)).per.length h2) (.slice g3 (ruM m (lb ++ la)).pend.length h3) (ruM m (lb ++ la))) := R6; clear R6 hb6))
          all_goals
            go_wp2_with fail
            go_meet
            first
              | exact ⟨_, _, _, _, rfl, rfl, S3.below (bstep HBc.out H6.out) hz2.out _ _ _, HR6.out.box HZ6.out _ _ _, HZ6.out.set _ _ _⟩
              | exact ⟨_, _, _, _, rfl, rfl, bstep (bstep HBc.out H6.out) ((Below.refl _ _).alloc (Nat.le_refl _) _), HR6.out.below ((Below.refl _ _).alloc (Nat.le_refl _) _), Bo.new w6 _ _ _⟩
        case rest =>
          obtain ⟨bq, v1, v2, v3, rfl, rfl, hBe, hRe, hNe⟩ := hcut
          obtain ⟨x1, s1, x2, s2, x3, s3, rfl, rfl, rfl⟩ := hRe.forms
          have HBe : Hid (Below wd.heap.size wd wc) := hBe
          have HRe : Hid (RdM wc (.slice x1 (ruM m (lb ++ la)).vol.length s1) (.slice x2 (ruM m (lb ++ la)).per.length s2) (.slice x3 (ruM m (lb ++ la)).pend.length s3) (ruM m (lb ++ la))) := hRe
          have HNe : Hid (Bo wc bq (.slice x1 (ruM m (lb ++ la)).vol.length s1) (.slice x2 (ruM m (lb ++ la)).per.length s2) (.slice x3 (ruM m (lb ++ la)).pend.length s3)) := hNe
          have HNf : Hid (Bo wc bz (.slice y1 (ruM m (la ++ lb)).vol.length u1) (.slice y2 (ruM m (la ++ lb)).per.length u2) (.slice y3 (ruM m (la ++ lb)).pend.length u3)) := HNd.out.below hBe
          have HXf : Hid (Bo wc w.heap.size (.slice a1 m.vol.length c1) (.slice a2 m.per.length c2) (.slice a3 m.pend.length c3)) := HXc.out.below hBe
          have HRf : Hid (RdM wc (.slice y1 (ruM m (la ++ lb)).vol.length u1) (.slice y2 (ruM m (la ++ lb)).per.length u2) (.slice y3 (ruM m (la ++ lb)).pend.length u3) (ruM m (la ++ lb))) := HRd.out.below hBe
          have HBf : Hid (Below w.heap.size w wc) := bstep (bstep F11.out HBd.out) hBe
          clear hBe hRe hNe HNd HXc HRd HBc lt1 le1 HSc HTc HMc
          obtain ⟨⟨n0, n1, n2⟩, -⟩ := HNe.out.bx
          obtain ⟨⟨o0, o1, o2⟩, -⟩ := HNf.out.bx
          have tn : Hid (0 = 0) := rfl
          have Hpl : Hid (m.pend.length = 0 → decide ((ruM m (la ++ lb)).per = (ruM m (lb ++ la)).per) = true) := fun h => Hpe.out (List.eq_nil_of_length_eq_zero h)
          clear Hpe hl1 hl2 hl3 hl4 hl5 hl6
          generalize m.pend.length = pl at HXf Hpl ⊢
          by_cases hpz : (0 : Int) < (pl : Int)
          · clear Hpl
            go_wp2_with (first
              | (go_at_call 17; refine (numbers_any _ _ (ruM m (la ++ lb)).vol (ruM m (lb ++ la)).vol _ HRf.out.vol HRe.out.vol).mono ?_; rintro e wn ⟨rfl, hbn⟩; obtain ⟨⟨p0, p1, p2⟩, -⟩ := (HXf.out.below hbn).bx; have HBn : Hid (Below w.heap.size w wn) := bstep HBf.out hbn; clear hbn))
            go_ret
            exact ⟨rfl, HBn.out⟩
          · have hpe : decide ((ruM m (la ++ lb)).per = (ruM m (lb ++ la)).per) = true := Hpl.out (by omega)
            clear Hpl
            go_wp2_with (first
              | (go_at_call 17; clear tn; refine (numbers_any _ _ (ruM m (la ++ lb)).vol (ruM m (lb ++ la)).vol _ HRf.out.vol HRe.out.vol).mono ?_; rintro e wn ⟨rfl, hbn⟩; obtain ⟨⟨p0, p1, p2⟩, -⟩ := (HXf.out.below hbn).bx; obtain ⟨⟨n0, n1, n2⟩, -⟩ := (HNe.out.below hbn).bx; obtain ⟨⟨o0, o1, o2⟩, -⟩ := (HNf.out.below hbn).bx; have HBn : Hid (Below w.heap.size w wn) := bstep HBf.out hbn; have HRg : Hid (RdM wn _ _ _ (ruM m (la ++ lb))) := HRf.out.below hbn; have HRh : Hid (RdM wn _ _ _ (ruM m (lb ++ la))) := HRe.out.below hbn; clear hbn)
              | (go_at_call 17; refine (numbers_any _ _ (ruM m (la ++ lb)).per (ruM m (lb ++ la)).per _ HRg.out.per HRh.out.per).mono ?_; rintro e wn2 ⟨rfl, hbn2⟩; have HBm : Hid (Below w.heap.size w wn2) := bstep HBn.out hbn2; clear hbn2))
            go_ret
            exact ⟨rfl, HBm.out⟩

set_option maxRecDepth 100000 in
set_option maxHeartbeats 4000000 in
theorem walk_MicroApart (a1 a2 a3 : Option Addr) (n1 n2 n3 c1 c2 c3 : Nat) (aa : Option Addr) (na ca : Nat) (ab : Option Addr) (nb cb : Nat) (w : World) (hm : MemIn w a1 a2 a3 n1 n2 n3 c1 c2 c3) (hs : StIn w aa na ca) (ht : StIn w ab nb cb) :
    Calls Try.prog 7 #[.agg #[.slice a1 n1 c1, .slice a2 n2 c2, .slice a3 n3 c3], .slice aa na ca, .slice ab nb cb] w fun e w' => e = .returned (.bool true) ∧ Below w.heap.size w w' := by
  have HB : Hid (Below w.heap.size w (w.alloc (.cells #[.slice a1 n1 c1, .slice a2 n2 c2, .slice a3 n3 c3] 25))) := (Below.refl _ _).alloc (Nat.le_refl _) _
  have HX : Hid (Bo (w.alloc (.cells #[.slice a1 n1 c1, .slice a2 n2 c2, .slice a3 n3 c3] 25)) w.heap.size (.slice a1 n1 c1) (.slice a2 n2 c2) (.slice a3 n3 c3)) := Bo.new w _ _ _
  by_cases h : n1 ≤ 300 ∧ n2 ≤ 300 ∧ n3 ≤ 100
  · obtain ⟨h1, h2, h3⟩ := h
    have hfew : fewB n1 n2 n3 = true := decide_eq_true ⟨h1, h2, h3⟩
    by_cases hna : (na : Int) ≤ 50
    · by_cases hnb : (nb : Int) ≤ 50
      · obtain ⟨m, rfl, rfl, rfl, hR⟩ := hm h1 h2 h3
        obtain ⟨la, rfl, _, hS⟩ := hs (by omega)
        obtain ⟨lb, rfl, _, hT⟩ := ht (by omega)
        exact apart_b a1 a2 a3 aa ab c1 c2 c3 ca cb la lb w m HB HX (hR.below HB.out) (hS.below HB.out) (hT.below HB.out) hfew h3 hna hnb
      · clear hm hs ht
        go_enter Try.func7, Try.ntmps7
        go_wp2_with (first
          | (go_at_call 8; refine (awake_any _).mono ?_; rintro e w0 ⟨rfl, hb0⟩; have HX0 : Hid (Bo w0 _ _ _ _) := HX.out.below hb0; obtain ⟨⟨x0, x1, x2⟩, _⟩ := HX0.out.bx; have HB0 : Hid (Below w.heap.size w w0) := bstep HB.out hb0)
          | (go_at_call 9; refine (few_any _ _ _ _ _ _ _ _ _ _).mono ?_; rintro e wf ⟨rfl, hbf⟩))
        go_ret
        exact ⟨rfl, bstep HB0.out hbf⟩
    · clear hm hs ht
      go_enter Try.func7, Try.ntmps7
      go_wp2_with (first
        | (go_at_call 8; refine (awake_any _).mono ?_; rintro e w0 ⟨rfl, hb0⟩; have HX0 : Hid (Bo w0 _ _ _ _) := HX.out.below hb0; obtain ⟨⟨x0, x1, x2⟩, _⟩ := HX0.out.bx; have HB0 : Hid (Below w.heap.size w w0) := bstep HB.out hb0)
        | (go_at_call 9; refine (few_any _ _ _ _ _ _ _ _ _ _).mono ?_; rintro e wf ⟨rfl, hbf⟩))
      go_ret
      exact ⟨rfl, bstep HB0.out hbf⟩
  · have hfew : fewB n1 n2 n3 = false := decide_eq_false h
    clear hm hs ht
    go_enter Try.func7, Try.ntmps7
    go_wp2_with (first
      | (go_at_call 8; refine (awake_any _).mono ?_; rintro e w0 ⟨rfl, hb0⟩; have HX0 : Hid (Bo w0 _ _ _ _) := HX.out.below hb0; obtain ⟨⟨x0, x1, x2⟩, _⟩ := HX0.out.bx; have HB0 : Hid (Below w.heap.size w w0) := bstep HB.out hb0)
      | (go_at_call 9; refine (few_any _ _ _ _ _ _ _ _ _ _).mono ?_; rintro e wf ⟨rfl, hbf⟩))
    go_ret
    exact ⟨rfl, bstep HB0.out hbf⟩
end Go.Proofs.Ythibgmndgkhfiaa
