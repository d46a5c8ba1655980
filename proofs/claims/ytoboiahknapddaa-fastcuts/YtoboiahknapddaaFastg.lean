/- Walks of layer 6: the document's own answers: a slot stored, the last line persisted. -/
import Derived.Test.YtoboiahknapddaaFastf
import Derived.Deep.RegionHeld3
import Derived.Deep.RegionLaw
import Derived.Deep.AppendLies
namespace Go.Proofs.Ytoboiahknapddaa
open Go.RowKit Go.Shelf
set_option linter.unusedVariables false

theorem hp_drew {X : World} {b : Nat} {c : Obj} (h : X.heap[b]? = some c) : X.drew.heap[b]? = some c := h
theorem hp_new {X : World} {b : Nat} {c : Obj} (h : b = X.heap.size) : (X.alloc c).heap[b]? = some c := by subst h; exact heap_alloc_new X c
theorem hp_old {X : World} {b : Nat} {o c : Obj} (h : X.heap[b]? = some c) : (X.alloc o).heap[b]? = some c := (Below.heap_alloc X o b (Array.getElem?_eq_some_iff.1 h).1).trans h
theorem hp_below {X Y : World} {b : Nat} {c : Obj} (hb : Below X.heap.size X Y) (h : X.heap[b]? = some c) : Y.heap[b]? = some c := (hb.block b (Array.getElem?_eq_some_iff.1 h).1).trans h
theorem hp_grown {X Y : World} {b : Nat} {row : Option Nat} {c : Obj} (hb : X.grownBy Y row) (hne : some b ≠ row) (h : X.heap[b]? = some c) : Y.heap[b]? = some c := (hb.block b (Array.getElem?_eq_some_iff.1 h).1 hne).trans h
theorem Below.al {a W : World} (o : Obj) (h : Below a.heap.size a W) : Below a.heap.size a (W.alloc o) := h.alloc h.size o
theorem Below.dr {a W : World} (h : Below a.heap.size a W) : Below a.heap.size a W.drew := h.drew
theorem own_grown {W W' : World} {base : Nat} {e : TypeId} {size : Nat} {v : Value} {n : Nat} {xs : List Value} {row : Option Nat} (h : W.ownsRow base e size v n xs) (hg : W.grownBy W' row) (hne : ∀ g, v.ownBlock = some g → some g ≠ row) : W'.ownsRow base e size v n xs := by
  refine ⟨h.1, ?_⟩
  rcases h.2 with hn | ⟨g, cap, cur, rfl, hb, hgg, rest⟩
  · exact .inl hn
  · exact .inr ⟨g, cap, cur, rfl, hb, hp_grown hg (hne g rfl) hgg, rest⟩
theorem hp_grown' {X Y : World} {b g : Nat} {c : Obj} (hb : X.grownBy Y (some g)) (hne : b ≠ g) (h : X.heap[b]? = some c) : Y.heap[b]? = some c := hp_grown hb (by simp; exact hne) h
theorem own_grown' {W W' : World} {base : Nat} {e : TypeId} {size : Nat} {ga l c : Nat} {n : Nat} {xs : List Value} {g : Nat} (h : W.ownsRow base e size (.slice (some ⟨ga, 0, none⟩) l c) n xs) (hg : W.grownBy W' (some g)) (hne : ga ≠ g) : W'.ownsRow base e size (.slice (some ⟨ga, 0, none⟩) l c) n xs := own_grown h hg (by intro k hk; cases hk; simp; exact hne)
theorem Below.gr {a W W' : World} {g : Nat} (h : Below a.heap.size a W) (hg : W.grownBy W' (some g)) (hr : a.heap.size ≤ g) : Below a.heap.size a W' := h.grown hg h.size (by intro k hk; cases hk; exact hr)
theorem own_mtS {W : World} {b : Nat} (h : W.heap[b]? = some (.cells #[] 51)) : OwnS W b (.slice (some ⟨b, 0, none⟩) 0 0) [] := by
  refine ⟨rfl, .inr ⟨b, 0, #[], rfl, Nat.le_refl _, h, Nat.le_refl _, by simp, by simp, rfl⟩⟩
/-- Steps that came in are appended to own ones, in a region that draws. -/
theorem step_rds1 {ops : Array Oper} {o : Oper} {a : Act} {W : World} {K : Act → World → Prop} {Q : Exit → Act → World → Prop} {E : Prop} (hgd : o.guard = none) (s x : Operand)
    (ho : o.op = .call { callee := .builtin .append, args := #[s, x], argTypes := #[24, 24] }) (base g c : Nat) (l1 : List Mi) (hs : a.eval s = .slice (some ⟨g, 0, none⟩) l1.length c) (hown : OwnS W base (.slice (some ⟨g, 0, none⟩) l1.length c) l1) (hn : l1.length ≤ 2000) (vx : Value) (l2 : List Mi) (hx : a.eval x = vx) (hR : RdS W vx l2)
    (h : ∀ g' cap w', OwnS w' base (.slice (some ⟨g', 0, none⟩) (l1.length + l2.length) cap) (l1 ++ l2) → W.grownBy w' (some g) → K (a.put o.dst (.slice (some ⟨g', 0, none⟩) (l1.length + l2.length) cap)) w') :
    if Region.wanted o (yielded ops a.tmps) = true then Oper.wp Try.prog o a W K Q else E := by
  obtain ⟨i0, hi, hz0, hz1, hz2⟩ := info_parts Try.info51
  have hlt := (World.ownsRow.lt hown g rfl)
  obtain ⟨hl, hk, ad, cap, rfl, -, h3⟩ := hR
  have hw : Region.wanted o (yielded ops a.tmps) = true := by simp [Region.wanted, hgd]
  by_cases h0 : l2.length = 0
  · have : l2 = [] := List.eq_nil_of_length_eq_zero h0
    subst this
    have hown' : OwnS W base (.slice (some ⟨g, 0, none⟩) (l1.length + ([] : List Mi).length) c) (l1 ++ []) := by rw [List.append_nil]; exact hown
    cases ad with
    | none =>
      have hc0 : cap = 0 := by
        rcases h3 with ⟨_, h⟩ | ⟨b', off, e, _⟩
        · exact h rfl
        · cases e
      subst hc0
      rw [if_pos hw]
      have hrun := run_append_owned_none (P := Try.prog) (w := W) base 24 o.type 51 i0 3 Try.underlying24 hi _ _ _ hown
      unfold Oper.wp
      have hx' : a.eval x = .slice none 0 0 := hx
      simp [execOp, ho, resolve, invoke, builtin, hs, hx', hrun, Result.andThen]
      exact h g c W hown' (World.grownBy.refl W _)
    | some p =>
      have hroom : l1.length + 0 ≤ c := by
        rcases hown.2 with ⟨e, _⟩ | ⟨g', cap', cur, e, _, _, hnc, _⟩
        · cases e
        · cases e; exact hnc
      refine step_append_room hgd s x 24 ho 51 i0 3 Try.underlying24 hi hz1 g 0 l1.length c hs p 0 cap [] hx (by simp) (by intro j u hu; simp at hu) (by simp) hroom (by intro j hj; simp at hj) ?_
      exact h g c W hown' (World.grownBy.refl W _)
  · rcases h3 with ⟨h4, _⟩ | ⟨b', off, rfl, hlt', hc⟩
    · exact absurd h4 h0
    · refine step_append_lies _ hgd s x 24 ho base 51 i0 _ 3 24 Try.underlying24 hi hz0 hz1 hz2 rfl (by decide) _ l1.length (mcs l1) hs hown ⟨b', off, none⟩ l2.length cap (mcs l2) hx hl (by intro j u hu; rw [Addr.add_lit]; exact hc j u hu) (mcs_one l2) (by omega) (by unfold maxLen; omega) (by omega) (by omega) W.heap.size rfl ?_
      intro g' cap' w' r1 r2 r3 r4
      refine h g' cap' w' ?_ r2
      unfold OwnS
      rw [List.length_append, mcs_append]
      exact r1
theorem step_rds0 {ops : Array Oper} {o : Oper} {a : Act} {W : World} {K : Act → World → Prop} {Q : Exit → Act → World → Prop} {E : Prop} (hgd : o.guard = none) (s x : Operand)
    (ho : o.op = .call { callee := .builtin .append, args := #[s, x], argTypes := #[24, 24] }) (b : Nat) (vx : Value) (l : List Mi) (hs : a.eval s = .slice (some ⟨b, 0, none⟩) 0 0) (hx : a.eval x = vx) (hE : W.heap[b]? = some (.cells #[] 51)) (hR : RdS W vx l)
    (h : ∀ g cap w', OwnS w' b (.slice (some ⟨g, 0, none⟩) l.length cap) l → W.grownBy w' (some b) → (g = b ∨ g = W.heap.size) → K (a.put o.dst (.slice (some ⟨g, 0, none⟩) l.length cap)) w') :
    if Region.wanted o (yielded ops a.tmps) = true then Oper.wp Try.prog o a W K Q else E := by
  obtain ⟨i0, hi, hz0, hz1, hz2⟩ := info_parts Try.info51
  have hown := own_mtS hE
  have hlt : b < W.heap.size := (Array.getElem?_eq_some_iff.1 hE).1
  obtain ⟨hl, hk, ad, cap, rfl, -, h3⟩ := hR
  have hw : Region.wanted o (yielded ops a.tmps) = true := by simp [Region.wanted, hgd]
  by_cases h0 : l.length = 0
  · have : l = [] := List.eq_nil_of_length_eq_zero h0
    subst this
    cases ad with
    | none =>
      have hc0 : cap = 0 := by
        rcases h3 with ⟨_, h⟩ | ⟨b', off, e, _⟩
        · exact h rfl
        · cases e
      subst hc0
      rw [if_pos hw]
      have hrun := run_append_owned_none (P := Try.prog) (w := W) b 24 o.type 51 i0 3 Try.underlying24 hi _ 0 _ hown
      unfold Oper.wp
      have hx' : a.eval x = .slice none 0 0 := hx
      simp [execOp, ho, resolve, invoke, builtin, hs, hx', hrun, Result.andThen]
      exact h b 0 W hown (World.grownBy.refl W _) (.inl rfl)
    | some p =>
      refine step_append_room hgd s x 24 ho 51 i0 3 Try.underlying24 hi hz1 b 0 0 0 hs p 0 cap [] hx (by simp) (by intro j u hu; simp at hu) (by simp) (by omega) (by intro j hj; simp at hj) ?_
      exact h b 0 W hown (World.grownBy.refl W _) (.inl rfl)
  · rcases h3 with ⟨h4, _⟩ | ⟨b', off, rfl, hlt', hc⟩
    · exact absurd h4 h0
    · refine step_append_lies _ hgd s x 24 ho b 51 i0 _ 3 24 Try.underlying24 hi hz0 hz1 hz2 rfl (by decide) _ 0 [] hs hown ⟨b', off, none⟩ l.length cap (mcs l) hx hl (by intro j u hu; rw [Addr.add_lit]; exact hc j u hu) (mcs_one l) (by omega) (by unfold maxLen; omega) (by omega) (by omega) W.heap.size rfl ?_
      intro g cap' w' r1 r2 r3 r4
      rw [Nat.zero_add] at r1 ⊢
      exact h g cap' w' r1 r2 (r3.imp (fun e => by simpa [Value.ownBlock] using e.symm) id)
/-- One that lies in a block of its own is appended, in a region that draws. -/
theorem step_lits {ops : Array Oper} {o : Oper} {a : Act} {W : World} {K : Act → World → Prop} {Q : Exit → Act → World → Prop} {E : Prop} (hgd : o.guard = none) (s x : Operand)
    (ho : o.op = .call { callee := .builtin .append, args := #[s, x], argTypes := #[24, 24] }) (base g c b : Nat) (ps : List Mi) (p : Mi) (hs : a.eval s = .slice (some ⟨g, 0, none⟩) ps.length c) (hx : a.eval x = .slice (some ⟨b, 0, none⟩) 1 1) (hown : OwnS W base (.slice (some ⟨g, 0, none⟩) ps.length c) ps) (hn : ps.length ≤ 2000) (hL : W.heap[b]? = some (.cells #[.int .i64 p.k, .int .i64 p.a, .int .i64 p.v] 51))
    (h : ∀ g' cap w', OwnS w' base (.slice (some ⟨g', 0, none⟩) (ps.length + 1) cap) (ps ++ [p]) → W.grownBy w' (some g) → K (a.put o.dst (.slice (some ⟨g', 0, none⟩) (ps.length + 1) cap)) w') :
    if Region.wanted o (yielded ops a.tmps) = true then Oper.wp Try.prog o a W K Q else E := by
  obtain ⟨i0, hi, hz0, hz1, hz2⟩ := info_parts Try.info51
  have hlt := World.ownsRow.lt hown g rfl
  refine step_append_lies _ hgd s x 24 ho base 51 i0 _ 3 24 Try.underlying24 hi hz0 hz1 hz2 rfl (by decide) _ ps.length (mcs ps) hs hown ⟨b, 0, none⟩ 1 1 (mc1 p) hx rfl (World.news_of_block hL) (fun u hu => by simp [mc1] at hu; rcases hu with rfl | rfl | rfl <;> rfl) (by omega) (by unfold maxLen; omega) (by omega) (by omega) W.heap.size rfl ?_
  intro g' cap w' h1 h2 h3 h4
  refine h g' cap w' ?_ h2
  unfold OwnS
  rw [List.length_append, mcs_append]
  exact h1

/-- One more is stored, and the other line persisted ahead of it; the last line is persisted. -/
def stR (b : Int) (l : List Mi) (f : Fl) : List Mi :=
  match l.getLast? with
  | none => [mS b f]
  | some x => if x.a / 8 = plc b f.s / 8 then l ++ [mS b f] else l ++ [⟨2, x.a / 8, 0⟩] ++ [mS b f]
def enR (l : List Mi) : List Mi :=
  match l.getLast? with
  | none => []
  | some x => l ++ [⟨2, x.a / 8, 0⟩]
def foR (b : Int) (fs : List Fl) : List Mi := fs.foldl (stR b) []
theorem foR_next {b : Int} {fs : List Fl} {k : Nat} {f : Fl} (h : fs[k]? = some f) : foR b (fs.take (k + 1)) = stR b (foR b (fs.take k)) f := by
  unfold foR
  rw [take_next h, List.foldl_append]
  rfl
theorem stR_snoc (b : Int) (A : List Mi) (x : Mi) (f : Fl) : stR b (A ++ [x]) f = if x.a / 8 = plc b f.s / 8 then A ++ [x] ++ [mS b f] else A ++ [x] ++ [⟨2, x.a / 8, 0⟩] ++ [mS b f] := by
  unfold stR
  rw [List.getLast?_append]
  rfl
theorem enR_snoc (A : List Mi) (x : Mi) : enR (A ++ [x]) = A ++ [x] ++ [⟨2, x.a / 8, 0⟩] := by
  unfold enR
  rw [List.getLast?_append]
  rfl
theorem fold_put (b : Int) (fs : List Fl) (A : List Mi) (f : Fl) : enR (fs.foldl (stR b) (A ++ [mS b f])) = A ++ putS b (f :: fs) := by
  induction fs generalizing A f with
  | nil => rw [List.foldl_nil, enR_snoc, putS_yes (by rfl)]; simp [putS, mP, mS]
  | cons g r ih =>
    rw [List.foldl_cons, stR_snoc]
    by_cases h : (mS b f).a / 8 = plc b g.s / 8
    · rw [if_pos h, ih, putS_no (b := b) (f := f) (r := g :: r) (decide_eq_false (fun k => k h.symm))]
      simp
    · rw [if_neg h, ih, putS_yes (b := b) (f := f) (r := g :: r) (decide_eq_true (fun k => h k.symm))]
      simp [mP, mS]
theorem foR_put (b : Int) (fs : List Fl) : enR (foR b fs) = putS b fs := by
  cases fs with
  | nil => rfl
  | cons f r => exact fold_put b r [] f
/-- All are at places that may be. -/
def InA (l : List Mi) : Prop := ∀ x ∈ l, 0 ≤ x.a ∧ x.a < 100000
theorem stR_in {b : Int} {l : List Mi} {f : Fl} (hb : ndB b = true) (h0 : 0 ≤ f.s) (h1 : f.s ≤ 12) (h : InA l) : InA (stR b l f) ∧ (stR b l f).length ≤ l.length + 2 := by
  have hpl := plc_yes hb h0 h1
  obtain ⟨b0, b1, b2⟩ := ndB_out hb
  have hS : 0 ≤ (mS b f).a ∧ (mS b f).a < 100000 := by show 0 ≤ plc b f.s ∧ plc b f.s < 100000; omega
  rcases List.eq_nil_or_concat l with rfl | ⟨A, x, rfl⟩
  · exact ⟨fun y hy => by rw [List.mem_singleton.1 hy]; exact hS, by show 1 ≤ 2; omega⟩
  · rw [List.concat_eq_append] at h ⊢
    rw [stR_snoc]
    have hx := h x (by simp)
    split
    · refine ⟨fun y hy => ?_, by simp⟩
      rcases List.mem_append.1 hy with hy | hy
      · exact h y hy
      · rw [List.mem_singleton.1 hy]; exact hS
    · refine ⟨fun y hy => ?_, by simp⟩
      rcases List.mem_append.1 hy with hy | hy
      · rcases List.mem_append.1 hy with hy | hy
        · exact h y hy
        · rw [List.mem_singleton.1 hy]; show 0 ≤ x.a / 8 ∧ x.a / 8 < 100000; omega
      · rw [List.mem_singleton.1 hy]; exact hS
theorem foR_in {b : Int} {fs : List Fl} (hb : ndB b = true) (hs : ∀ f ∈ fs, 0 ≤ f.s ∧ f.s ≤ 12) : InA (foR b fs) ∧ (foR b fs).length ≤ 2 * fs.length := by
  induction fs using snoc_ind with
  | h0 => exact ⟨fun x hx => (by cases hx), Nat.le_refl _⟩
  | h1 l f ih =>
    obtain ⟨ih1, ih2⟩ := ih (fun g hg => hs g (by simp [hg]))
    obtain ⟨f0, f1⟩ := hs f (by simp)
    have e : foR b (l ++ [f]) = stR b (foR b l) f := by unfold foR; rw [List.foldl_append]; rfl
    rw [e]
    obtain ⟨h1, h2⟩ := stR_in hb f0 f1 ih1
    refine ⟨h1, ?_⟩
    simp only [List.length_append, List.length_cons, List.length_nil]
    omega

set_option maxRecDepth 100000 in
set_option maxHeartbeats 4000000 in
theorem endR_any (v : Value) (s : List Mi) (w : World) (hR : RdS w v s) (hA : InA s) : Calls Try.prog 38 #[v] w fun e w' => ∃ v', e = .returned v' ∧ (s.length ≤ 900 → RdS w' v' (enR s)) ∧ Below w.heap.size w w' := by
  obtain ⟨hl, a, cap, rfl⟩ := hR.form
  rcases List.eq_nil_or_concat s with rfl | ⟨A, x, rfl⟩
  · go_enter Try.func38, Try.ntmps38
    go_wp2
    go_ret
    exact ⟨_, rfl, fun _ => RdS.bare _, Below.refl _ _⟩
  · rw [List.concat_eq_append] at *
    have HE : Hid (enR (A ++ [x]) = A ++ [x] ++ [⟨2, x.a / 8, 0⟩]) := enR_snoc A x
    have hx : (A ++ [x])[A.length]? = some x := by simp
    obtain ⟨x0, x1⟩ := hA x (by simp)
    have HR : Hid (RdS w (.slice a (A ++ [x]).length cap) (A ++ [x])) := hR
    obtain ⟨blk, off, rfl, y0, y1, y2⟩ := hR.get hx
    have hsl : (A ++ [x]).length = A.length + 1 := by simp
    generalize A ++ [x] = s at *
    obtain ⟨j, hj⟩ : ∃ j : Nat, j = A.length := ⟨_, rfl⟩
    rw [← hj] at hsl y0 y1 y2
    have hd : ((s.length : Int) == 0) = false := beq_eq_false_iff_ne.2 (by omega)
    have hjI : (s.length : Int) - 1 = (j : Int) := by omega
    have hjl : (j : Int) < (s.length : Int) := by omega
    have hjn : j < s.length := by omega
    have hj0 : (0 : Int) ≤ (j : Int) := by omega
    have hw1 : wrap64 ((s.length : Int) - 1) = (j : Int) := by unfold wrap64; omega
    have hw2 : wrap64 (j : Int) = (j : Int) := by unfold wrap64; omega
    have hw3 : IntKind.i64.wrap ((s.length : Int) - 1) = (j : Int) := by rw [IntKind.wrap_i64]; omega
    have hw4 : IntKind.i64.wrap (j : Int) = (j : Int) := by rw [IntKind.wrap_i64]; omega
    have hsl2 : s.length ≤ 2000 := by omega
    have HC : Hid (w.cell? ⟨blk, off + j * 3 + 1, none⟩ = some (.int .i64 x.a)) := y1
    obtain ⟨xk, xa, xv⟩ := x
    dsimp only at *
    have hq1 : wrap64 (xa.tdiv 8) = xa / 8 := quo8 xa x0 x1
    have hq2 : IntKind.i64.wrap (xa.tdiv 8) = xa / 8 := by rw [IntKind.wrap_i64]; rw [Int.tdiv_eq_ediv_of_nonneg x0]; omega
    clear hR hA hx y0 y2 hsl hj A
    go_enter Try.func38, Try.ntmps38
    go_wp2
    go_region_held3 (fun W => W.cell? ⟨blk, off + j * 3 + 1, none⟩ = some (.int .i64 xa))
      (first | exact HC.out | exact cell_held HC.out (by ((repeat (first | exact Below.refl _ _ | exact HTc.out | exact HTb.out | with_reducible refine Below.dr ?_ | with_reducible refine Below.al _ ?_)); all_goals fail)))
      (first
      | (refine step_rds0 rfl (.tmp 6) (.tmp 7) rfl _ _ s rfl rfl (by ((repeat (first | (with_reducible refine hp_drew ?_) | (with_reducible exact hp_new rfl) | (with_reducible refine hp_new ?_; simp; done) | (with_reducible refine hp_old ?_) | (with_reducible refine hp_grown' HgB.out (by omega) ?_))); all_goals fail)) (HR.out.below (by ((repeat (first | exact Below.refl _ _ | exact HTc.out | exact HTb.out | with_reducible refine Below.dr ?_ | with_reducible refine Below.al _ ?_)); all_goals fail))) ?_; intro gb db wb ob gb' at5; have HgB : Hid (World.grownBy _ wb _) := gb'; have HTb : Hid (Below w.heap.size w wb) := Below.gr (by ((repeat (first | exact Below.refl _ _ | exact HTc.out | exact HTb.out | with_reducible refine Below.dr ?_ | with_reducible refine Below.al _ ?_)); all_goals fail)) gb' (by (first | omega | (simp; done))); have HOB : Hid (OwnS wb _ (.slice (some ⟨gb, 0, none⟩) s.length db) s) := ob; have gb2 : gb < wb.heap.size := (World.ownsRow.lt ob gb rfl).2; have szb := gb'.size; (try simp at szb); (try simp at at5); clear ob gb')
      | (refine step_lits rfl (.tmp 8) (.tmp 18) rfl _ gb db _ s ⟨2, xa / 8, 0⟩ rfl rfl (HOB.out.below (by ((repeat (first | exact Below.refl _ _ | with_reducible refine Below.dr ?_ | with_reducible refine Below.al _ ?_)); all_goals fail))) hsl2 (by ((repeat (first | (with_reducible refine hp_drew ?_) | (with_reducible exact hp_new rfl) | (with_reducible refine hp_new ?_; simp; done) | (with_reducible refine hp_old ?_) | (with_reducible refine hp_grown' HgB.out (by omega) ?_))); all_goals fail)) ?_; intro gc dc wc oc gc'; have HTc : Hid (Below w.heap.size w wc) := Below.gr (by ((repeat (first | exact Below.refl _ _ | exact HTc.out | exact HTb.out | with_reducible refine Below.dr ?_ | with_reducible refine Below.al _ ?_)); all_goals fail)) gc' (by omega); have HOC : Hid (OwnS wc _ (.slice (some ⟨gc, 0, none⟩) (s.length + 1) dc) (s ++ [⟨2, xa / 8, 0⟩])) := oc; clear oc gc'))
    all_goals
      go_wp2
      go_ret
      exact ⟨_, rfl, fun h9 => by rw [HE.out]; exact HOC.out.rd (by rw [List.length_append]; show _ + 1 ≤ _; omega), HTc.out⟩
end Go.Proofs.Ytoboiahknapddaa
