/- Layer 12: the calls of awake. · Layer 12: awake. · Layer 12: pairs that come in, as they are read. -/
import Derived.Test.YtcgclhahonndbaaGreatPoh
import Derived.Test.YtcgclhahonndbaaGreatXRRecj
import Derived.Deep.SlicePairs
namespace Go.Proofs.YtcgclhahonndbaaGreat
open Go.RowKit Go.Shelf
set_option linter.unusedVariables false

def n2N : Nd := ⟨0, 0, 0, 0, [2]⟩
/-- The words of awake. -/
def awW : List Int := (nwL 4).take 16 ++ imN n2N ++ aL ++ (nwL 4).drop 48
def abP : Pa := ⟨⟨#[97]⟩, ⟨#[98]⟩⟩
theorem aw_len : awW.length = 64 := by kernel_rfl
theorem aw_snd : sndB awW = true := by kernel_rfl
theorem aw_ch : chE awW = 0 := by kernel_rfl
theorem aw_prs : (slL awW).flatMap (ownL awW) = [abP] := by kernel_rfl
theorem aw_owE1 : owE awW 1 = 0 := by kernel_rfl
theorem aw_owL1 : owL awW 1 = [abP] := by kernel_rfl
theorem aw_owE2 : owE awW 2 = 1 := by kernel_rfl
theorem aw_ch0 : chE [] = 110 := by kernel_rfl
theorem aw_fits : Fits awW := by
  have h : awW.all (fun z => decide (-9223372036854775808 ≤ z ∧ z < 9223372036854775808)) = true := by kernel_rfl
  intro z hz
  exact of_decide_eq_true (List.all_eq_true.1 h z hz)
theorem aw_wn : wnE n2N = 0 ∧ wnL n2N = imN n2N := ⟨by kernel_rfl, by kernel_rfl⟩
theorem OwnP.one {W : World} {base : Nat} {v : Value} {p : Pa} {l : List Pa} (h : OwnP W base v (p :: l)) : ∃ g c, v = .slice (some ⟨g, 0, none⟩) (p :: l).length c := by
  rcases h.form with ⟨_, e⟩ | ⟨g, c, rfl, _, _⟩
  · cases e
  · exact ⟨g, c, rfl⟩
theorem OwnP.some' {W : World} {base : Nat} {v : Value} {l : List Pa} (h : OwnP W base v l) : ∃ a c, v = .slice a l.length c := by
  rcases h.form with ⟨rfl, rfl⟩ | ⟨g, c, rfl, _, _⟩
  · exact ⟨none, 0, rfl⟩
  · exact ⟨_, c, rfl⟩
theorem aw18 (w : World) : Calls Tryz.prog 17 #[.int .i64 4] w fun e w' => ∃ b off c, e = .returned (.tuple #[.slice (some ⟨b, off, none⟩) 64 c, .int .i64 0]) ∧ Rl w' (.slice (some ⟨b, off, none⟩) 64 c) (nwL 4) ∧ 64 ≤ c ∧ Below w.heap.size w w' := by
  have hE : nwE 4 = 0 := by kernel_rfl
  have hl : (nwL 4).length = 64 := by kernel_rfl
  have k := new_any 4 w
  rw [hE] at k
  refine k.mono ?_
  rintro e w' ⟨v, rfl, r, hb⟩
  have r0 := r
  obtain ⟨_, a, cap, rfl, hc, h3⟩ := r
  rw [hl] at hc h3 r0 ⊢
  rcases h3 with ⟨h, _⟩ | ⟨b, off, rfl, _⟩
  · omega
  · exact ⟨b, off, cap, rfl, r0, hc, hb⟩
theorem aw20 (v : Value) (w : World) (h : Rd w v [2]) : Calls Tryz.prog 19 #[.agg #[.int .i64 0, .int .i64 0, .int .i64 0, .int .i64 0, v]] w fun e w' => ∃ v', e = .returned (.tuple #[v', .int .i64 0]) ∧ Rd w' v' (imN n2N) ∧ Below w.heap.size w w' := by
  have k := words_node n2N v w h
  rw [aw_wn.1, aw_wn.2] at k
  exact k
theorem aw8 (v : Value) (w : World) (h : Rl w v awW) : Calls Tryz.prog 8 #[v] w fun e w' => ∃ g c, e = .returned (.tuple #[.slice (some ⟨g, 0, none⟩) 1 c, .int .i64 0]) ∧ RdP w' (.slice (some ⟨g, 0, none⟩) 1 c) [abP] ∧ Below w.heap.size w w' := by
  have k := pairs_any v awW w h aw_fits
  rw [aw_ch, aw_prs] at k
  refine k.mono ?_
  rintro e w' ⟨v', rfl, o, hb⟩
  obtain ⟨g, c, rfl⟩ := o.one
  exact ⟨g, c, rfl, o.rd (by simp), hb⟩
theorem aw8n (w : World) : Calls Tryz.prog 8 #[.slice none 0 0] w fun e w' => ∃ v', e = .returned (.tuple #[v', .int .i64 110]) ∧ Below w.heap.size w w' := by
  have k := pairs_any (.slice none 0 0) [] w (nil_rd _).rl (fun z hz => by cases hz)
  rw [aw_ch0] at k
  exact k.mono fun e w' ⟨v', h1, _, h3⟩ => ⟨v', h1, h3⟩
theorem aw11a (v : Value) (w : World) (h : Rl w v awW) : Calls Tryz.prog 6 #[v, .int .i64 1] w fun e w' => ∃ g c, e = .returned (.tuple #[.slice (some ⟨g, 0, none⟩) 1 c, .int .i64 0]) ∧ Below w.heap.size w w' := by
  have k := owns_any v awW 1 w h aw_fits
  rw [aw_owE1, aw_owL1] at k
  refine k.mono ?_
  rintro e w' ⟨v', rfl, o, hb⟩
  obtain ⟨g, c, rfl⟩ := o.one
  exact ⟨g, c, rfl, hb⟩
theorem aw11b (v : Value) (w : World) (h : Rl w v awW) : Calls Tryz.prog 6 #[v, .int .i64 2] w fun e w' => ∃ v', e = .returned (.tuple #[v', .int .i64 1]) ∧ Below w.heap.size w w' := by
  have k := owns_any v awW 2 w h aw_fits
  rw [aw_owE2] at k
  exact k.mono fun e w' ⟨v', h1, _, h3⟩ => ⟨v', h1, h3⟩
theorem aw17 (v : Value) (w : World) (h : RdP w v [abP]) : Calls Tryz.prog 10 #[v, .string ⟨#[97]⟩] w fun e w' => e = .returned (.tuple #[.string ⟨#[98]⟩, .bool true]) ∧ Below w.heap.size w w' := by
  have k := get_any v [abP] ⟨#[97]⟩ w h
  rwa [show gvP [abP] ⟨#[97]⟩ = ⟨#[98]⟩ by kernel_rfl, show gbP [abP] ⟨#[97]⟩ = true by kernel_rfl] at k
theorem aw16 (v : Value) (w : World) (h : RdP w v [abP]) : Calls Tryz.prog 15 #[v, .string ⟨#[97]⟩] w fun e w' => ∃ a c, e = .returned (.slice a 0 c) ∧ Below w.heap.size w w' := by
  have k := without_any v [abP] ⟨#[97]⟩ w h
  have e0 : (woP [abP] ⟨#[97]⟩).length = 0 := by kernel_rfl
  refine k.mono ?_
  rintro e w' ⟨v', rfl, o, hb⟩
  obtain ⟨a, c, rfl⟩ := o.some'
  rw [e0]
  exact ⟨a, c, rfl, hb⟩
theorem aw15 (v : Value) (w : World) (h : RdP w v [abP]) : Calls Tryz.prog 13 #[v, .string ⟨#[99]⟩, .string ⟨#[100]⟩] w fun e w' => ∃ a c, e = .returned (.slice a 2 c) ∧ Below w.heap.size w w' := by
  have k := with_any v [abP] ⟨#[99]⟩ ⟨#[100]⟩ w h
  have e0 : (wiP [abP] ⟨#[99]⟩ ⟨#[100]⟩).length = 2 := by kernel_rfl
  refine k.mono ?_
  rintro e w' ⟨v', rfl, o, hb⟩
  obtain ⟨a, c, rfl⟩ := o.some'
  rw [e0]
  exact ⟨a, c, rfl, hb⟩
end Go.Proofs.YtcgclhahonndbaaGreat
namespace Go.Proofs.YtcgclhahonndbaaGreat
open Go.RowKit Go.Shelf
set_option linter.unusedVariables false

theorem eql35 (x y x' y' : ByteArray) (w : World) (h : Pa.mk x y = Pa.mk x' y') : (binOp .eql 45 (.agg #[.string x, .string y]) (.agg #[.string x', .string y'])).run Tryz.prog w = .ok (.bool true) w := by
  cases h
  have u9 := Tryz.underlying9
  have a9 := Tryz.isAgg9
  have z9 := Tryz.sizeOf9
  have hS : Tryz.prog.underlying 45 = some (.struct (Tryz.prog.fieldsOf 45)) := by kernel_rfl
  have hp : Tryz.prog.stoodInHeld 45 = false := by kernel_rfl
  rw [run_eql_struct, show (10000 : Nat) = 9999 + 1 from rfl, run_equalIn_agg w 9999 45 _ _ hS hp]
  simp only [Program.fieldsOf, Tryz.underlying45]
  go_simp
theorem own_mt {W : World} {b : Nat} (hb : b = W.heap.size) : OwnI (W.alloc (.cells #[] 3)) b (.slice (some ⟨b, 0, none⟩) 0 0) [] := by
  subst hb
  exact World.ownsRow_made (base := W.heap.size) (e := 3) (size := 1) W #[] 0 (Nat.le_refl _) (by unfold maxLen; omega) rfl
theorem step_aw {ops : Array Oper} {o : Oper} {a : Act} {W : World} {K : Act → World → Prop} {Q : Exit → Act → World → Prop} {E : Prop} (hgd : o.guard = none) (s x : Operand)
    (ho : o.op = .call { callee := .builtin .append, args := #[s, x], argTypes := #[22, 22] }) (base g c n1 n3 : Nat) (l1 l2 l3 : List Int) (h1 : l1.length = n1) (h3 : n3 = n1 + l2.length) (hl3 : l3 = l1 ++ l2) (hn : n1 ≤ 2000)
    (hs : a.eval s = .slice (some ⟨g, 0, none⟩) n1 c) (hown : OwnI W base (.slice (some ⟨g, 0, none⟩) n1 c) l1) (hb : base ≤ W.heap.size) (vx : Value) (hx : a.eval x = vx) (hR : Rd W vx l2)
    (h : ∀ g' cap w', OwnI w' base (.slice (some ⟨g', 0, none⟩) n3 cap) l3 → Below base W w' → K (a.put o.dst (.slice (some ⟨g', 0, none⟩) n3 cap)) w') :
    if Region.wanted o (yielded ops a.tmps) = true then Oper.wp Tryz.prog o a W K Q else E := by
  subst h1 h3 hl3
  have hg := (World.ownsRow.lt hown g rfl).1
  exact step_ints1 hgd s x ho base g c l1 hs hown hn vx l2 hx hR fun g' cap w' o' g2 => h g' cap w' (by
    have := o'
    unfold OwnI at this ⊢
    exact this) ((Below.refl base W).grown g2 hb (fun k hk => by cases hk; exact hg))
set_option maxRecDepth 100000 in
set_option maxHeartbeats 4000000 in
theorem awake_any (w : World) : Calls Tryz.prog 4 #[] w fun e w' => e = .returned (.bool true) ∧ Below w.heap.size w w' := by
  have t8 : Hid (0 = 0) := rfl
  have t11 : Hid (0 = 0) := rfl
  have hq : ∀ w, (binOp .eql 45 (.agg #[.string ⟨#[97]⟩, .string ⟨#[98]⟩]) (.agg #[.string ⟨#[97]⟩, .string ⟨#[98]⟩])).run Tryz.prog w = .ok (.bool true) w := fun w => eql35 _ _ _ _ w rfl
  go_enter Tryz.func4, Tryz.ntmps4
  go_wp2_with (first
    | (go_at_call 17; refine (aw18 _).mono ?_; rintro e w1 ⟨b1, o1, c1, rfl, r1, hc1, hb1⟩; have R1 : Hid (Rl w1 (.slice (some ⟨b1, o1, none⟩) 64 c1) (nwL 4)) := r1; have B1 : Hid (Below w.heap.size w w1) := hb1; have hc48 : ¬ (c1 = 48) := (by omega); clear r1 hb1)
    | (go_at_call 18; refine (aw_words _).mono ?_; rintro e w2 ⟨v2, rfl, r2, hb2⟩; have R2 : Hid (Rd w2 v2 aL) := r2; have B2 : Hid (Below w1.heap.size w1 w2) := hb2; clear r2 hb2)
    | (go_at_call 19; refine (aw20 _ _ (rd_lit [2] rfl (by simp))).mono ?_; rintro e w3 ⟨v3, rfl, r3, hb3⟩; have R3 : Hid (Rd w3 v3 (imN n2N)) := r3; have H3 : Hid (Below w2.heap.size w2 w3) := bstep ((Below.refl _ _).alloc (Nat.le_refl _) _) hb3; have B3 : Hid (Below w1.heap.size w1 w3) := bstep B2.out H3.out; clear r3 hb3))
  have hl4 : (nwL 4).length = 64 := by kernel_rfl
  have hr := (R1.out.rd (by rw [hl4]; decide)).below B3.out
  have RT : Hid (Rd w3 (.slice (some ⟨b1, o1, none⟩) 16 c1) ((nwL 4).take 16)) := hr.take 16 (by rw [hl4]; decide)
  have RD : Hid (Rd w3 (.slice (some ⟨b1, o1 + 48, none⟩) 16 (c1 - 48)) ((nwL 4).drop 48)) := hr.drop 48 (by rw [hl4]; decide)
  have B0 : Hid (Below w.heap.size w w3) := bstep B1.out B3.out
  have R23 : Hid (Rd w3 v2 aL) := R2.out.below H3.out
  have hc16 : (16 : Int) ≤ (c1 : Int) := by omega
  have hc64 : (48 : Int) ≤ (c1 : Int) := by omega
  clear hr hl4
  go_region_held3 (fun _ => True) (exact trivial)
    (first
      | (refine step_aw rfl (.tmp 35) (.tmp 37) rfl w3.heap.size w3.heap.size 0 0 16 [] ((nwL 4).take 16) ((nwL 4).take 16) rfl (by kernel_rfl) rfl (by decide) rfl (ownI_below (own_mt rfl) (Below.refl _ _).drew) (by simp) _ rfl (RT.out.below (((Below.refl _ _).alloc (Nat.le_refl _) _).drew)) ?_; intro g1 k1 x1 p1 q1; have Y1 : Hid (Below w3.heap.size w3 x1) := ((((Below.refl w3.heap.size w3).alloc (Nat.le_refl _) _).drew).trans q1); have O1 : Hid (OwnI x1 w3.heap.size (.slice (some ⟨g1, 0, none⟩) 16 k1) ((nwL 4).take 16)) := p1; clear p1 q1)
      | (refine step_aw rfl (.tmp 38) (.tmp 39) rfl w3.heap.size g1 k1 16 32 ((nwL 4).take 16) (imN n2N) ((nwL 4).take 16 ++ imN n2N) (by kernel_rfl) (by kernel_rfl) rfl (by decide) rfl O1.out Y1.out.size _ rfl (R3.out.below Y1.out) ?_; intro g2 k2 x2 p2 q2; have Y2 : Hid (Below w3.heap.size w3 x2) := Y1.out.trans q2; have O2 : Hid (OwnI x2 w3.heap.size (.slice (some ⟨g2, 0, none⟩) 32 k2) ((nwL 4).take 16 ++ imN n2N)) := p2; clear p2 q2)
      | (refine step_aw rfl (.tmp 40) (.tmp 41) rfl w3.heap.size g2 k2 32 48 ((nwL 4).take 16 ++ imN n2N) aL ((nwL 4).take 16 ++ imN n2N ++ aL) (by kernel_rfl) (by kernel_rfl) rfl (by decide) rfl O2.out Y2.out.size _ rfl (R23.out.below Y2.out) ?_; intro g3 k3 x3 p3 q3; have Y3 : Hid (Below w3.heap.size w3 x3) := Y2.out.trans q3; have O3 : Hid (OwnI x3 w3.heap.size (.slice (some ⟨g3, 0, none⟩) 48 k3) ((nwL 4).take 16 ++ imN n2N ++ aL)) := p3; clear p3 q3)
      | (refine step_aw rfl (.tmp 42) (.tmp 44) rfl w3.heap.size g3 k3 48 64 ((nwL 4).take 16 ++ imN n2N ++ aL) ((nwL 4).drop 48) awW (by kernel_rfl) (by kernel_rfl) rfl (by decide) rfl O3.out Y3.out.size _ rfl (RD.out.below Y3.out) ?_; intro g4 k4 x4 p4 q4; have Y4 : Hid (Below w3.heap.size w3 x4) := Y3.out.trans q4; have O4 : Hid (OwnI x4 w3.heap.size (.slice (some ⟨g4, 0, none⟩) 64 k4) awW) := p4; clear p4 q4))
  have RW : Hid (Rl x4 (.slice (some ⟨g4, 0, none⟩) 64 k4) awW) := (OwnI.rd O4.out (by rw [aw_len]; decide)).rl
  have B4 : Hid (Below w.heap.size w x4) := bstep B0.out Y4.out
  clear RT RD O1 O2 O3 Y1 Y2 Y3 R23 R3 R2 R1
  go_wp2_with (first
    | (clear t8; go_at_call 8; refine (aw8 _ _ RW.out).mono ?_; rintro e w7 ⟨g7, c7, rfl, r7, hb7⟩; have R7 : Hid (RdP w7 (.slice (some ⟨g7, 0, none⟩) 1 c7) [abP]) := r7; have Z7 : Hid (Below x4.heap.size x4 w7) := hb7; clear r7 hb7)
    | (clear t11; go_at_call 6; refine (aw11a _ _ (RW.out.below Z7.out)).mono ?_; rintro e w9 ⟨g9, c9, rfl, hb9⟩; have Z9 : Hid (Below w7.heap.size w7 w9) := hb9; clear hb9)
    | (go_at_call 6; refine (aw11b _ _ (RW.out.below (bstep Z7.out Z9.out))).mono ?_; rintro e w11 ⟨v11, rfl, hb11⟩; have Z11 : Hid (Below w7.heap.size w7 w11) := bstep Z9.out hb11; clear hb11)
    | (go_at_call 8; refine (aw8n _).mono ?_; rintro e w13 ⟨v13, rfl, hb13⟩; have Z13 : Hid (Below w7.heap.size w7 w13) := bstep Z11.out hb13; clear hb13)
    | (go_at_call 10; refine (aw17 _ _ (R7.out.below Z13.out)).mono ?_; rintro e w15 ⟨rfl, hb15⟩; have Z15 : Hid (Below w7.heap.size w7 w15) := bstep Z13.out hb15; have hcc : w15.cell? ⟨g7, 0, none⟩ = some (.string ⟨#[97]⟩) ∧ w15.cell? ⟨g7, 1, none⟩ = some (.string ⟨#[98]⟩) := (by obtain ⟨bb, oo, e, h1, h2⟩ := (R7.out.below Z15.out).get (k := 0) (x := abP) rfl; cases e; exact ⟨h1, h2⟩); obtain ⟨hcc1, hcc2⟩ := hcc; clear hb15)
    | (go_at_call 15; refine (aw16 _ _ (R7.out.below Z15.out)).mono ?_; rintro e w16 ⟨a16, c16, rfl, hb16⟩; have Z16 : Hid (Below w7.heap.size w7 w16) := bstep Z15.out hb16; clear hb16)
    | (go_at_call 13; refine (aw15 _ _ (R7.out.below Z16.out)).mono ?_; rintro e w17 ⟨a17, c17, rfl, hb17⟩; have Z17 : Hid (Below w7.heap.size w7 w17) := bstep Z16.out hb17; clear hb17))
  go_ret
  exact ⟨ret_bool rfl, bstep B4.out (bstep Z7.out Z17.out)⟩
end Go.Proofs.YtcgclhahonndbaaGreat
namespace Go.Proofs.YtcgclhahonndbaaGreat
open Go.RowKit Go.ChangeShapes Go.WideShapes
set_option linter.unusedVariables false

def PIn (W : World) (a : Option Addr) (n c : Nat) : Prop := ∃ l, InP W a n c l
section
variable {H : Type} {enc : TypeId × Value → H} {W : World} {base : Nat} {held : Bool}
theorem pairs_of_trod {fuel : Nat} {v : Value} {x : DataW H × List MemPlace} (h : DataW.trod enc Tryz.prog W base (fun _ => true) held fuel 23 [v] = some x) : ∃ a len cap, v = .slice a len cap ∧ PIn W a len cap := by
  rcases Go.Deep.open_slice_pairs Tryz.underlying23 Tryz.underlying45 (by kernel_rfl) rfl rfl (by kernel_rfl) (by kernel_rfl) h with ⟨hcs, _⟩ | ⟨a, len, cap, m, n, V0, V1, D0, D1, P0, P1, hcs, hb, hl, hm, hmm, _, hx⟩
  · cases hcs
    exact ⟨none, 0, 0, rfl, [], rfl, Nat.le_refl _, by unfold maxLen; omega, .inl ⟨rfl, fun _ => rfl⟩⟩
  · cases hcs
    have hm' : m = cap := by simpa using hmm
    subst hm'
    have each : ∀ i, i < m → ∃ p : Pa, W.cell? (a.add (i * 2)) = some (.string p.k) ∧ W.cell? (a.add (i * 2 + 1)) = some (.string p.v) := by
      intro i hi
      obtain ⟨g0, g1, g2, g3⟩ := hx i hi
      obtain ⟨s0, q0, _⟩ := DataW.trod_string Tryz.underlying9 (show DataW.trod enc Tryz.prog W base (fun _ => true) held n 9 [V0 i] = some (D0 i, P0 i) from g2)
      obtain ⟨s1, q1, _⟩ := DataW.trod_string Tryz.underlying9 (show DataW.trod enc Tryz.prog W base (fun _ => true) held n 9 [V1 i] = some (D1 i, P1 i) from g3)
      rw [List.cons.inj q0 |>.1] at g0
      rw [List.cons.inj q1 |>.1] at g1
      exact ⟨⟨s0, s1⟩, g0, g1⟩
    have hinh : Inhabited Pa := ⟨⟨⟨#[]⟩, ⟨#[]⟩⟩⟩
    obtain ⟨q, hq⟩ := Go.Deep.choose_lt each
    refine ⟨some a, len, m, rfl, (List.range len).map q, by simp, hl, hm, ?_⟩
    by_cases h0 : len = 0
    · exact .inl ⟨h0, fun h => by cases h⟩
    · right
      have hc0 := (hq 0 (by omega)).1
      have hs := cell_spot hc0
      have ha0 : a.add (0 * 2) = a := rfl
      rw [ha0] at hs hc0
      refine ⟨a.block, a.off, by rw [← hs], World.block_lt_of_cell? W _ hc0, ?_⟩
      intro k p hp
      have hk : k < len := by have := (List.getElem?_eq_some_iff.1 hp).1; simpa using this
      rw [List.getElem?_map, List.getElem?_range hk] at hp
      cases hp
      obtain ⟨c0, c1⟩ := hq k (by omega)
      rw [hs, Addr.add_lit] at c0 c1
      exact ⟨c0, c1⟩
end
/-- What the law's own test of its arguments tells. -/
theorem InP.short {W : World} {a : Option Addr} {n c : Nat} {l : List Pa} (h : InP W a n c l) (hs : shP l 200 = true) : l.length = n ∧ n ≤ 200 := by
  have := (shP_yes hs).1
  have := h.1
  omega
end Go.Proofs.YtcgclhahonndbaaGreat
