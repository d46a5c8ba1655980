/- Set over from a lower layer: Arr. -/
import Derived.Test.YtcgclhahonndbaaGreatNNumz
import Derived.Test.YtcgclhahonndbaaGreatArp
import Derived.Test.YtcgclhahonndbaaGreatArc
import Derived.Test.YtcgclhahonndbaaGreatAri
import Derived.Test.YtcgclhahonndbaaGreatArnum
import Derived.Test.YtcgclhahonndbaaGreatBase
import Derived.Test.YtcgclhahonndbaaGreatSSupa
import Derived.Test.YtcgclhahonndbaaGreatRRech
import Derived.Test.YtcgclhahonndbaaGreatSSumz
import Derived.Test.YtcgclhahonndbaaGreatRKeywalkc
import Derived.Test.YtcgclhahonndbaaGreatArq
namespace Go.Proofs.YtcgclhahonndbaaGreat
open Go.RowKit Go.Shelf
set_option linter.unusedVariables false
/-- What is told of a node's Low. -/
def loE (zs : List Int) (b : Int) : Int := if rnE zs b = 0 ∧ lowK zs (rnN zs b) = true then 0 else 110
def loS (zs : List Int) (b : Int) : ByteArray := if rnE zs b = 0 ∧ lowK zs (rnN zs b) = true then lowS zs (rnN zs b) else ByteArray.empty
set_option maxRecDepth 100000 in
set_option maxHeartbeats 2000000 in
theorem low1_any (g g2 : Nat) (v : Value) (zs : List Int) (b : Int) (w : World) (h : Cl w g v 22) (h2 : Cl w g2 (.int .i64 b) 3) (hR : Rl w v zs) (hF : Fits zs) : Calls Tryz.prog 118 #[.pointer (some ⟨g, 0, none⟩), .pointer (some ⟨g2, 0, none⟩)] w fun e w' =>
    ((rnE zs b = 0 ∧ lowK zs (rnN zs b) = true ∧ e = .returned (.string (lowS zs (rnN zs b)))) ∨ (¬ (rnE zs b = 0 ∧ lowK zs (rnN zs b) = true) ∧ e = .panicked [unS])) ∧ Below w.heap.size w w' := by
  obtain ⟨_, va, vc, rfl, _⟩ := hR.form
  have B0 : Hid (Below w.heap.size w w.drew) := (Below.refl _ _).drew
  have S0 : Hid (w.drew.cell? ⟨g, 0, none⟩ = some (.slice va zs.length vc) ∧ w.drew.cell? ⟨g2, 0, none⟩ = some (.int .i64 b)) := show _ ∧ _ from ⟨h.cell, h2.cell⟩
  have HC2 : Hid (Cl w.drew g2 (.int .i64 b) 3) := h2
  have HC : Hid (Cl w.drew g (.slice va zs.length vc) 22) := h
  have HR : Hid (Rl w.drew (.slice va zs.length vc) zs) := hR.below B0.out
  have hc := h.cell
  have hc2 := h2.cell
  by_cases hE : rnE zs b = 0
  · have hmay := (rn_may hE).2
    have k31 := nodeOf_ok _ zs b w.drew HR.out hE
    obtain ⟨n, hn⟩ : ∃ n, n = rnN zs b := ⟨_, rfl⟩
    rw [← hn] at k31 hmay ⊢
    have K31 : Hid (Calls Tryz.prog 91 #[.slice va zs.length vc, .int .i64 b] w.drew fun e w' => ∃ v', e = .returned (.agg #[.int .i64 n.lv, .int .i64 n.tu, .int .i64 n.nx, .int .i64 n.lo, v']) ∧ OwnI w' w.drew.heap.size v' n.sl ∧ Below w.drew.heap.size w.drew w') := k31
    have HE : Hid (rnE zs b = 0) := hE
    cases hK : lowK zs n with
    | true =>
      have K30 : Hid (∀ W u l c, Rl W (.slice va zs.length vc) zs → Calls Tryz.prog 87 #[.slice va zs.length vc, .agg #[.int .i64 n.lv, .int .i64 n.tu, .int .i64 n.nx, .int .i64 n.lo, .slice u l c]] W fun e w' => e = .returned (.string (lowS zs n)) ∧ Below W.heap.size W w') := by
        intro W u l c h1
        refine lowOf_ok _ (.slice u l c) zs n W h1 hF ⟨hmay.w0, hmay.w9⟩ ?_ _ _ _ rfl
        unfold lowK at hK
        simpa using hK
      clear h h2 hR hF hmay k31 hn hE hK hc hc2
      go_enter Tryz.func118, Tryz.ntmps118
      go_wp2
      go_region_held3 (fun W2 => W2.cell? ⟨g, 0, none⟩ = some (.slice va zs.length vc) ∧ W2.cell? ⟨g2, 0, none⟩ = some (.int .i64 b)) (first | with_reducible exact S0.out | with_reducible exact S1.out | with_reducible exact S2.out)
        (first
          | (go_at_call 91; refine K31.out.mono ?_; rintro e w1 ⟨v1, rfl, r1, hb1⟩; obtain ⟨a1, c1, rfl⟩ := r1.form; have C1 : Hid (Cl w1 g (.slice va zs.length vc) 22) := HC.out.below hb1; have C2 : Hid (Cl w1 g2 (.int .i64 b) 3) := HC2.out.below hb1; have S1 : Hid (w1.cell? ⟨g, 0, none⟩ = some (.slice va zs.length vc) ∧ w1.cell? ⟨g2, 0, none⟩ = some (.int .i64 b)) := (show _ ∧ _ from ⟨C1.out.cell, C2.out.cell⟩); have B1 : Hid (Below w.heap.size w w1) := bstep B0.out hb1; have R1 : Hid (Rl w1 (.slice va zs.length vc) zs) := HR.out.below hb1; clear r1 hb1)
          | (go_at_call 87; refine (K30.out _ _ _ _ R1.out).mono ?_; rintro e w2 ⟨rfl, hb2⟩; have S2 : Hid (w2.cell? ⟨g, 0, none⟩ = some (.slice va zs.length vc) ∧ w2.cell? ⟨g2, 0, none⟩ = some (.int .i64 b)) := (show _ ∧ _ from ⟨(C1.out.below hb2).cell, (C2.out.below hb2).cell⟩); have B2 : Hid (Below w.heap.size w w2) := bstep B1.out hb2; clear hb2))
      all_goals go_wp2
      all_goals exact bodyPost_ret (results_tmp rfl _ _ _) rfl ⟨.inl ⟨HE.out, by trivial, rfl⟩, B2.out⟩
    | false =>
      have hK2 : n.lo ≠ 0 ∧ RrdE zs n.lo ≠ 0 := by
        unfold lowK at hK
        simpa using hK
      have K30 : Hid (∀ W u l c, Rl W (.slice va zs.length vc) zs → Calls Tryz.prog 87 #[.slice va zs.length vc, .agg #[.int .i64 n.lv, .int .i64 n.tu, .int .i64 n.nx, .int .i64 n.lo, .slice u l c]] W fun e w' => e = .panicked [unS] ∧ Below W.heap.size W w') := fun W u l c h1 => lowOf_bad _ (.slice u l c) zs n W h1 hF ⟨hmay.w0, hmay.w9⟩ hK2.1 hK2.2 _ _ _ rfl
      have c1 := S0.out.1
      have c2 := S0.out.2
      clear h h2 hR hF hmay k31 hn hE hK hc hc2 hK2
      go_enter Tryz.func118, Tryz.ntmps118
      go_wp2
      refine wp_region_any (by kernel_rfl) ?_
      change wpAny _ _ _ _ _ _ _ (World.drew _)
      refine wpAny_ready (rs := [0, 1, 2]) (by kernel_rfl) (by simp) ?_
      refine AllReady.cons rfl (fun K hK => ?_) ?_
      · go_simp
        refine hK _ _ ?_
        clear hK K
        refine wpAny_ready (rs := [1, 2]) (by kernel_rfl) (by simp) ?_
        refine AllReady.cons rfl (fun K hK => ?_) ?_
        · go_simp
          refine hK _ _ ?_
          clear hK K
          refine wpAny_ready (rs := [2]) (by kernel_rfl) (by simp) ?_
          refine AllReady.cons rfl (fun K hK => ?_) ?_
          · go_simp
            refine hK _ _ ?_
            clear hK K
            refine wpAny_ready (rs := [3]) (by kernel_rfl) (by simp) ?_
            refine AllReady.cons rfl (fun K hK => ?_) ?_
            · go_simp
              go_wp2_with ((go_at_call 91; refine K31.out.mono ?_; rintro e w1 ⟨v1, rfl, r1, hb1⟩; obtain ⟨a1, c1, rfl⟩ := r1.form; have C1 : Hid (Cl w1 g (.slice va zs.length vc) 22) := HC.out.below hb1; have C2 : Hid (Cl w1 g2 (.int .i64 b) 3) := HC2.out.below hb1; have S1 : Hid (w1.cell? ⟨g, 0, none⟩ = some (.slice va zs.length vc) ∧ w1.cell? ⟨g2, 0, none⟩ = some (.int .i64 b)) := (show _ ∧ _ from ⟨C1.out.cell, C2.out.cell⟩); have B1 : Hid (Below w.heap.size w w1) := bstep B0.out hb1; have R1 : Hid (Rl w1 (.slice va zs.length vc) zs) := HR.out.below hb1; clear r1 hb1; have c1' := S1.out.1; have c2' := S1.out.2))
              refine wpAny_ready (rs := [4]) (by kernel_rfl) (by simp) ?_
              refine AllReady.cons rfl (fun K hK => ?_) ?_
              · go_simp
                go_wp2_with ((go_at_call 87; refine (K30.out _ _ _ _ R1.out).mono ?_; rintro e w2 ⟨rfl, hb2⟩; exact ⟨rfl, .inr ⟨by simp, rfl⟩, bstep B1.out hb2⟩))
              exact AllReady.nil
            exact AllReady.nil
          exact AllReady.nil
        refine AllReady.cons rfl (fun K hK => ?_) ?_
        · go_simp
          refine hK _ _ ?_
          clear hK K
          refine wpAny_ready (rs := [1]) (by kernel_rfl) (by simp) ?_
          refine AllReady.cons rfl (fun K hK => ?_) ?_
          · go_simp
            refine hK _ _ ?_
            clear hK K
            refine wpAny_ready (rs := [3]) (by kernel_rfl) (by simp) ?_
            refine AllReady.cons rfl (fun K hK => ?_) ?_
            · go_simp
              go_wp2_with ((go_at_call 91; refine K31.out.mono ?_; rintro e w1 ⟨v1, rfl, r1, hb1⟩; obtain ⟨a1, c1, rfl⟩ := r1.form; have C1 : Hid (Cl w1 g (.slice va zs.length vc) 22) := HC.out.below hb1; have C2 : Hid (Cl w1 g2 (.int .i64 b) 3) := HC2.out.below hb1; have S1 : Hid (w1.cell? ⟨g, 0, none⟩ = some (.slice va zs.length vc) ∧ w1.cell? ⟨g2, 0, none⟩ = some (.int .i64 b)) := (show _ ∧ _ from ⟨C1.out.cell, C2.out.cell⟩); have B1 : Hid (Below w.heap.size w w1) := bstep B0.out hb1; have R1 : Hid (Rl w1 (.slice va zs.length vc) zs) := HR.out.below hb1; clear r1 hb1; have c1' := S1.out.1; have c2' := S1.out.2))
              refine wpAny_ready (rs := [4]) (by kernel_rfl) (by simp) ?_
              refine AllReady.cons rfl (fun K hK => ?_) ?_
              · go_simp
                go_wp2_with ((go_at_call 87; refine (K30.out _ _ _ _ R1.out).mono ?_; rintro e w2 ⟨rfl, hb2⟩; exact ⟨rfl, .inr ⟨by simp, rfl⟩, bstep B1.out hb2⟩))
              exact AllReady.nil
            exact AllReady.nil
          exact AllReady.nil
        exact AllReady.nil
      refine AllReady.cons rfl (fun K hK => ?_) ?_
      · go_simp
        refine hK _ _ ?_
        clear hK K
        refine wpAny_ready (rs := [0, 2]) (by kernel_rfl) (by simp) ?_
        refine AllReady.cons rfl (fun K hK => ?_) ?_
        · go_simp
          refine hK _ _ ?_
          clear hK K
          refine wpAny_ready (rs := [2]) (by kernel_rfl) (by simp) ?_
          refine AllReady.cons rfl (fun K hK => ?_) ?_
          · go_simp
            refine hK _ _ ?_
            clear hK K
            refine wpAny_ready (rs := [3]) (by kernel_rfl) (by simp) ?_
            refine AllReady.cons rfl (fun K hK => ?_) ?_
            · go_simp
              go_wp2_with ((go_at_call 91; refine K31.out.mono ?_; rintro e w1 ⟨v1, rfl, r1, hb1⟩; obtain ⟨a1, c1, rfl⟩ := r1.form; have C1 : Hid (Cl w1 g (.slice va zs.length vc) 22) := HC.out.below hb1; have C2 : Hid (Cl w1 g2 (.int .i64 b) 3) := HC2.out.below hb1; have S1 : Hid (w1.cell? ⟨g, 0, none⟩ = some (.slice va zs.length vc) ∧ w1.cell? ⟨g2, 0, none⟩ = some (.int .i64 b)) := (show _ ∧ _ from ⟨C1.out.cell, C2.out.cell⟩); have B1 : Hid (Below w.heap.size w w1) := bstep B0.out hb1; have R1 : Hid (Rl w1 (.slice va zs.length vc) zs) := HR.out.below hb1; clear r1 hb1; have c1' := S1.out.1; have c2' := S1.out.2))
              refine wpAny_ready (rs := [4]) (by kernel_rfl) (by simp) ?_
              refine AllReady.cons rfl (fun K hK => ?_) ?_
              · go_simp
                go_wp2_with ((go_at_call 87; refine (K30.out _ _ _ _ R1.out).mono ?_; rintro e w2 ⟨rfl, hb2⟩; exact ⟨rfl, .inr ⟨by simp, rfl⟩, bstep B1.out hb2⟩))
              exact AllReady.nil
            exact AllReady.nil
          exact AllReady.nil
        refine AllReady.cons rfl (fun K hK => ?_) ?_
        · go_simp
          refine hK _ _ ?_
          clear hK K
          refine wpAny_ready (rs := [0, 3]) (by kernel_rfl) (by simp) ?_
          refine AllReady.cons rfl (fun K hK => ?_) ?_
          · go_simp
            refine hK _ _ ?_
            clear hK K
            refine wpAny_ready (rs := [3]) (by kernel_rfl) (by simp) ?_
            refine AllReady.cons rfl (fun K hK => ?_) ?_
            · go_simp
              go_wp2_with ((go_at_call 91; refine K31.out.mono ?_; rintro e w1 ⟨v1, rfl, r1, hb1⟩; obtain ⟨a1, c1, rfl⟩ := r1.form; have C1 : Hid (Cl w1 g (.slice va zs.length vc) 22) := HC.out.below hb1; have C2 : Hid (Cl w1 g2 (.int .i64 b) 3) := HC2.out.below hb1; have S1 : Hid (w1.cell? ⟨g, 0, none⟩ = some (.slice va zs.length vc) ∧ w1.cell? ⟨g2, 0, none⟩ = some (.int .i64 b)) := (show _ ∧ _ from ⟨C1.out.cell, C2.out.cell⟩); have B1 : Hid (Below w.heap.size w w1) := bstep B0.out hb1; have R1 : Hid (Rl w1 (.slice va zs.length vc) zs) := HR.out.below hb1; clear r1 hb1; have c1' := S1.out.1; have c2' := S1.out.2))
              refine wpAny_ready (rs := [4]) (by kernel_rfl) (by simp) ?_
              refine AllReady.cons rfl (fun K hK => ?_) ?_
              · go_simp
                go_wp2_with ((go_at_call 87; refine (K30.out _ _ _ _ R1.out).mono ?_; rintro e w2 ⟨rfl, hb2⟩; exact ⟨rfl, .inr ⟨by simp, rfl⟩, bstep B1.out hb2⟩))
              exact AllReady.nil
            exact AllReady.nil
          refine AllReady.cons rfl (fun K hK => ?_) ?_
          · go_simp
            go_wp2_with ((go_at_call 91; refine K31.out.mono ?_; rintro e w1 ⟨v1, rfl, r1, hb1⟩; obtain ⟨a1, c1, rfl⟩ := r1.form; have C1 : Hid (Cl w1 g (.slice va zs.length vc) 22) := HC.out.below hb1; have C2 : Hid (Cl w1 g2 (.int .i64 b) 3) := HC2.out.below hb1; have S1 : Hid (w1.cell? ⟨g, 0, none⟩ = some (.slice va zs.length vc) ∧ w1.cell? ⟨g2, 0, none⟩ = some (.int .i64 b)) := (show _ ∧ _ from ⟨C1.out.cell, C2.out.cell⟩); have B1 : Hid (Below w.heap.size w w1) := bstep B0.out hb1; have R1 : Hid (Rl w1 (.slice va zs.length vc) zs) := HR.out.below hb1; clear r1 hb1; have c1' := S1.out.1; have c2' := S1.out.2))
            refine wpAny_ready (rs := [0]) (by kernel_rfl) (by simp) ?_
            refine AllReady.cons rfl (fun K hK => ?_) ?_
            · go_simp
              refine hK _ _ ?_
              clear hK K
              refine wpAny_ready (rs := [4]) (by kernel_rfl) (by simp) ?_
              refine AllReady.cons rfl (fun K hK => ?_) ?_
              · go_simp
                go_wp2_with ((go_at_call 87; refine (K30.out _ _ _ _ R1.out).mono ?_; rintro e w2 ⟨rfl, hb2⟩; exact ⟨rfl, .inr ⟨by simp, rfl⟩, bstep B1.out hb2⟩))
              exact AllReady.nil
            exact AllReady.nil
          exact AllReady.nil
        exact AllReady.nil
      refine AllReady.cons rfl (fun K hK => ?_) ?_
      · go_simp
        refine hK _ _ ?_
        clear hK K
        refine wpAny_ready (rs := [0, 1]) (by kernel_rfl) (by simp) ?_
        refine AllReady.cons rfl (fun K hK => ?_) ?_
        · go_simp
          refine hK _ _ ?_
          clear hK K
          refine wpAny_ready (rs := [1]) (by kernel_rfl) (by simp) ?_
          refine AllReady.cons rfl (fun K hK => ?_) ?_
          · go_simp
            refine hK _ _ ?_
            clear hK K
            refine wpAny_ready (rs := [3]) (by kernel_rfl) (by simp) ?_
            refine AllReady.cons rfl (fun K hK => ?_) ?_
            · go_simp
              go_wp2_with ((go_at_call 91; refine K31.out.mono ?_; rintro e w1 ⟨v1, rfl, r1, hb1⟩; obtain ⟨a1, c1, rfl⟩ := r1.form; have C1 : Hid (Cl w1 g (.slice va zs.length vc) 22) := HC.out.below hb1; have C2 : Hid (Cl w1 g2 (.int .i64 b) 3) := HC2.out.below hb1; have S1 : Hid (w1.cell? ⟨g, 0, none⟩ = some (.slice va zs.length vc) ∧ w1.cell? ⟨g2, 0, none⟩ = some (.int .i64 b)) := (show _ ∧ _ from ⟨C1.out.cell, C2.out.cell⟩); have B1 : Hid (Below w.heap.size w w1) := bstep B0.out hb1; have R1 : Hid (Rl w1 (.slice va zs.length vc) zs) := HR.out.below hb1; clear r1 hb1; have c1' := S1.out.1; have c2' := S1.out.2))
              refine wpAny_ready (rs := [4]) (by kernel_rfl) (by simp) ?_
              refine AllReady.cons rfl (fun K hK => ?_) ?_
              · go_simp
                go_wp2_with ((go_at_call 87; refine (K30.out _ _ _ _ R1.out).mono ?_; rintro e w2 ⟨rfl, hb2⟩; exact ⟨rfl, .inr ⟨by simp, rfl⟩, bstep B1.out hb2⟩))
              exact AllReady.nil
            exact AllReady.nil
          exact AllReady.nil
        refine AllReady.cons rfl (fun K hK => ?_) ?_
        · go_simp
          refine hK _ _ ?_
          clear hK K
          refine wpAny_ready (rs := [0, 3]) (by kernel_rfl) (by simp) ?_
          refine AllReady.cons rfl (fun K hK => ?_) ?_
          · go_simp
            refine hK _ _ ?_
            clear hK K
            refine wpAny_ready (rs := [3]) (by kernel_rfl) (by simp) ?_
            refine AllReady.cons rfl (fun K hK => ?_) ?_
            · go_simp
              go_wp2_with ((go_at_call 91; refine K31.out.mono ?_; rintro e w1 ⟨v1, rfl, r1, hb1⟩; obtain ⟨a1, c1, rfl⟩ := r1.form; have C1 : Hid (Cl w1 g (.slice va zs.length vc) 22) := HC.out.below hb1; have C2 : Hid (Cl w1 g2 (.int .i64 b) 3) := HC2.out.below hb1; have S1 : Hid (w1.cell? ⟨g, 0, none⟩ = some (.slice va zs.length vc) ∧ w1.cell? ⟨g2, 0, none⟩ = some (.int .i64 b)) := (show _ ∧ _ from ⟨C1.out.cell, C2.out.cell⟩); have B1 : Hid (Below w.heap.size w w1) := bstep B0.out hb1; have R1 : Hid (Rl w1 (.slice va zs.length vc) zs) := HR.out.below hb1; clear r1 hb1; have c1' := S1.out.1; have c2' := S1.out.2))
              refine wpAny_ready (rs := [4]) (by kernel_rfl) (by simp) ?_
              refine AllReady.cons rfl (fun K hK => ?_) ?_
              · go_simp
                go_wp2_with ((go_at_call 87; refine (K30.out _ _ _ _ R1.out).mono ?_; rintro e w2 ⟨rfl, hb2⟩; exact ⟨rfl, .inr ⟨by simp, rfl⟩, bstep B1.out hb2⟩))
              exact AllReady.nil
            exact AllReady.nil
          refine AllReady.cons rfl (fun K hK => ?_) ?_
          · go_simp
            go_wp2_with ((go_at_call 91; refine K31.out.mono ?_; rintro e w1 ⟨v1, rfl, r1, hb1⟩; obtain ⟨a1, c1, rfl⟩ := r1.form; have C1 : Hid (Cl w1 g (.slice va zs.length vc) 22) := HC.out.below hb1; have C2 : Hid (Cl w1 g2 (.int .i64 b) 3) := HC2.out.below hb1; have S1 : Hid (w1.cell? ⟨g, 0, none⟩ = some (.slice va zs.length vc) ∧ w1.cell? ⟨g2, 0, none⟩ = some (.int .i64 b)) := (show _ ∧ _ from ⟨C1.out.cell, C2.out.cell⟩); have B1 : Hid (Below w.heap.size w w1) := bstep B0.out hb1; have R1 : Hid (Rl w1 (.slice va zs.length vc) zs) := HR.out.below hb1; clear r1 hb1; have c1' := S1.out.1; have c2' := S1.out.2))
            refine wpAny_ready (rs := [0]) (by kernel_rfl) (by simp) ?_
            refine AllReady.cons rfl (fun K hK => ?_) ?_
            · go_simp
              refine hK _ _ ?_
              clear hK K
              refine wpAny_ready (rs := [4]) (by kernel_rfl) (by simp) ?_
              refine AllReady.cons rfl (fun K hK => ?_) ?_
              · go_simp
                go_wp2_with ((go_at_call 87; refine (K30.out _ _ _ _ R1.out).mono ?_; rintro e w2 ⟨rfl, hb2⟩; exact ⟨rfl, .inr ⟨by simp, rfl⟩, bstep B1.out hb2⟩))
              exact AllReady.nil
            exact AllReady.nil
          exact AllReady.nil
        exact AllReady.nil
      exact AllReady.nil
  · have K31 : Hid (Calls Tryz.prog 91 #[.slice va zs.length vc, .int .i64 b] w.drew fun e w' => e = .panicked [unS] ∧ Below w.drew.heap.size w.drew w') := nodeOf_bad _ zs b w.drew HR.out hE
    have HE : Hid (¬ rnE zs b = 0) := hE
    have c1 := S0.out.1
    have c2 := S0.out.2
    clear h h2 hR hF hE hc hc2
    go_enter Tryz.func118, Tryz.ntmps118
    go_wp2
    refine wp_region_any (by kernel_rfl) ?_
    change wpAny _ _ _ _ _ _ _ (World.drew _)
    refine wpAny_ready (rs := [0, 1, 2]) (by kernel_rfl) (by simp) ?_
    refine AllReady.cons rfl (fun K hK => ?_) ?_
    · go_simp
      refine hK _ _ ?_
      clear hK K
      refine wpAny_ready (rs := [1, 2]) (by kernel_rfl) (by simp) ?_
      refine AllReady.cons rfl (fun K hK => ?_) ?_
      · go_simp
        refine hK _ _ ?_
        clear hK K
        refine wpAny_ready (rs := [2]) (by kernel_rfl) (by simp) ?_
        refine AllReady.cons rfl (fun K hK => ?_) ?_
        · go_simp
          refine hK _ _ ?_
          clear hK K
          refine wpAny_ready (rs := [3]) (by kernel_rfl) (by simp) ?_
          refine AllReady.cons rfl (fun K hK => ?_) ?_
          · go_simp
            go_wp2_with ((go_at_call 91; refine K31.out.mono ?_; rintro e w1 ⟨rfl, hb1⟩; exact ⟨rfl, .inr ⟨fun h => HE.out h.1, rfl⟩, bstep B0.out hb1⟩))
          exact AllReady.nil
        exact AllReady.nil
      refine AllReady.cons rfl (fun K hK => ?_) ?_
      · go_simp
        refine hK _ _ ?_
        clear hK K
        refine wpAny_ready (rs := [1]) (by kernel_rfl) (by simp) ?_
        refine AllReady.cons rfl (fun K hK => ?_) ?_
        · go_simp
          refine hK _ _ ?_
          clear hK K
          refine wpAny_ready (rs := [3]) (by kernel_rfl) (by simp) ?_
          refine AllReady.cons rfl (fun K hK => ?_) ?_
          · go_simp
            go_wp2_with ((go_at_call 91; refine K31.out.mono ?_; rintro e w1 ⟨rfl, hb1⟩; exact ⟨rfl, .inr ⟨fun h => HE.out h.1, rfl⟩, bstep B0.out hb1⟩))
          exact AllReady.nil
        exact AllReady.nil
      exact AllReady.nil
    refine AllReady.cons rfl (fun K hK => ?_) ?_
    · go_simp
      refine hK _ _ ?_
      clear hK K
      refine wpAny_ready (rs := [0, 2]) (by kernel_rfl) (by simp) ?_
      refine AllReady.cons rfl (fun K hK => ?_) ?_
      · go_simp
        refine hK _ _ ?_
        clear hK K
        refine wpAny_ready (rs := [2]) (by kernel_rfl) (by simp) ?_
        refine AllReady.cons rfl (fun K hK => ?_) ?_
        · go_simp
          refine hK _ _ ?_
          clear hK K
          refine wpAny_ready (rs := [3]) (by kernel_rfl) (by simp) ?_
          refine AllReady.cons rfl (fun K hK => ?_) ?_
          · go_simp
            go_wp2_with ((go_at_call 91; refine K31.out.mono ?_; rintro e w1 ⟨rfl, hb1⟩; exact ⟨rfl, .inr ⟨fun h => HE.out h.1, rfl⟩, bstep B0.out hb1⟩))
          exact AllReady.nil
        exact AllReady.nil
      refine AllReady.cons rfl (fun K hK => ?_) ?_
      · go_simp
        refine hK _ _ ?_
        clear hK K
        refine wpAny_ready (rs := [0, 3]) (by kernel_rfl) (by simp) ?_
        refine AllReady.cons rfl (fun K hK => ?_) ?_
        · go_simp
          refine hK _ _ ?_
          clear hK K
          refine wpAny_ready (rs := [3]) (by kernel_rfl) (by simp) ?_
          refine AllReady.cons rfl (fun K hK => ?_) ?_
          · go_simp
            go_wp2_with ((go_at_call 91; refine K31.out.mono ?_; rintro e w1 ⟨rfl, hb1⟩; exact ⟨rfl, .inr ⟨fun h => HE.out h.1, rfl⟩, bstep B0.out hb1⟩))
          exact AllReady.nil
        refine AllReady.cons rfl (fun K hK => ?_) ?_
        · go_simp
          go_wp2_with ((go_at_call 91; refine K31.out.mono ?_; rintro e w1 ⟨rfl, hb1⟩; exact ⟨rfl, .inr ⟨fun h => HE.out h.1, rfl⟩, bstep B0.out hb1⟩))
        exact AllReady.nil
      exact AllReady.nil
    refine AllReady.cons rfl (fun K hK => ?_) ?_
    · go_simp
      refine hK _ _ ?_
      clear hK K
      refine wpAny_ready (rs := [0, 1]) (by kernel_rfl) (by simp) ?_
      refine AllReady.cons rfl (fun K hK => ?_) ?_
      · go_simp
        refine hK _ _ ?_
        clear hK K
        refine wpAny_ready (rs := [1]) (by kernel_rfl) (by simp) ?_
        refine AllReady.cons rfl (fun K hK => ?_) ?_
        · go_simp
          refine hK _ _ ?_
          clear hK K
          refine wpAny_ready (rs := [3]) (by kernel_rfl) (by simp) ?_
          refine AllReady.cons rfl (fun K hK => ?_) ?_
          · go_simp
            go_wp2_with ((go_at_call 91; refine K31.out.mono ?_; rintro e w1 ⟨rfl, hb1⟩; exact ⟨rfl, .inr ⟨fun h => HE.out h.1, rfl⟩, bstep B0.out hb1⟩))
          exact AllReady.nil
        exact AllReady.nil
      refine AllReady.cons rfl (fun K hK => ?_) ?_
      · go_simp
        refine hK _ _ ?_
        clear hK K
        refine wpAny_ready (rs := [0, 3]) (by kernel_rfl) (by simp) ?_
        refine AllReady.cons rfl (fun K hK => ?_) ?_
        · go_simp
          refine hK _ _ ?_
          clear hK K
          refine wpAny_ready (rs := [3]) (by kernel_rfl) (by simp) ?_
          refine AllReady.cons rfl (fun K hK => ?_) ?_
          · go_simp
            go_wp2_with ((go_at_call 91; refine K31.out.mono ?_; rintro e w1 ⟨rfl, hb1⟩; exact ⟨rfl, .inr ⟨fun h => HE.out h.1, rfl⟩, bstep B0.out hb1⟩))
          exact AllReady.nil
        refine AllReady.cons rfl (fun K hK => ?_) ?_
        · go_simp
          go_wp2_with ((go_at_call 91; refine K31.out.mono ?_; rintro e w1 ⟨rfl, hb1⟩; exact ⟨rfl, .inr ⟨fun h => HE.out h.1, rfl⟩, bstep B0.out hb1⟩))
        exact AllReady.nil
      exact AllReady.nil
    exact AllReady.nil
theorem low_any (v : Value) (zs : List Int) (b : Int) (w : World) (hR : Rl w v zs) (hF : Fits zs) : Calls Tryz.prog 97 #[v, .int .i64 b] w fun e w' => e = .returned (.tuple #[.string (loS zs b), .int .i64 (loE zs b)]) ∧ Below w.heap.size w w' := by
  obtain ⟨_, va, vc, rfl, _⟩ := hR.form
  have e0 : (w.alloc (.cells #[.slice va zs.length vc] 22)).heap.size = w.heap.size + 1 := by simp
  have B0 : Below w.heap.size w ((w.alloc (.cells #[.slice va zs.length vc] 22)).alloc (.cells #[.int .i64 b] 3)) := bstep (below_new w _) (below_new _ _)
  have C0 : Cl ((w.alloc (.cells #[.slice va zs.length vc] 22)).alloc (.cells #[.int .i64 b] 3)) w.heap.size (.slice va zs.length vc) 22 := (cl_new w (.slice va zs.length vc) 22).below (below_new _ _)
  have D0 : Cl ((w.alloc (.cells #[.slice va zs.length vc] 22)).alloc (.cells #[.int .i64 b] 3)) (w.heap.size + 1) (.int .i64 b) 3 := by have := cl_new (w.alloc (.cells #[.slice va zs.length vc] 22)) (.int .i64 b) 3; rwa [e0] at this
  have B1 := below_new ((w.alloc (.cells #[.slice va zs.length vc] 22)).alloc (.cells #[.int .i64 b] 3)) (.cells #[.int .i64 0] 26)
  have e1 : (((w.alloc (.cells #[.slice va zs.length vc] 22)).alloc (.cells #[.int .i64 b] 3)).alloc (.cells #[.int .i64 0] 26)).heap.size = ((w.alloc (.cells #[.slice va zs.length vc] 22)).alloc (.cells #[.int .i64 b] 3)).heap.size + 1 := by simp
  have h29 := low1_any w.heap.size (w.heap.size + 1) (.slice va zs.length vc) zs b _ (C0.below B1) (D0.below B1) ((hR.below B0).below B1) hF
  rw [e1] at h29
  have hmf : ∀ (fn : Fn) (first cap : Array Value) (w : World), (Instr.makeFunc fn first cap).run Tryz.prog w = .ok (.func fn first cap) w := fun _ _ _ _ => rfl
  have B0 : Hid (Below w.heap.size w ((w.alloc (.cells #[.slice va zs.length vc] 22)).alloc (.cells #[.int .i64 b] 3))) := B0
  by_cases hs : rnE zs b = 0 ∧ lowK zs (rnN zs b) = true
  · have hE : loE zs b = 0 := by unfold loE; rw [if_pos hs]
    have hS : loS zs b = lowS zs (rnN zs b) := by unfold loS; rw [if_pos hs]
    have K28 := told28_ok 118 (.pointer (some ⟨w.heap.size, 0, none⟩)) (.pointer (some ⟨w.heap.size + 1, 0, none⟩)) (fun u _ => u = .string (lowS zs (rnN zs b))) ((w.alloc (.cells #[.slice va zs.length vc] 22)).alloc (.cells #[.int .i64 b] 3)) (enters_of Tryz.func118 rfl rfl) (h29.mono (by
      rintro e w' ⟨⟨_, _, he⟩ | ⟨h, _⟩, hb⟩
      · exact ⟨_, he, rfl, hb⟩
      · exact absurd hs h))
    rw [hE, hS]
    have K28 : Hid (Calls Tryz.prog 117 #[.func (.func 118) #[] #[.pointer (some ⟨w.heap.size, 0, none⟩), .pointer (some ⟨w.heap.size + 1, 0, none⟩)]] ((w.alloc (.cells #[.slice va zs.length vc] 22)).alloc (.cells #[.int .i64 b] 3)) fun e w' => e = .returned (.tuple #[.string (lowS zs (rnN zs b)), .int .i64 0]) ∧ Below ((w.alloc (.cells #[.slice va zs.length vc] 22)).alloc (.cells #[.int .i64 b] 3)).heap.size ((w.alloc (.cells #[.slice va zs.length vc] 22)).alloc (.cells #[.int .i64 b] 3)) w') := by
      refine K28.mono ?_
      rintro e w' ⟨u, w1, rfl, rfl, h1, h2, h3⟩
      exact ⟨rfl, h3⟩
    generalize lowS zs (rnN zs b) = s at *
    clear hR B1 e0 e1 h29 hs hE hS C0 D0 hF
    go_enter Tryz.func97, Tryz.ntmps97
    go_wp2_with (first
      | (go_at_call 117; refine K28.out.mono ?_; rintro e w1 ⟨rfl, hb1⟩))
    exact bodyPost_ret (results_tmp2 rfl _ _ _) rfl ⟨rfl, bstep B0.out hb1⟩
  · have hE : loE zs b = 110 := by unfold loE; rw [if_neg hs]
    have hS : loS zs b = ByteArray.empty := by unfold loS; rw [if_neg hs]
    have K28 := told28_bad 118 (.pointer (some ⟨w.heap.size, 0, none⟩)) (.pointer (some ⟨w.heap.size + 1, 0, none⟩)) ((w.alloc (.cells #[.slice va zs.length vc] 22)).alloc (.cells #[.int .i64 b] 3)) (enters_of Tryz.func118 rfl rfl) (h29.mono (by
      rintro e w' ⟨⟨h1, h2, _⟩ | ⟨_, h⟩, hb⟩
      · exact absurd ⟨h1, h2⟩ hs
      · exact ⟨h, hb⟩))
    rw [hE, hS]
    have K28 : Hid (Calls Tryz.prog 117 #[.func (.func 118) #[] #[.pointer (some ⟨w.heap.size, 0, none⟩), .pointer (some ⟨w.heap.size + 1, 0, none⟩)]] ((w.alloc (.cells #[.slice va zs.length vc] 22)).alloc (.cells #[.int .i64 b] 3)) fun e w' => e = .returned (.tuple #[.string ByteArray.empty, .int .i64 110]) ∧ Below ((w.alloc (.cells #[.slice va zs.length vc] 22)).alloc (.cells #[.int .i64 b] 3)).heap.size ((w.alloc (.cells #[.slice va zs.length vc] 22)).alloc (.cells #[.int .i64 b] 3)) w') := K28
    clear hR B1 e0 e1 h29 hs hE hS C0 D0 hF
    go_enter Tryz.func97, Tryz.ntmps97
    go_wp2_with (first
      | (go_at_call 117; refine K28.out.mono ?_; rintro e w1 ⟨rfl, hb1⟩))
    exact bodyPost_ret (results_tmp2 rfl _ _ _) rfl ⟨rfl, bstep B0.out hb1⟩
end Go.Proofs.YtcgclhahonndbaaGreat
