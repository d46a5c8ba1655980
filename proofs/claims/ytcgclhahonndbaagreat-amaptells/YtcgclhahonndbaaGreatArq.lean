/- Set over from a lower layer: Arq. -/
import Derived.Test.YtcgclhahonndbaaGreatNNumz
import Derived.Test.YtcgclhahonndbaaGreatArp
import Derived.Test.YtcgclhahonndbaaGreatArf
import Derived.Test.YtcgclhahonndbaaGreatAri
import Derived.Test.YtcgclhahonndbaaGreatArnum
import Derived.Test.YtcgclhahonndbaaGreatAro
import Derived.Test.YtcgclhahonndbaaGreatBase
import Derived.Test.YtcgclhahonndbaaGreatRKeywalka
import Derived.Test.YtcgclhahonndbaaGreatSSumz
namespace Go.Proofs.YtcgclhahonndbaaGreat
open Go.RowKit Go.Shelf
set_option linter.unusedVariables false
set_option maxRecDepth 100000 in
set_option maxHeartbeats 1000000 in
theorem check1_any (g : Nat) (v : Value) (zs : List Int) (w : World) (h : Cl w g v 22) (hR : Rl w v zs) (hF : Fits zs) : Calls Tryz.prog 64 #[.pointer (some ⟨g, 0, none⟩)] w fun e w' =>
    ((sndB zs = true ∧ ∃ v', e = .returned v') ∨ (sndB zs = false ∧ e = .panicked [unS])) ∧ Below w.heap.size w w' := by
  have hc := h.cell
  obtain ⟨_, va, vc, rfl, _⟩ := hR.form
  cases hs : sndB zs with
  | false =>
    have K27 : Hid (Calls Tryz.prog 65 #[.slice va zs.length vc] w fun e w' => e = .panicked [unS] ∧ Below w.heap.size w w') := soundLeaves_bad _ zs w hR hF hs
    clear hs hR hF h
    go_enter Tryz.func64, Tryz.ntmps64
    go_wp2_with (first
      | (go_at_call 65; refine K27.out.mono ?_; rintro e w1 ⟨rfl, hb1⟩))
    exact ⟨rfl, .inr ⟨by trivial, rfl⟩, hb1⟩
  | true =>
    obtain ⟨L, hL⟩ := snd_leaves hs
    have K27 : Hid (Calls Tryz.prog 65 #[.slice va zs.length vc] w fun e w' => ∃ v' P, L = P.map Prod.fst ∧ e = .returned v' ∧ Lv zs w' w.heap.size v' P ∧ Below w.heap.size w w') := soundLeaves_ok _ zs w hR hF hs hL
    clear hs hR hF h hL
    go_enter Tryz.func64, Tryz.ntmps64
    go_wp2_with (first
      | (go_at_call 65; refine K27.out.mono ?_; rintro e w1 ⟨v1, P, hP, rfl, lv1, hb1⟩; obtain ⟨ga, gc, rfl⟩ := lv1.form; clear lv1))
    exact bodyPost_ret (results_tmp rfl _ _ _) rfl ⟨.inl ⟨by trivial, _, rfl⟩, hb1⟩
theorem check_any (v : Value) (zs : List Int) (w : World) (hR : Rl w v zs) (hF : Fits zs) : Calls Tryz.prog 40 #[v] w fun e w' => e = .returned (.int .i64 (chE zs)) ∧ Below w.heap.size w w' := by
  obtain ⟨_, va, vc, rfl, _⟩ := hR.form
  have B0 : Below w.heap.size w (w.alloc (.cells #[.slice va zs.length vc] 22)) := below_new w _
  have B1 := below_new (w.alloc (.cells #[.slice va zs.length vc] 22)) (.cells #[.int .i64 0] 26)
  have e1 : ((w.alloc (.cells #[.slice va zs.length vc] 22)).alloc (.cells #[.int .i64 0] 26)).heap.size = (w.alloc (.cells #[.slice va zs.length vc] 22)).heap.size + 1 := by simp
  have h26 := check1_any w.heap.size (.slice va zs.length vc) zs _ ((cl_new w (.slice va zs.length vc) 22).below B1) ((hR.below B0).below B1) hF
  rw [e1] at h26
  have hmf : ∀ (fn : Fn) (first cap : Array Value) (w : World), (Instr.makeFunc fn first cap).run Tryz.prog w = .ok (.func fn first cap) w := fun _ _ _ _ => rfl
  cases hs : sndB zs with
  | false =>
    have hE : chE zs = 110 := by unfold chE; rw [hs]; rfl
    have K20 := told25_bad 64 (.pointer (some ⟨w.heap.size, 0, none⟩)) (w.alloc (.cells #[.slice va zs.length vc] 22)) (enters_of Tryz.func64 rfl rfl) (h26.mono (by
      rintro e w' ⟨⟨h, _⟩ | ⟨_, h⟩, hb⟩
      · rw [hs] at h; cases h
      · exact ⟨h, hb⟩))
    rw [hE]
    have K20 : Hid (Calls Tryz.prog 63 #[.func (.func 64) #[] #[.pointer (some ⟨w.heap.size, 0, none⟩)]] (w.alloc (.cells #[.slice va zs.length vc] 22)) fun e w' => e = .returned (.tuple #[.slice none 0 0, .int .i64 110]) ∧ Below (w.alloc (.cells #[.slice va zs.length vc] 22)).heap.size (w.alloc (.cells #[.slice va zs.length vc] 22)) w') := K20
    have B0 : Hid (Below w.heap.size w (w.alloc (.cells #[.slice va zs.length vc] 22))) := B0
    clear hR B1 e1 h26 hs hE hF
    go_enter Tryz.func40, Tryz.ntmps40
    go_wp2_with (first
      | (go_at_call 63; refine K20.out.mono ?_; rintro e w1 ⟨rfl, hb1⟩))
    exact bodyPost_ret (results_tmp rfl _ _ _) rfl ⟨rfl, bstep B0.out hb1⟩
  | true =>
    have hE : chE zs = 0 := by unfold chE; rw [hs]; rfl
    have K20 := told25_ok 64 (.pointer (some ⟨w.heap.size, 0, none⟩)) (fun _ _ => True) (w.alloc (.cells #[.slice va zs.length vc] 22)) (enters_of Tryz.func64 rfl rfl) (h26.mono (by
      rintro e w' ⟨⟨_, u, he⟩ | ⟨h, _⟩, hb⟩
      · exact ⟨u, he, trivial, hb⟩
      · rw [hs] at h; cases h))
    rw [hE]
    have K20 : Hid (Calls Tryz.prog 63 #[.func (.func 64) #[] #[.pointer (some ⟨w.heap.size, 0, none⟩)]] (w.alloc (.cells #[.slice va zs.length vc] 22)) fun e w' => ∃ u, e = .returned (.tuple #[u, .int .i64 0]) ∧ Below (w.alloc (.cells #[.slice va zs.length vc] 22)).heap.size (w.alloc (.cells #[.slice va zs.length vc] 22)) w') := by
      refine K20.mono ?_
      rintro e w' ⟨u, w1, rfl, _, h1, h2, h3⟩
      exact ⟨u, rfl, h3⟩
    have B0 : Hid (Below w.heap.size w (w.alloc (.cells #[.slice va zs.length vc] 22))) := B0
    clear hR B1 e1 h26 hs hE hF
    go_enter Tryz.func40, Tryz.ntmps40
    go_wp2_with (first
      | (go_at_call 63; refine K20.out.mono ?_; rintro e w1 ⟨u1, rfl, hb1⟩))
    exact bodyPost_ret (results_tmp rfl _ _ _) rfl ⟨rfl, bstep B0.out hb1⟩
end Go.Proofs.YtcgclhahonndbaaGreat
