/- Layer 11: Check, Reach and Low, as they are told. -/
import Derived.Test.YtgcdhenbpkcmgaaArp
namespace Go.Proofs.Ytgcdhenbpkcmgaa
open Go.RowKit Go.Shelf
set_option linter.unusedVariables false

set_option maxRecDepth 100000 in
set_option maxHeartbeats 1000000 in
theorem check1_any (g : Nat) (v : Value) (zs : List Int) (w : World) (h : Cl w g v 23) (hR : Rl w v zs) (hF : Fits zs) : Calls Try.prog 26 #[.pointer (some ⟨g, 0, none⟩)] w fun e w' =>
    ((sndB zs = true ∧ ∃ v', e = .returned v') ∨ (sndB zs = false ∧ e = .panicked [unS])) ∧ Below w.heap.size w w' := by
  have hc := h.cell
  obtain ⟨_, va, vc, rfl, _⟩ := hR.form
  cases hs : sndB zs with
  | false =>
    have K27 : Hid (Calls Try.prog 27 #[.slice va zs.length vc] w fun e w' => e = .panicked [unS] ∧ Below w.heap.size w w') := soundLeaves_bad _ zs w hR hF hs
    clear hs hR hF h
    go_enter Try.func26, Try.ntmps26
    go_wp2_with (first
      | (go_at_call 27; refine K27.out.mono ?_; rintro e w1 ⟨rfl, hb1⟩))
    exact ⟨rfl, .inr ⟨by trivial, rfl⟩, hb1⟩
  | true =>
    obtain ⟨L, hL⟩ := snd_leaves hs
    have K27 : Hid (Calls Try.prog 27 #[.slice va zs.length vc] w fun e w' => ∃ v' P, L = P.map Prod.fst ∧ e = .returned v' ∧ Lv zs w' w.heap.size v' P ∧ Below w.heap.size w w') := soundLeaves_ok _ zs w hR hF hs hL
    clear hs hR hF h hL
    go_enter Try.func26, Try.ntmps26
    go_wp2_with (first
      | (go_at_call 27; refine K27.out.mono ?_; rintro e w1 ⟨v1, P, hP, rfl, lv1, hb1⟩; obtain ⟨ga, gc, rfl⟩ := lv1.form; clear lv1))
    exact bodyPost_ret (results_tmp rfl _ _ _) rfl ⟨.inl ⟨by trivial, _, rfl⟩, hb1⟩
theorem check_any (v : Value) (zs : List Int) (w : World) (hR : Rl w v zs) (hF : Fits zs) : Calls Try.prog 13 #[v] w fun e w' => e = .returned (.int .i64 (chE zs)) ∧ Below w.heap.size w w' := by
  obtain ⟨_, va, vc, rfl, _⟩ := hR.form
  have B0 : Below w.heap.size w (w.alloc (.cells #[.slice va zs.length vc] 23)) := below_new w _
  have B1 := below_new (w.alloc (.cells #[.slice va zs.length vc] 23)) (.cells #[.int .i64 0] 24)
  have e1 : ((w.alloc (.cells #[.slice va zs.length vc] 23)).alloc (.cells #[.int .i64 0] 24)).heap.size = (w.alloc (.cells #[.slice va zs.length vc] 23)).heap.size + 1 := by simp
  have h26 := check1_any w.heap.size (.slice va zs.length vc) zs _ ((cl_new w (.slice va zs.length vc) 23).below B1) ((hR.below B0).below B1) hF
  rw [e1] at h26
  have hmf : ∀ (fn : Fn) (first cap : Array Value) (w : World), (Instr.makeFunc fn first cap).run Try.prog w = .ok (.func fn first cap) w := fun _ _ _ _ => rfl
  cases hs : sndB zs with
  | false =>
    have hE : chE zs = 110 := by unfold chE; rw [hs]; rfl
    have K20 := told25_bad 26 (.pointer (some ⟨w.heap.size, 0, none⟩)) (w.alloc (.cells #[.slice va zs.length vc] 23)) (enters_of Try.func26 rfl rfl) (h26.mono (by
      rintro e w' ⟨⟨h, _⟩ | ⟨_, h⟩, hb⟩
      · rw [hs] at h; cases h
      · exact ⟨h, hb⟩))
    rw [hE]
    have K20 : Hid (Calls Try.prog 25 #[.func (.func 26) #[] #[.pointer (some ⟨w.heap.size, 0, none⟩)]] (w.alloc (.cells #[.slice va zs.length vc] 23)) fun e w' => e = .returned (.tuple #[.slice none 0 0, .int .i64 110]) ∧ Below (w.alloc (.cells #[.slice va zs.length vc] 23)).heap.size (w.alloc (.cells #[.slice va zs.length vc] 23)) w') := K20
    have B0 : Hid (Below w.heap.size w (w.alloc (.cells #[.slice va zs.length vc] 23))) := B0
    clear hR B1 e1 h26 hs hE hF
    go_enter Try.func13, Try.ntmps13
    go_wp2_with (first
      | (go_at_call 25; refine K20.out.mono ?_; rintro e w1 ⟨rfl, hb1⟩))
    exact bodyPost_ret (results_tmp rfl _ _ _) rfl ⟨rfl, bstep B0.out hb1⟩
  | true =>
    have hE : chE zs = 0 := by unfold chE; rw [hs]; rfl
    have K20 := told25_ok 26 (.pointer (some ⟨w.heap.size, 0, none⟩)) (fun _ _ => True) (w.alloc (.cells #[.slice va zs.length vc] 23)) (enters_of Try.func26 rfl rfl) (h26.mono (by
      rintro e w' ⟨⟨_, u, he⟩ | ⟨h, _⟩, hb⟩
      · exact ⟨u, he, trivial, hb⟩
      · rw [hs] at h; cases h))
    rw [hE]
    have K20 : Hid (Calls Try.prog 25 #[.func (.func 26) #[] #[.pointer (some ⟨w.heap.size, 0, none⟩)]] (w.alloc (.cells #[.slice va zs.length vc] 23)) fun e w' => ∃ u, e = .returned (.tuple #[u, .int .i64 0]) ∧ Below (w.alloc (.cells #[.slice va zs.length vc] 23)).heap.size (w.alloc (.cells #[.slice va zs.length vc] 23)) w') := by
      refine K20.mono ?_
      rintro e w' ⟨u, w1, rfl, _, h1, h2, h3⟩
      exact ⟨u, rfl, h3⟩
    have B0 : Hid (Below w.heap.size w (w.alloc (.cells #[.slice va zs.length vc] 23))) := B0
    clear hR B1 e1 h26 hs hE hF
    go_enter Try.func13, Try.ntmps13
    go_wp2_with (first
      | (go_at_call 25; refine K20.out.mono ?_; rintro e w1 ⟨u1, rfl, hb1⟩))
    exact bodyPost_ret (results_tmp rfl _ _ _) rfl ⟨rfl, bstep B0.out hb1⟩
set_option maxRecDepth 100000 in
set_option maxHeartbeats 1000000 in
theorem reach1_any (g : Nat) (v : Value) (zs : List Int) (w : World) (h : Cl w g v 23) (hR : Rl w v zs) (hF : Fits zs) : Calls Try.prog 23 #[.pointer (some ⟨g, 0, none⟩)] w fun e w' =>
    ((∃ L v' M, lvA zs = some L ∧ sndB zs = true ∧ e = .returned v' ∧ Rd w' v' M ∧ RcS zs L M) ∨ (sndB zs = false ∧ e = .panicked [unS])) ∧ Below w.heap.size w w' := by
  have hc := h.cell
  obtain ⟨_, va, vc, rfl, _⟩ := hR.form
  have k24 := reachedOf_any va zs.length vc zs w hR hF
  clear hR h
  cases hs : sndB zs with
  | false =>
    have K24 : Hid (Calls Try.prog 24 #[.slice va zs.length vc] w fun e w' => e = .panicked [unS] ∧ Below w.heap.size w w') := k24.mono (by
      rintro e w' (⟨_, _, _, _, h, _⟩ | ⟨_, h⟩)
      · rw [hs] at h; cases h
      · exact h)
    clear k24 hs hF
    go_enter Try.func23, Try.ntmps23
    go_wp2_with (first
      | (go_at_call 24; refine K24.out.mono ?_; rintro e w1 ⟨rfl, hb1⟩))
    exact ⟨rfl, .inr ⟨by trivial, rfl⟩, hb1⟩
  | true =>
    have K24 : Hid (Calls Try.prog 24 #[.slice va zs.length vc] w fun e w' => ∃ L v' M, lvA zs = some L ∧ e = .returned v' ∧ Rd w' v' M ∧ RcS zs L M ∧ Below w.heap.size w w') := k24.mono (by
      rintro e w' (⟨L, v', M, h1, _, h2, h3, h4, h5⟩ | ⟨h, _⟩)
      · exact ⟨L, v', M, h1, h2, h3, h4, h5⟩
      · rw [hs] at h; cases h)
    clear k24 hs hF
    go_enter Try.func23, Try.ntmps23
    go_wp2_with (first
      | (go_at_call 24; refine K24.out.mono ?_; rintro e w1 ⟨L, v1, M, hL, rfl, r1, hM, hb1⟩; obtain ⟨hl1, a1, c1, rfl⟩ := r1.form; have R1 : Hid (Rd w1 (.slice a1 M.length c1) M) := r1; have HM : Hid (RcS zs L M) := hM; have HL : Hid (lvA zs = some L) := hL; clear r1 hM hL))
    exact bodyPost_ret (results_tmp rfl _ _ _) rfl ⟨.inl ⟨L, .slice a1 M.length c1, M, HL.out, by trivial, rfl, R1.out, HM.out⟩, hb1⟩
theorem reach_told (v : Value) (zs : List Int) (w : World) (hR : Rl w v zs) (hF : Fits zs) : Calls Try.prog 12 #[v] w fun e w' => ∃ v' M, e = .returned (.tuple #[v', .int .i64 (chE zs)]) ∧ Rd w' v' M ∧ (sndB zs = true → ∃ L, lvA zs = some L ∧ RcS zs L M) ∧ (sndB zs = false → M = []) ∧ Below w.heap.size w w' := by
  obtain ⟨_, va, vc, rfl, _⟩ := hR.form
  have B0 : Below w.heap.size w (w.alloc (.cells #[.slice va zs.length vc] 23)) := below_new w _
  have B1 := below_new (w.alloc (.cells #[.slice va zs.length vc] 23)) (.cells #[.int .i64 0] 24)
  have e1 : ((w.alloc (.cells #[.slice va zs.length vc] 23)).alloc (.cells #[.int .i64 0] 24)).heap.size = (w.alloc (.cells #[.slice va zs.length vc] 23)).heap.size + 1 := by simp
  have h23 := reach1_any w.heap.size (.slice va zs.length vc) zs _ ((cl_new w (.slice va zs.length vc) 23).below B1) ((hR.below B0).below B1) hF
  rw [e1] at h23
  have hmf : ∀ (fn : Fn) (first cap : Array Value) (w : World), (Instr.makeFunc fn first cap).run Try.prog w = .ok (.func fn first cap) w := fun _ _ _ _ => rfl
  cases hs : sndB zs with
  | false =>
    have hE : chE zs = 110 := by unfold chE; rw [hs]; rfl
    have K20 := told20_bad 23 (.pointer (some ⟨w.heap.size, 0, none⟩)) (w.alloc (.cells #[.slice va zs.length vc] 23)) (enters_of Try.func23 rfl rfl) (h23.mono (by
      rintro e w' ⟨⟨_, _, _, _, h, _⟩ | ⟨_, h⟩, hb⟩
      · rw [hs] at h; cases h
      · exact ⟨h, hb⟩))
    rw [hE]
    have K20 : Hid (Calls Try.prog 20 #[.func (.func 23) #[] #[.pointer (some ⟨w.heap.size, 0, none⟩)]] (w.alloc (.cells #[.slice va zs.length vc] 23)) fun e w' => e = .returned (.tuple #[.slice none 0 0, .int .i64 110]) ∧ Below (w.alloc (.cells #[.slice va zs.length vc] 23)).heap.size (w.alloc (.cells #[.slice va zs.length vc] 23)) w') := K20
    have B0 : Hid (Below w.heap.size w (w.alloc (.cells #[.slice va zs.length vc] 23))) := B0
    clear hR B1 e1 h23 hs hE hF
    go_enter Try.func12, Try.ntmps12
    go_wp2_with (first
      | (go_at_call 20; refine K20.out.mono ?_; rintro e w1 ⟨rfl, hb1⟩))
    exact bodyPost_ret (results_tmp2 rfl _ _ _) rfl ⟨_, [], rfl, nil_rd _, (by intro h; cases h), fun _ => rfl, bstep B0.out hb1⟩
  | true =>
    have hE : chE zs = 0 := by unfold chE; rw [hs]; rfl
    have K20 := told20_ok 23 (.pointer (some ⟨w.heap.size, 0, none⟩)) (fun u W => ∃ L M, lvA zs = some L ∧ Rd W u M ∧ RcS zs L M) (w.alloc (.cells #[.slice va zs.length vc] 23)) (enters_of Try.func23 rfl rfl) (h23.mono (by
      rintro e w' ⟨⟨L, u, M, h1, _, he, h2, h3⟩ | ⟨h, _⟩, hb⟩
      · exact ⟨u, he, ⟨L, M, h1, h2, h3⟩, hb⟩
      · rw [hs] at h; cases h))
    rw [hE]
    have K20 : Hid (Calls Try.prog 20 #[.func (.func 23) #[] #[.pointer (some ⟨w.heap.size, 0, none⟩)]] (w.alloc (.cells #[.slice va zs.length vc] 23)) fun e w' => ∃ u L M, e = .returned (.tuple #[u, .int .i64 0]) ∧ lvA zs = some L ∧ Rd w' u M ∧ RcS zs L M ∧ Below (w.alloc (.cells #[.slice va zs.length vc] 23)).heap.size (w.alloc (.cells #[.slice va zs.length vc] 23)) w') := by
      refine K20.mono ?_
      rintro e w' ⟨u, w1, rfl, ⟨L, M, h4, h5, h6⟩, h1, h2, h3⟩
      exact ⟨u, L, M, rfl, h4, h5.below (told_end h1 h2), h6, h3⟩
    have B0 : Hid (Below w.heap.size w (w.alloc (.cells #[.slice va zs.length vc] 23))) := B0
    clear hR B1 e1 h23 hs hE hF
    go_enter Try.func12, Try.ntmps12
    go_wp2_with (first
      | (go_at_call 20; refine K20.out.mono ?_; rintro e w1 ⟨u1, L, M, rfl, hL, r1, hM, hb1⟩; have R1 : Hid (Rd w1 u1 M) := r1; have HM : Hid (RcS zs L M) := hM; have HL : Hid (lvA zs = some L) := hL; clear r1 hM hL))
    exact bodyPost_ret (results_tmp2 rfl _ _ _) rfl ⟨_, M, rfl, R1.out, fun _ => ⟨L, HL.out, HM.out⟩, (by intro h; cases h), bstep B0.out hb1⟩
end Go.Proofs.Ytgcdhenbpkcmgaa
