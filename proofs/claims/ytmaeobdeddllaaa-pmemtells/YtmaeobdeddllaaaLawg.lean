/- Walks of layer 4's statements: what the document says. -/
import Derived.Test.YtmaeobdeddllaaaLawf
import Derived.Test.YtmaeobdeddllaaaWalkz
namespace Go.Proofs.Ytmaeobdeddllaaa
open Go.RowKit Go.Shelf
set_option linter.unusedVariables false

set_option maxRecDepth 100000 in
set_option maxHeartbeats 4000000 in
theorem walk_PmemTells (a1 a2 a3 : Option Addr) (n1 n2 n3 c1 c2 c3 : Nat) (at' v ln : Int) (ak : Option Addr) (nk ck : Nat) (w : World) (hm : MemIn w a1 a2 a3 n1 n2 n3 c1 c2 c3) (hk : KeepIn w ak nk ck) :
    Calls Try.prog 3 #[.agg #[.slice a1 n1 c1, .slice a2 n2 c2, .slice a3 n3 c3], .int .i64 at', .int .i64 v, .int .i64 ln, .slice ak nk ck] w fun e w' => e = .returned (.bool true) ∧ Below w.heap.size w w' := by
  by_cases h : n1 ≤ 300 ∧ n2 ≤ 300 ∧ n3 ≤ 100
  · obtain ⟨h1, h2, h3⟩ := h
    obtain ⟨m, rfl, rfl, rfl, hR⟩ := hm h1 h2 h3
    have HB : Hid (Below w.heap.size w (w.alloc (.cells #[.slice a1 m.vol.length c1, .slice a2 m.per.length c2, .slice a3 m.pend.length c3] 25))) := (Below.refl _ _).alloc (Nat.le_refl _) _
    have HX : Hid (Bo (w.alloc (.cells #[.slice a1 m.vol.length c1, .slice a2 m.per.length c2, .slice a3 m.pend.length c3] 25)) w.heap.size (.slice a1 m.vol.length c1) (.slice a2 m.per.length c2) (.slice a3 m.pend.length c3)) := Bo.new w _ _ _
    have HR : Hid (RdM (w.alloc (.cells #[.slice a1 m.vol.length c1, .slice a2 m.per.length c2, .slice a3 m.pend.length c3] 25)) (.slice a1 m.vol.length c1) (.slice a2 m.per.length c2) (.slice a3 m.pend.length c3) m) := hR.below HB.out
    have hfew : fewB m.vol.length m.per.length m.pend.length = true := decide_eq_true ⟨h1, h2, h3⟩
    clear hR hm
    by_cases hn : (nk : Int) ≤ 300
    · obtain ⟨keep, rfl, hK, hBd⟩ := hk (by omega)
      have HK : Hid (Rd (w.alloc (.cells #[.slice a1 m.vol.length c1, .slice a2 m.per.length c2, .slice a3 m.pend.length c3] 25)) (.slice ak keep.length ck) keep) := hK.below HB.out
      exact tells_b putR_any a1 a2 a3 ak c1 c2 c3 ck at' v ln keep w m HB HX HR HK hBd hfew h1 h2 h3 hn
    · go_enter Try.func3, Try.ntmps3
      go_wp2_with (first
        | (go_at_call 9; refine (awake_any _).mono ?_; rintro e w0 ⟨rfl, hb0⟩; have HX0 : Hid (Bo w0 _ _ _ _) := HX.out.below hb0; obtain ⟨⟨x0, x1, x2⟩, _⟩ := HX0.out.bx; have HB0 : Hid (Below w.heap.size w w0) := bstep HB.out hb0)
        | (go_at_call 10; refine (few_any _ _ _ _ _ _ _ _ _ _).mono ?_; rintro e wf ⟨rfl, hbf⟩))
      go_ret
      exact ⟨rfl, bstep HB0.out hbf⟩
  · clear hm
    have HB : Hid (Below w.heap.size w (w.alloc (.cells #[.slice a1 n1 c1, .slice a2 n2 c2, .slice a3 n3 c3] 25))) := (Below.refl _ _).alloc (Nat.le_refl _) _
    have HX : Hid (Bo (w.alloc (.cells #[.slice a1 n1 c1, .slice a2 n2 c2, .slice a3 n3 c3] 25)) w.heap.size (.slice a1 n1 c1) (.slice a2 n2 c2) (.slice a3 n3 c3)) := Bo.new w _ _ _
    have hfew : fewB n1 n2 n3 = false := decide_eq_false h
    go_enter Try.func3, Try.ntmps3
    go_wp2_with (first
      | (go_at_call 9; refine (awake_any _).mono ?_; rintro e w0 ⟨rfl, hb0⟩; have HX0 := HX.out.below hb0; obtain ⟨⟨x0, x1, x2⟩, _⟩ := HX0.bx; have HB0 : Hid (Below w.heap.size w w0) := bstep HB.out hb0; clear HX0)
      | (go_at_call 10; refine (few_any _ _ _ _ _ _ _ _ _ _).mono ?_; rintro e wf ⟨rfl, hbf⟩))
    go_ret
    exact ⟨rfl, bstep HB0.out hbf⟩
end Go.Proofs.Ytmaeobdeddllaaa
