/- Set over from a lower layer: Arc. -/
import Derived.Test.YtcgclhahonndbaaGreatBase
import Derived.Test.YtcgclhahonndbaaGreatNNodp
import Derived.Test.YtcgclhahonndbaaGreatSSupa
import Derived.Test.YtcgclhahonndbaaGreatNNumz
import Derived.Test.YtcgclhahonndbaaGreatRRecg
import Derived.Test.YtcgclhahonndbaaGreatRReca
import Derived.Test.YtcgclhahonndbaaGreatRRecz
import Derived.Test.YtcgclhahonndbaaGreatSSumz
import Derived.Test.YtcgclhahonndbaaGreatRKeywalkc
import Derived.Test.YtcgclhahonndbaaGreatNNodr
import Derived.Test.YtcgclhahonndbaaGreatRRech
namespace Go.Proofs.YtcgclhahonndbaaGreat
open Go.RowKit Go.Shelf
set_option linter.unusedVariables false
set_option maxRecDepth 100000 in
set_option maxHeartbeats 1000000 in
theorem nodeOf_ok (v : Value) (zs : List Int) (b : Int) (w : World) (hR : Rl w v zs) (h : rnE zs b = 0) : Calls Tryz.prog 91 #[v, .int .i64 b] w fun e w' => ∃ v', e = .returned (.agg #[.int .i64 (rnN zs b).lv, .int .i64 (rnN zs b).tu, .int .i64 (rnN zs b).nx, .int .i64 (rnN zs b).lo, v']) ∧ OwnI w' w.heap.size v' (rnN zs b).sl ∧ Below w.heap.size w w' := by
  have N0 : Hid (Nb (w.alloc (.cells #[.int .i64 0, .int .i64 0, .int .i64 0, .int .i64 0, .slice none 0 0] 43)) w.heap.size 0 0 0 0 (.slice none 0 0)) := nb_new w 0 0 0 0 _
  have B0 : Hid (Below w.heap.size w (w.alloc (.cells #[.int .i64 0, .int .i64 0, .int .i64 0, .int .i64 0, .slice none 0 0] 43))) := (Below.refl _ _).alloc (Nat.le_refl _) _
  have k17 := fun W (hW : Rl W v zs) => read_any v zs b W hW
  have HR : Hid (Rl w v zs) := hR
  clear hR
  rw [h] at k17
  have K17 : Hid (∀ W (hW : Rl W v zs), Calls Tryz.prog 94 #[v, .int .i64 b] W fun e w' => ∃ v', e = .returned (.tuple #[.agg #[.int .i64 (rnN zs b).lv, .int .i64 (rnN zs b).tu, .int .i64 (rnN zs b).nx, .int .i64 (rnN zs b).lo, v'], .int .i64 0]) ∧ OwnI w' W.heap.size v' (rnN zs b).sl ∧ Below W.heap.size W w') := k17
  clear k17 h
  generalize rnN zs b = n at *
  obtain ⟨lv, tu, nx, lo, sl⟩ := n
  go_enter Tryz.func91, Tryz.ntmps91
  go_wp2_with (first
    | (go_at_call 94; refine (K17.out _ (HR.out.below B0.out)).mono ?_; rintro e w1 ⟨v1, rfl, r1, hb1⟩; dsimp only at r1; obtain ⟨a1, c1, rfl⟩ := r1.form; have H1 : Hid (Below w.heap.size w (w1.alloc (.cells #[.int .i64 lv, .int .i64 tu, .int .i64 nx, .int .i64 lo, .slice a1 sl.length c1] 43))) := (bstep B0.out hb1).alloc (bstep B0.out hb1).size _; have X1 : Hid (Nb (w1.alloc (.cells #[.int .i64 lv, .int .i64 tu, .int .i64 nx, .int .i64 lo, .slice a1 sl.length c1] 43)) w1.heap.size lv tu nx lo (.slice a1 sl.length c1)) := nb_new w1 lv tu nx lo _; have O1 : Hid (OwnI (w1.alloc (.cells #[.int .i64 lv, .int .i64 tu, .int .i64 nx, .int .i64 lo, .slice a1 sl.length c1] 43)) (w.alloc (.cells #[.int .i64 0, .int .i64 0, .int .i64 0, .int .i64 0, .slice none 0 0] 43)).heap.size (.slice a1 sl.length c1) sl) := r1.below ((Below.refl _ _).alloc (Nat.le_refl _) _); have Z1 : Hid (Nb (w1.alloc (.cells #[.int .i64 lv, .int .i64 tu, .int .i64 nx, .int .i64 lo, .slice a1 sl.length c1] 43)) w.heap.size 0 0 0 0 (.slice none 0 0)) := (N0.out.below hb1).below ((Below.refl _ _).alloc (Nat.le_refl _) _); clear r1 hb1)
    | (go_at_call 86; refine (demand_yes _).mono ?_; rintro e w2 ⟨rfl, hw⟩; rw [hw]; clear hw w2; obtain ⟨c0, c1', c2, c3, c4⟩ := X1.out.c; obtain ⟨q0, q1, q2, q3, q4⟩ := Z1.out.c; have f0 := Z1.out.free 0; have f1 := Z1.out.free 1; have f2 := Z1.out.free 2; have f3 := Z1.out.free 3; have f4 := Z1.out.free 4; have N5 := Z1.out.set5 (.int .i64 lv) (.int .i64 tu) (.int .i64 nx) (.int .i64 lo) (.slice a1 sl.length c1); have B5 := below_set5 H1.out (Nat.le_refl _) (.int .i64 lv) (.int .i64 tu) (.int .i64 nx) (.int .i64 lo) (.slice a1 sl.length c1); have O5 := (own_set5 O1.out N0.out.lt (.int .i64 lv) (.int .i64 tu) (.int .i64 nx) (.int .i64 lo) (.slice a1 sl.length c1)).less (Nat.le_of_lt N0.out.lt)))
  generalize World.setCell _ _ _ = W5 at *
  exact bodyPost_ret (ret_nb (p := 4) (b := w.heap.size) Tryz.results91 rfl N5) rfl ⟨_, rfl, O5, B5⟩
set_option maxRecDepth 100000 in
set_option maxHeartbeats 1000000 in
theorem nodeOf_bad (v : Value) (zs : List Int) (b : Int) (w : World) (hR : Rl w v zs) (h : rnE zs b ≠ 0) : Calls Tryz.prog 91 #[v, .int .i64 b] w fun e w' => e = .panicked [unS] ∧ Below w.heap.size w w' := by
  have B0 : Hid (Below w.heap.size w (w.alloc (.cells #[.int .i64 0, .int .i64 0, .int .i64 0, .int .i64 0, .slice none 0 0] 43))) := (Below.refl _ _).alloc (Nat.le_refl _) _
  have k17 := fun W (hW : Rl W v zs) => read_any v zs b W hW
  have HR : Hid (Rl w v zs) := hR
  clear hR
  have K17 : Hid (∀ W (hW : Rl W v zs), Calls Tryz.prog 94 #[v, .int .i64 b] W fun e w' => ∃ v', e = .returned (.tuple #[.agg #[.int .i64 (rnN zs b).lv, .int .i64 (rnN zs b).tu, .int .i64 (rnN zs b).nx, .int .i64 (rnN zs b).lo, v'], .int .i64 (rnE zs b)]) ∧ OwnI w' W.heap.size v' (rnN zs b).sl ∧ Below W.heap.size W w') := k17
  have hE : (rnE zs b == 0) = false := by simp [h]
  clear k17 h
  generalize rnN zs b = n at *
  generalize rnE zs b = E at *
  obtain ⟨lv, tu, nx, lo, sl⟩ := n
  go_enter Tryz.func91, Tryz.ntmps91
  go_wp2_with (first
    | (go_at_call 94; refine (K17.out _ (HR.out.below B0.out)).mono ?_; rintro e w1 ⟨v1, rfl, r1, hb1⟩; dsimp only at r1; obtain ⟨a1, c1, rfl⟩ := r1.form; have H1 : Hid (Below w.heap.size w (w1.alloc (.cells #[.int .i64 lv, .int .i64 tu, .int .i64 nx, .int .i64 lo, .slice a1 sl.length c1] 43))) := (bstep B0.out hb1).alloc (bstep B0.out hb1).size _; clear r1 hb1)
    | (go_at_call 86; refine (demand_no _).mono ?_; rintro e w2 ⟨rfl, hw⟩; rw [hw]; clear hw w2))
  exact ⟨rfl, rfl, H1.out⟩
set_option maxRecDepth 100000 in
set_option maxHeartbeats 1000000 in
theorem recordOf_ok (v : Value) (zs : List Int) (b : Int) (w : World) (hR : Rl w v zs) (hF : Fits zs) (hz : -9223372036854775808 ≤ b ∧ b < 9223372036854775808) (h : RrdE zs b = 0) : Calls Tryz.prog 111 #[v, .int .i64 b] w fun e w' => e = .returned (.agg #[.int .i64 (rdX zs b).k, .string (rdX zs b).key, .string (rdX zs b).val, .int .i64 (rdX zs b).ch]) ∧ Below w.heap.size w w' := by
  have N0 : Hid (RcAt (w.alloc (.cells #[.int .i64 0, .string ⟨#[]⟩, .string ⟨#[]⟩, .int .i64 0] 40)) w.heap.size rc0) := rc0_new w
  have B0 : Hid (Below w.heap.size w (w.alloc (.cells #[.int .i64 0, .string ⟨#[]⟩, .string ⟨#[]⟩, .int .i64 0] 40))) := (Below.refl _ _).alloc (Nat.le_refl _) _
  have k17 := fun W (hW : Rl W v zs) => Rread_any v zs b W hW hF hz
  have HR : Hid (Rl w v zs) := hR
  clear hR
  rw [h] at k17
  have K17 : Hid (∀ W (hW : Rl W v zs), Calls Tryz.prog 96 #[v, .int .i64 b] W fun e w' => e = .returned (.tuple #[.agg #[.int .i64 (rdX zs b).k, .string (rdX zs b).key, .string (rdX zs b).val, .int .i64 (rdX zs b).ch], .int .i64 0]) ∧ Below W.heap.size W w') := k17
  clear k17 h hz hF
  generalize rdX zs b = x at *
  have s2 := rcs_sizeL x
  go_enter Tryz.func111, Tryz.ntmps111
  go_wp2_with (first
    | (go_at_call 96; refine (K17.out _ (HR.out.below B0.out)).mono ?_; rintro e w1 ⟨rfl, hb1⟩; have H1 : Hid (Below w.heap.size w (w1.alloc (.cells #[.int .i64 x.k, .string x.key, .string x.val, .int .i64 x.ch] 40))) := (bstep B0.out hb1).alloc (bstep B0.out hb1).size _; have X1 : Hid (RcAt (w1.alloc (.cells #[.int .i64 x.k, .string x.key, .string x.val, .int .i64 x.ch] 40)) w1.heap.size x) := rc_new w1 x; have Z1 : Hid (RcAt (w1.alloc (.cells #[.int .i64 x.k, .string x.key, .string x.val, .int .i64 x.ch] 40)) w.heap.size rc0) := (N0.out.below hb1).below ((Below.refl _ _).alloc (Nat.le_refl _) _); clear hb1)
    | (go_at_call 86; refine (demand_yes _).mono ?_; rintro e w2 ⟨rfl, hw⟩; rw [hw]; clear hw w2; obtain ⟨c0, c1', c2, c3⟩ := X1.out.c; obtain ⟨q0, q1, q2, q3⟩ := Z1.out.c; have f0 := Z1.out.f 0; have f1 := Z1.out.f 1; have f2 := Z1.out.f 2; have f3 := Z1.out.f 3; have N5 := Z1.out.set4 x; have B5 := (((H1.out.setCell (p := ⟨w.heap.size, 0, none⟩) (Nat.le_refl _) (.int .i64 x.k)).setCell (p := ⟨w.heap.size, 1, none⟩) (Nat.le_refl _) (.string x.key)).setCell (p := ⟨w.heap.size, 2, none⟩) (Nat.le_refl _) (.string x.val)).setCell (p := ⟨w.heap.size, 3, none⟩) (Nat.le_refl _) (.int .i64 x.ch)))
  generalize World.setCell _ _ _ = W5 at *
  refine bodyPost_ret (v := .agg (rcs x).toArray) ?_ rfl ⟨rfl, B5⟩
  have := run_loadVar_mid (P := Tryz.prog) _ w.heap.size 0 40 (rcs x) _ N5.range Tryz.underlying40 rfl s2
  simp [results, Tryz.results111, asAddr, this]
set_option maxRecDepth 100000 in
set_option maxHeartbeats 1000000 in
theorem recordOf_bad (v : Value) (zs : List Int) (b : Int) (w : World) (hR : Rl w v zs) (hF : Fits zs) (hz : -9223372036854775808 ≤ b ∧ b < 9223372036854775808) (h : RrdE zs b ≠ 0) : Calls Tryz.prog 111 #[v, .int .i64 b] w fun e w' => e = .panicked [unS] ∧ Below w.heap.size w w' := by
  have B0 : Hid (Below w.heap.size w (w.alloc (.cells #[.int .i64 0, .string ⟨#[]⟩, .string ⟨#[]⟩, .int .i64 0] 40))) := (Below.refl _ _).alloc (Nat.le_refl _) _
  have k17 := fun W (hW : Rl W v zs) => Rread_any v zs b W hW hF hz
  have HR : Hid (Rl w v zs) := hR
  clear hR
  have K17 : Hid (∀ W (hW : Rl W v zs), Calls Tryz.prog 96 #[v, .int .i64 b] W fun e w' => e = .returned (.tuple #[.agg #[.int .i64 (rdX zs b).k, .string (rdX zs b).key, .string (rdX zs b).val, .int .i64 (rdX zs b).ch], .int .i64 (RrdE zs b)]) ∧ Below W.heap.size W w') := k17
  have hE : (RrdE zs b == 0) = false := by simp [h]
  clear k17 h hz hF
  generalize rdX zs b = x at *
  generalize RrdE zs b = E at *
  go_enter Tryz.func111, Tryz.ntmps111
  go_wp2_with (first
    | (go_at_call 96; refine (K17.out _ (HR.out.below B0.out)).mono ?_; rintro e w1 ⟨rfl, hb1⟩; have H1 : Hid (Below w.heap.size w (w1.alloc (.cells #[.int .i64 x.k, .string x.key, .string x.val, .int .i64 x.ch] 40))) := (bstep B0.out hb1).alloc (bstep B0.out hb1).size _; clear hb1)
    | (go_at_call 86; refine (demand_no _).mono ?_; rintro e w2 ⟨rfl, hw⟩; rw [hw]; clear hw w2))
  exact ⟨rfl, rfl, H1.out⟩
theorem field89 (x : Rc) (w : World) : (Instr.field 40 (.agg #[.int .i64 x.k, .string x.key, .string x.val, .int .i64 x.ch]) 1).run Tryz.prog w = .ok (.string x.key) w := by kernel_rfl
set_option maxRecDepth 100000 in
set_option maxHeartbeats 1000000 in
/-- From which key on a node is, or the look's end. -/
theorem lowOf_ok (v u : Value) (zs : List Int) (n : Nd) (w : World) (hR : Rl w v zs) (hF : Fits zs) (hz : 0 ≤ n.lo ∧ n.lo ≤ 255) (h : n.lo = 0 ∨ RrdE zs n.lo = 0) (a : Option Addr) (l c : Nat) (hu : u = .slice a l c) :
    Calls Tryz.prog 87 #[v, .agg #[.int .i64 n.lv, .int .i64 n.tu, .int .i64 n.nx, .int .i64 n.lo, u]] w fun e w' => e = .returned (.string (if n.lo = 0 then ByteArray.empty else (rdX zs n.lo).key)) ∧ Below w.heap.size w w' := by
  obtain ⟨lv, tu, nx, lo, sl⟩ := n
  subst hu
  dsimp only at *
  have B0 : Hid (Below w.heap.size w (w.alloc (.cells #[.int .i64 lv, .int .i64 tu, .int .i64 nx, .int .i64 lo, .slice a l c] 43))) := (Below.refl _ _).alloc (Nat.le_refl _) _
  have HR : Hid (Rl w v zs) := hR
  clear hR
  by_cases h0 : lo = 0
  · subst h0
    rw [if_pos rfl]
    clear h hz
    go_enter Tryz.func87, Tryz.ntmps87
    go_wp2
    exact bodyPost_ret (results_tmp rfl _ _ _) rfl ⟨rfl, B0.out⟩
  · rw [if_neg h0]
    have k51 := fun W (hW : Rl W v zs) => recordOf_ok v zs lo W hW hF (by omega) (h.resolve_left h0)
    have K51 : Hid (∀ W (hW : Rl W v zs), Calls Tryz.prog 111 #[v, .int .i64 lo] W fun e w' => e = .returned (.agg #[.int .i64 (rdX zs lo).k, .string (rdX zs lo).key, .string (rdX zs lo).val, .int .i64 (rdX zs lo).ch]) ∧ Below W.heap.size W w') := k51
    have hE : (lo == 0) = false := by simp [h0]
    clear k51 h hz h0
    generalize rdX zs lo = x at *
    have hfl := field89 x
    go_enter Tryz.func87, Tryz.ntmps87
    go_wp2_with (first
      | (go_at_call 111; refine (K51.out _ (HR.out.below B0.out)).mono ?_; rintro e w1 ⟨rfl, hb1⟩; have H1 := bstep B0.out hb1; clear hb1))
    exact bodyPost_ret (results_tmp rfl _ _ _) rfl ⟨rfl, H1⟩
set_option maxRecDepth 100000 in
set_option maxHeartbeats 1000000 in
theorem lowOf_bad (v u : Value) (zs : List Int) (n : Nd) (w : World) (hR : Rl w v zs) (hF : Fits zs) (hz : 0 ≤ n.lo ∧ n.lo ≤ 255) (h0 : n.lo ≠ 0) (h : RrdE zs n.lo ≠ 0) (a : Option Addr) (l c : Nat) (hu : u = .slice a l c) :
    Calls Tryz.prog 87 #[v, .agg #[.int .i64 n.lv, .int .i64 n.tu, .int .i64 n.nx, .int .i64 n.lo, u]] w fun e w' => e = .panicked [unS] ∧ Below w.heap.size w w' := by
  obtain ⟨lv, tu, nx, lo, sl⟩ := n
  subst hu
  dsimp only at *
  have B0 : Hid (Below w.heap.size w (w.alloc (.cells #[.int .i64 lv, .int .i64 tu, .int .i64 nx, .int .i64 lo, .slice a l c] 43))) := (Below.refl _ _).alloc (Nat.le_refl _) _
  have HR : Hid (Rl w v zs) := hR
  clear hR
  have k51 := fun W (hW : Rl W v zs) => recordOf_bad v zs lo W hW hF (by omega) h
  have K51 : Hid (∀ W (hW : Rl W v zs), Calls Tryz.prog 111 #[v, .int .i64 lo] W fun e w' => e = .panicked [unS] ∧ Below W.heap.size W w') := k51
  have hE : (lo == 0) = false := by simp [h0]
  clear k51 h hz h0
  go_enter Tryz.func87, Tryz.ntmps87
  go_wp2_with (first
    | (go_at_call 111; refine (K51.out _ (HR.out.below B0.out)).mono ?_; rintro e w1 ⟨rfl, hb1⟩; have H1 := bstep B0.out hb1; clear hb1))
  exact ⟨rfl, rfl, H1⟩
end Go.Proofs.YtcgclhahonndbaaGreat
