/- Layer 7: RecTurns, walked. -/
import Derived.Test.YtmhojhpfkieioaaReco
namespace Go.Proofs.Ytmhojhpfkieioaa
open Go.RowKit Go.Shelf Classical
set_option linter.unusedVariables false

/-- The steps of a record. -/
def sL (b : Nat) (x : Rc) : List Mi := stoL b (imL x) ++ perL b
theorem sL_length (b : Nat) {x : Rc} (hx : OkR x) : (sL b x).length = 18 := by
  unfold sL
  rw [List.length_append, stoL_length, imL_length hx]
  rfl
theorem run_two (va vb vc v : Value) (W : List Int) (x y : Rc) (a b : Nat) (w : World) (hM : RdM w va vb vc (allM W)) (hS : RdS w v (sL a x ++ sL b y)) (hW : W.length ≤ 300) (h8 : W.length % 8 = 0) (ha : 16 * a + 16 ≤ W.length) (hb : 16 * b + 16 ≤ W.length) (hx : OkR x) (hy : OkR y) :
    Calls Try.prog 20 #[.agg #[va, vb, vc], v] w fun e w' => ∃ a1 c1 a2 c2 a3 c3, e = .returned (.tuple #[.agg #[.slice a1 W.length c1, .slice a2 W.length c2, .slice a3 0 c3], .int .i64 0]) ∧ RdM w' (.slice a1 W.length c1) (.slice a2 W.length c2) (.slice a3 0 c3) (allM (layW (layW W a (imL x)) b (imL y))) ∧ Below w.heap.size w w' := by
  have hl : (sL a x ++ sL b y).length = 36 := by rw [List.length_append, sL_length a hx, sL_length b hy]
  refine (run_any va vb vc v (allM W) (sL a x ++ sL b y) w hM hS (by show 0 + _ ≤ _; omega)).mono ?_
  rintro e w' ⟨v1, v2, v3, rfl, R, bb⟩
  have l1 := layW_length (W := W) ha (imL_length hx)
  obtain ⟨h1, h2⟩ := lay_ru2 (W := W) (by omega) h8 ha hb (imL_length hx) (imL_length hy)
  have h1 : ruM (allM W) (sL a x ++ sL b y) = _ := h1
  have h2 : ruE (allM W) (sL a x ++ sL b y) = _ := h2
  rw [h1] at R
  rw [h2]
  obtain ⟨a1, c1, a2, c2, a3, c3, rfl, rfl, rfl⟩ := R.formsL (by rw [layW_length (by omega) (imL_length hy), l1])
  exact ⟨a1, c1, a2, c2, a3, c3, rfl, R, bb⟩
theorem read_in (va : Value) (Z : List Int) (x : Rc) (b : Nat) (w : World) (hR : Rd w va Z) (hx : OkR x) (hF : Fits Z) (hb : 16 * b + 16 ≤ Z.length) (h9 : b < 256) (he : blk Z b = imL x) : Calls Try.prog 11 #[va, .int .i64 b] w fun e w' => e = .returned (.tuple #[.agg #[.int .i64 x.k, .string x.key, .string x.val, .int .i64 x.ch], .int .i64 0]) ∧ Below w.heap.size w w' := by
  have := read_any va _ (b : Int) w hR hF (by omega)
  obtain ⟨h1, h2⟩ := rd_im hx (n := b) hb he
  rw [h1, h2] at this
  exact this

set_option maxRecDepth 100000 in
set_option maxHeartbeats 4000000 in
theorem turns_e0 (a : Option Addr) (len cap : Nat) (x y : Rc) (na nb : Nat) (w : World) (ha9 : na < 256) (hb9 : nb < 256) (g0 : (x.key.size : Int) > 100) :
    Calls Try.prog 7 #[.slice a len cap, .agg #[.int .i64 x.k, .string x.key, .string x.val, .int .i64 x.ch], .agg #[.int .i64 y.k, .string y.key, .string y.val, .int .i64 y.ch], .int .u8 (na : Int), .int .u8 (nb : Int)] w fun e w' => e = .returned (.bool true) ∧ Below w.heap.size w w' := by
  obtain ⟨X0, Y0, B0⟩ := unlike_start x y w _ rfl
  have HX0 : Hid (RcAt ((w.alloc (.cells #[.int .i64 x.k, .string x.key, .string x.val, .int .i64 x.ch] 23)).alloc (.cells #[.int .i64 y.k, .string y.key, .string y.val, .int .i64 y.ch] 23)) w.heap.size x) := X0
  have HY0 : Hid (RcAt ((w.alloc (.cells #[.int .i64 x.k, .string x.key, .string x.val, .int .i64 x.ch] 23)).alloc (.cells #[.int .i64 y.k, .string y.key, .string y.val, .int .i64 y.ch] 23)) (w.heap.size + 1) y) := Y0
  have H0 : Hid (Below w.heap.size w ((w.alloc (.cells #[.int .i64 x.k, .string x.key, .string x.val, .int .i64 x.ch] 23)).alloc (.cells #[.int .i64 y.k, .string y.key, .string y.val, .int .i64 y.ch] 23))) := B0
  clear X0 Y0 B0
  go_enter Try.func7, Try.ntmps7
  go_wp2_with (go_at_call 8; refine (awake_any _).mono ?_; rintro e w1 ⟨rfl, b1⟩; have H1 : Hid (Below ((w.alloc (.cells #[.int .i64 x.k, .string x.key, .string x.val, .int .i64 x.ch] 23)).alloc (.cells #[.int .i64 y.k, .string y.key, .string y.val, .int .i64 y.ch] 23)).heap.size ((w.alloc (.cells #[.int .i64 x.k, .string x.key, .string x.val, .int .i64 x.ch] 23)).alloc (.cells #[.int .i64 y.k, .string y.key, .string y.val, .int .i64 y.ch] 23)) w1) := b1; obtain ⟨c0, c1, c2, c3⟩ := (HX0.out.below b1).c; obtain ⟨d0, d1, d2, d3⟩ := (HY0.out.below b1).c; clear b1)
  go_ret
  exact ⟨rfl, bstep H0.out H1.out⟩
set_option maxRecDepth 100000 in
set_option maxHeartbeats 4000000 in
theorem turns_e1 (a : Option Addr) (len cap : Nat) (x y : Rc) (na nb : Nat) (w : World) (ha9 : na < 256) (hb9 : nb < 256) (g0 : ¬ (x.key.size : Int) > 100) (g1 : (x.val.size : Int) > 100) :
    Calls Try.prog 7 #[.slice a len cap, .agg #[.int .i64 x.k, .string x.key, .string x.val, .int .i64 x.ch], .agg #[.int .i64 y.k, .string y.key, .string y.val, .int .i64 y.ch], .int .u8 (na : Int), .int .u8 (nb : Int)] w fun e w' => e = .returned (.bool true) ∧ Below w.heap.size w w' := by
  obtain ⟨X0, Y0, B0⟩ := unlike_start x y w _ rfl
  have HX0 : Hid (RcAt ((w.alloc (.cells #[.int .i64 x.k, .string x.key, .string x.val, .int .i64 x.ch] 23)).alloc (.cells #[.int .i64 y.k, .string y.key, .string y.val, .int .i64 y.ch] 23)) w.heap.size x) := X0
  have HY0 : Hid (RcAt ((w.alloc (.cells #[.int .i64 x.k, .string x.key, .string x.val, .int .i64 x.ch] 23)).alloc (.cells #[.int .i64 y.k, .string y.key, .string y.val, .int .i64 y.ch] 23)) (w.heap.size + 1) y) := Y0
  have H0 : Hid (Below w.heap.size w ((w.alloc (.cells #[.int .i64 x.k, .string x.key, .string x.val, .int .i64 x.ch] 23)).alloc (.cells #[.int .i64 y.k, .string y.key, .string y.val, .int .i64 y.ch] 23))) := B0
  clear X0 Y0 B0
  go_enter Try.func7, Try.ntmps7
  go_wp2_with (go_at_call 8; refine (awake_any _).mono ?_; rintro e w1 ⟨rfl, b1⟩; have H1 : Hid (Below ((w.alloc (.cells #[.int .i64 x.k, .string x.key, .string x.val, .int .i64 x.ch] 23)).alloc (.cells #[.int .i64 y.k, .string y.key, .string y.val, .int .i64 y.ch] 23)).heap.size ((w.alloc (.cells #[.int .i64 x.k, .string x.key, .string x.val, .int .i64 x.ch] 23)).alloc (.cells #[.int .i64 y.k, .string y.key, .string y.val, .int .i64 y.ch] 23)) w1) := b1; obtain ⟨c0, c1, c2, c3⟩ := (HX0.out.below b1).c; obtain ⟨d0, d1, d2, d3⟩ := (HY0.out.below b1).c; clear b1)
  go_ret
  exact ⟨rfl, bstep H0.out H1.out⟩
set_option maxRecDepth 100000 in
set_option maxHeartbeats 4000000 in
theorem turns_e2 (a : Option Addr) (len cap : Nat) (x y : Rc) (na nb : Nat) (w : World) (ha9 : na < 256) (hb9 : nb < 256) (g0 : ¬ (x.key.size : Int) > 100) (g1 : ¬ (x.val.size : Int) > 100) (g2 : (y.key.size : Int) > 100) :
    Calls Try.prog 7 #[.slice a len cap, .agg #[.int .i64 x.k, .string x.key, .string x.val, .int .i64 x.ch], .agg #[.int .i64 y.k, .string y.key, .string y.val, .int .i64 y.ch], .int .u8 (na : Int), .int .u8 (nb : Int)] w fun e w' => e = .returned (.bool true) ∧ Below w.heap.size w w' := by
  obtain ⟨X0, Y0, B0⟩ := unlike_start x y w _ rfl
  have HX0 : Hid (RcAt ((w.alloc (.cells #[.int .i64 x.k, .string x.key, .string x.val, .int .i64 x.ch] 23)).alloc (.cells #[.int .i64 y.k, .string y.key, .string y.val, .int .i64 y.ch] 23)) w.heap.size x) := X0
  have HY0 : Hid (RcAt ((w.alloc (.cells #[.int .i64 x.k, .string x.key, .string x.val, .int .i64 x.ch] 23)).alloc (.cells #[.int .i64 y.k, .string y.key, .string y.val, .int .i64 y.ch] 23)) (w.heap.size + 1) y) := Y0
  have H0 : Hid (Below w.heap.size w ((w.alloc (.cells #[.int .i64 x.k, .string x.key, .string x.val, .int .i64 x.ch] 23)).alloc (.cells #[.int .i64 y.k, .string y.key, .string y.val, .int .i64 y.ch] 23))) := B0
  clear X0 Y0 B0
  go_enter Try.func7, Try.ntmps7
  go_wp2_with (go_at_call 8; refine (awake_any _).mono ?_; rintro e w1 ⟨rfl, b1⟩; have H1 : Hid (Below ((w.alloc (.cells #[.int .i64 x.k, .string x.key, .string x.val, .int .i64 x.ch] 23)).alloc (.cells #[.int .i64 y.k, .string y.key, .string y.val, .int .i64 y.ch] 23)).heap.size ((w.alloc (.cells #[.int .i64 x.k, .string x.key, .string x.val, .int .i64 x.ch] 23)).alloc (.cells #[.int .i64 y.k, .string y.key, .string y.val, .int .i64 y.ch] 23)) w1) := b1; obtain ⟨c0, c1, c2, c3⟩ := (HX0.out.below b1).c; obtain ⟨d0, d1, d2, d3⟩ := (HY0.out.below b1).c; clear b1)
  go_ret
  exact ⟨rfl, bstep H0.out H1.out⟩
set_option maxRecDepth 100000 in
set_option maxHeartbeats 4000000 in
theorem turns_e3 (a : Option Addr) (len cap : Nat) (x y : Rc) (na nb : Nat) (w : World) (ha9 : na < 256) (hb9 : nb < 256) (g0 : ¬ (x.key.size : Int) > 100) (g1 : ¬ (x.val.size : Int) > 100) (g2 : ¬ (y.key.size : Int) > 100) (g3 : (y.val.size : Int) > 100) :
    Calls Try.prog 7 #[.slice a len cap, .agg #[.int .i64 x.k, .string x.key, .string x.val, .int .i64 x.ch], .agg #[.int .i64 y.k, .string y.key, .string y.val, .int .i64 y.ch], .int .u8 (na : Int), .int .u8 (nb : Int)] w fun e w' => e = .returned (.bool true) ∧ Below w.heap.size w w' := by
  obtain ⟨X0, Y0, B0⟩ := unlike_start x y w _ rfl
  have HX0 : Hid (RcAt ((w.alloc (.cells #[.int .i64 x.k, .string x.key, .string x.val, .int .i64 x.ch] 23)).alloc (.cells #[.int .i64 y.k, .string y.key, .string y.val, .int .i64 y.ch] 23)) w.heap.size x) := X0
  have HY0 : Hid (RcAt ((w.alloc (.cells #[.int .i64 x.k, .string x.key, .string x.val, .int .i64 x.ch] 23)).alloc (.cells #[.int .i64 y.k, .string y.key, .string y.val, .int .i64 y.ch] 23)) (w.heap.size + 1) y) := Y0
  have H0 : Hid (Below w.heap.size w ((w.alloc (.cells #[.int .i64 x.k, .string x.key, .string x.val, .int .i64 x.ch] 23)).alloc (.cells #[.int .i64 y.k, .string y.key, .string y.val, .int .i64 y.ch] 23))) := B0
  clear X0 Y0 B0
  go_enter Try.func7, Try.ntmps7
  go_wp2_with (go_at_call 8; refine (awake_any _).mono ?_; rintro e w1 ⟨rfl, b1⟩; have H1 : Hid (Below ((w.alloc (.cells #[.int .i64 x.k, .string x.key, .string x.val, .int .i64 x.ch] 23)).alloc (.cells #[.int .i64 y.k, .string y.key, .string y.val, .int .i64 y.ch] 23)).heap.size ((w.alloc (.cells #[.int .i64 x.k, .string x.key, .string x.val, .int .i64 x.ch] 23)).alloc (.cells #[.int .i64 y.k, .string y.key, .string y.val, .int .i64 y.ch] 23)) w1) := b1; obtain ⟨c0, c1, c2, c3⟩ := (HX0.out.below b1).c; obtain ⟨d0, d1, d2, d3⟩ := (HY0.out.below b1).c; clear b1)
  go_ret
  exact ⟨rfl, bstep H0.out H1.out⟩
set_option maxRecDepth 100000 in
set_option maxHeartbeats 4000000 in
theorem turns_e4 (a : Option Addr) (len cap : Nat) (x y : Rc) (na nb : Nat) (w : World) (ha9 : na < 256) (hb9 : nb < 256) (g0 : ¬ (x.key.size : Int) > 100) (g1 : ¬ (x.val.size : Int) > 100) (g2 : ¬ (y.key.size : Int) > 100) (g3 : ¬ (y.val.size : Int) > 100) (g4 : (len : Int) > 300) :
    Calls Try.prog 7 #[.slice a len cap, .agg #[.int .i64 x.k, .string x.key, .string x.val, .int .i64 x.ch], .agg #[.int .i64 y.k, .string y.key, .string y.val, .int .i64 y.ch], .int .u8 (na : Int), .int .u8 (nb : Int)] w fun e w' => e = .returned (.bool true) ∧ Below w.heap.size w w' := by
  obtain ⟨X0, Y0, B0⟩ := unlike_start x y w _ rfl
  have HX0 : Hid (RcAt ((w.alloc (.cells #[.int .i64 x.k, .string x.key, .string x.val, .int .i64 x.ch] 23)).alloc (.cells #[.int .i64 y.k, .string y.key, .string y.val, .int .i64 y.ch] 23)) w.heap.size x) := X0
  have HY0 : Hid (RcAt ((w.alloc (.cells #[.int .i64 x.k, .string x.key, .string x.val, .int .i64 x.ch] 23)).alloc (.cells #[.int .i64 y.k, .string y.key, .string y.val, .int .i64 y.ch] 23)) (w.heap.size + 1) y) := Y0
  have H0 : Hid (Below w.heap.size w ((w.alloc (.cells #[.int .i64 x.k, .string x.key, .string x.val, .int .i64 x.ch] 23)).alloc (.cells #[.int .i64 y.k, .string y.key, .string y.val, .int .i64 y.ch] 23))) := B0
  clear X0 Y0 B0
  go_enter Try.func7, Try.ntmps7
  go_wp2_with (go_at_call 8; refine (awake_any _).mono ?_; rintro e w1 ⟨rfl, b1⟩; have H1 : Hid (Below ((w.alloc (.cells #[.int .i64 x.k, .string x.key, .string x.val, .int .i64 x.ch] 23)).alloc (.cells #[.int .i64 y.k, .string y.key, .string y.val, .int .i64 y.ch] 23)).heap.size ((w.alloc (.cells #[.int .i64 x.k, .string x.key, .string x.val, .int .i64 x.ch] 23)).alloc (.cells #[.int .i64 y.k, .string y.key, .string y.val, .int .i64 y.ch] 23)) w1) := b1; obtain ⟨c0, c1, c2, c3⟩ := (HX0.out.below b1).c; obtain ⟨d0, d1, d2, d3⟩ := (HY0.out.below b1).c; clear b1)
  go_ret
  exact ⟨rfl, bstep H0.out H1.out⟩
set_option maxRecDepth 100000 in
set_option maxHeartbeats 4000000 in
theorem turns_e5 (a : Option Addr) (len cap : Nat) (x y : Rc) (na nb : Nat) (w : World) (ha9 : na < 256) (hb9 : nb < 256) (g0 : ¬ (x.key.size : Int) > 100) (g1 : ¬ (x.val.size : Int) > 100) (g2 : ¬ (y.key.size : Int) > 100) (g3 : ¬ (y.val.size : Int) > 100) (g4 : ¬ (len : Int) > 300) (g5 : ((len : Int) % 16 != 0) = true) :
    Calls Try.prog 7 #[.slice a len cap, .agg #[.int .i64 x.k, .string x.key, .string x.val, .int .i64 x.ch], .agg #[.int .i64 y.k, .string y.key, .string y.val, .int .i64 y.ch], .int .u8 (na : Int), .int .u8 (nb : Int)] w fun e w' => e = .returned (.bool true) ∧ Below w.heap.size w w' := by
  obtain ⟨X0, Y0, B0⟩ := unlike_start x y w _ rfl
  have HX0 : Hid (RcAt ((w.alloc (.cells #[.int .i64 x.k, .string x.key, .string x.val, .int .i64 x.ch] 23)).alloc (.cells #[.int .i64 y.k, .string y.key, .string y.val, .int .i64 y.ch] 23)) w.heap.size x) := X0
  have HY0 : Hid (RcAt ((w.alloc (.cells #[.int .i64 x.k, .string x.key, .string x.val, .int .i64 x.ch] 23)).alloc (.cells #[.int .i64 y.k, .string y.key, .string y.val, .int .i64 y.ch] 23)) (w.heap.size + 1) y) := Y0
  have H0 : Hid (Below w.heap.size w ((w.alloc (.cells #[.int .i64 x.k, .string x.key, .string x.val, .int .i64 x.ch] 23)).alloc (.cells #[.int .i64 y.k, .string y.key, .string y.val, .int .i64 y.ch] 23))) := B0
  clear X0 Y0 B0
  go_enter Try.func7, Try.ntmps7
  go_wp2_with (go_at_call 8; refine (awake_any _).mono ?_; rintro e w1 ⟨rfl, b1⟩; have H1 : Hid (Below ((w.alloc (.cells #[.int .i64 x.k, .string x.key, .string x.val, .int .i64 x.ch] 23)).alloc (.cells #[.int .i64 y.k, .string y.key, .string y.val, .int .i64 y.ch] 23)).heap.size ((w.alloc (.cells #[.int .i64 x.k, .string x.key, .string x.val, .int .i64 x.ch] 23)).alloc (.cells #[.int .i64 y.k, .string y.key, .string y.val, .int .i64 y.ch] 23)) w1) := b1; obtain ⟨c0, c1, c2, c3⟩ := (HX0.out.below b1).c; obtain ⟨d0, d1, d2, d3⟩ := (HY0.out.below b1).c; clear b1)
  go_ret
  exact ⟨rfl, bstep H0.out H1.out⟩
set_option maxRecDepth 100000 in
set_option maxHeartbeats 4000000 in
theorem turns_e6 (a : Option Addr) (len cap : Nat) (x y : Rc) (na nb : Nat) (w : World) (ha9 : na < 256) (hb9 : nb < 256) (g0 : ¬ (x.key.size : Int) > 100) (g1 : ¬ (x.val.size : Int) > 100) (g2 : ¬ (y.key.size : Int) > 100) (g3 : ¬ (y.val.size : Int) > 100) (g4 : ¬ (len : Int) > 300) (g5 : ((len : Int) % 16 != 0) = false) (g6 : (na : Int) ≥ (len : Int) / 16) :
    Calls Try.prog 7 #[.slice a len cap, .agg #[.int .i64 x.k, .string x.key, .string x.val, .int .i64 x.ch], .agg #[.int .i64 y.k, .string y.key, .string y.val, .int .i64 y.ch], .int .u8 (na : Int), .int .u8 (nb : Int)] w fun e w' => e = .returned (.bool true) ∧ Below w.heap.size w w' := by
  obtain ⟨X0, Y0, B0⟩ := unlike_start x y w _ rfl
  have HX0 : Hid (RcAt ((w.alloc (.cells #[.int .i64 x.k, .string x.key, .string x.val, .int .i64 x.ch] 23)).alloc (.cells #[.int .i64 y.k, .string y.key, .string y.val, .int .i64 y.ch] 23)) w.heap.size x) := X0
  have HY0 : Hid (RcAt ((w.alloc (.cells #[.int .i64 x.k, .string x.key, .string x.val, .int .i64 x.ch] 23)).alloc (.cells #[.int .i64 y.k, .string y.key, .string y.val, .int .i64 y.ch] 23)) (w.heap.size + 1) y) := Y0
  have H0 : Hid (Below w.heap.size w ((w.alloc (.cells #[.int .i64 x.k, .string x.key, .string x.val, .int .i64 x.ch] 23)).alloc (.cells #[.int .i64 y.k, .string y.key, .string y.val, .int .i64 y.ch] 23))) := B0
  clear X0 Y0 B0
  go_enter Try.func7, Try.ntmps7
  go_wp2_with (go_at_call 8; refine (awake_any _).mono ?_; rintro e w1 ⟨rfl, b1⟩; have H1 : Hid (Below ((w.alloc (.cells #[.int .i64 x.k, .string x.key, .string x.val, .int .i64 x.ch] 23)).alloc (.cells #[.int .i64 y.k, .string y.key, .string y.val, .int .i64 y.ch] 23)).heap.size ((w.alloc (.cells #[.int .i64 x.k, .string x.key, .string x.val, .int .i64 x.ch] 23)).alloc (.cells #[.int .i64 y.k, .string y.key, .string y.val, .int .i64 y.ch] 23)) w1) := b1; obtain ⟨c0, c1, c2, c3⟩ := (HX0.out.below b1).c; obtain ⟨d0, d1, d2, d3⟩ := (HY0.out.below b1).c; clear b1)
  go_ret
  exact ⟨rfl, bstep H0.out H1.out⟩
set_option maxRecDepth 100000 in
set_option maxHeartbeats 4000000 in
theorem turns_e7 (a : Option Addr) (len cap : Nat) (x y : Rc) (na nb : Nat) (w : World) (ha9 : na < 256) (hb9 : nb < 256) (g0 : ¬ (x.key.size : Int) > 100) (g1 : ¬ (x.val.size : Int) > 100) (g2 : ¬ (y.key.size : Int) > 100) (g3 : ¬ (y.val.size : Int) > 100) (g4 : ¬ (len : Int) > 300) (g5 : ((len : Int) % 16 != 0) = false) (g6 : ¬ (na : Int) ≥ (len : Int) / 16) (g7 : (nb : Int) ≥ (len : Int) / 16) :
    Calls Try.prog 7 #[.slice a len cap, .agg #[.int .i64 x.k, .string x.key, .string x.val, .int .i64 x.ch], .agg #[.int .i64 y.k, .string y.key, .string y.val, .int .i64 y.ch], .int .u8 (na : Int), .int .u8 (nb : Int)] w fun e w' => e = .returned (.bool true) ∧ Below w.heap.size w w' := by
  obtain ⟨X0, Y0, B0⟩ := unlike_start x y w _ rfl
  have HX0 : Hid (RcAt ((w.alloc (.cells #[.int .i64 x.k, .string x.key, .string x.val, .int .i64 x.ch] 23)).alloc (.cells #[.int .i64 y.k, .string y.key, .string y.val, .int .i64 y.ch] 23)) w.heap.size x) := X0
  have HY0 : Hid (RcAt ((w.alloc (.cells #[.int .i64 x.k, .string x.key, .string x.val, .int .i64 x.ch] 23)).alloc (.cells #[.int .i64 y.k, .string y.key, .string y.val, .int .i64 y.ch] 23)) (w.heap.size + 1) y) := Y0
  have H0 : Hid (Below w.heap.size w ((w.alloc (.cells #[.int .i64 x.k, .string x.key, .string x.val, .int .i64 x.ch] 23)).alloc (.cells #[.int .i64 y.k, .string y.key, .string y.val, .int .i64 y.ch] 23))) := B0
  clear X0 Y0 B0
  go_enter Try.func7, Try.ntmps7
  go_wp2_with (go_at_call 8; refine (awake_any _).mono ?_; rintro e w1 ⟨rfl, b1⟩; have H1 : Hid (Below ((w.alloc (.cells #[.int .i64 x.k, .string x.key, .string x.val, .int .i64 x.ch] 23)).alloc (.cells #[.int .i64 y.k, .string y.key, .string y.val, .int .i64 y.ch] 23)).heap.size ((w.alloc (.cells #[.int .i64 x.k, .string x.key, .string x.val, .int .i64 x.ch] 23)).alloc (.cells #[.int .i64 y.k, .string y.key, .string y.val, .int .i64 y.ch] 23)) w1) := b1; obtain ⟨c0, c1, c2, c3⟩ := (HX0.out.below b1).c; obtain ⟨d0, d1, d2, d3⟩ := (HY0.out.below b1).c; clear b1)
  go_ret
  exact ⟨rfl, bstep H0.out H1.out⟩
set_option maxRecDepth 100000 in
set_option maxHeartbeats 16000000 in
theorem walk_RecTurns (a : Option Addr) (len cap : Nat) (x y : Rc) (za zb : Int) (w : World) (hK : KeepIn w a len cap) (fa : (Lit.int .u8 za).wf = true) (fb : (Lit.int .u8 zb).wf = true) :
    Calls Try.prog 7 #[.slice a len cap, .agg #[.int .i64 x.k, .string x.key, .string x.val, .int .i64 x.ch], .agg #[.int .i64 y.k, .string y.key, .string y.val, .int .i64 y.ch], .int .u8 za, .int .u8 zb] w fun e w' => e = .returned (.bool true) ∧ Below w.heap.size w w' := by
  obtain ⟨na, rfl, ha9⟩ := wf_u8 fa
  obtain ⟨nb, rfl, hb9⟩ := wf_u8 fb
  obtain ⟨X0, Y0, B0⟩ := unlike_start x y w _ rfl
  have HX0 : Hid (RcAt ((w.alloc (.cells #[.int .i64 x.k, .string x.key, .string x.val, .int .i64 x.ch] 23)).alloc (.cells #[.int .i64 y.k, .string y.key, .string y.val, .int .i64 y.ch] 23)) w.heap.size x) := X0
  have HY0 : Hid (RcAt ((w.alloc (.cells #[.int .i64 x.k, .string x.key, .string x.val, .int .i64 x.ch] 23)).alloc (.cells #[.int .i64 y.k, .string y.key, .string y.val, .int .i64 y.ch] 23)) (w.heap.size + 1) y) := Y0
  have H0 : Hid (Below w.heap.size w ((w.alloc (.cells #[.int .i64 x.k, .string x.key, .string x.val, .int .i64 x.ch] 23)).alloc (.cells #[.int .i64 y.k, .string y.key, .string y.val, .int .i64 y.ch] 23))) := B0
  clear fa fb X0 Y0 B0
  by_cases g0 : (x.key.size : Int) > 100
  · exact turns_e0 a len cap x y na nb w ha9 hb9 g0
  · by_cases g1 : (x.val.size : Int) > 100
    · exact turns_e1 a len cap x y na nb w ha9 hb9 g0 g1
    · by_cases g2 : (y.key.size : Int) > 100
      · exact turns_e2 a len cap x y na nb w ha9 hb9 g0 g1 g2
      · by_cases g3 : (y.val.size : Int) > 100
        · exact turns_e3 a len cap x y na nb w ha9 hb9 g0 g1 g2 g3
        · by_cases g4 : (len : Int) > 300
          · exact turns_e4 a len cap x y na nb w ha9 hb9 g0 g1 g2 g3 g4
          · obtain ⟨zs, rfl, R0, F0⟩ := hK (by omega)
            have F0 : Fits zs := F0
            by_cases g5 : ((zs.length : Int) % 16 != 0) = true
            · exact turns_e5 a zs.length cap x y na nb w ha9 hb9 g0 g1 g2 g3 g4 g5
            · have g5 : ((zs.length : Int) % 16 != 0) = false := by simpa using g5
              by_cases g6 : (na : Int) ≥ (zs.length : Int) / 16
              · exact turns_e6 a zs.length cap x y na nb w ha9 hb9 g0 g1 g2 g3 g4 g5 g6
              · by_cases g7 : (nb : Int) ≥ (zs.length : Int) / 16
                · exact turns_e7 a zs.length cap x y na nb w ha9 hb9 g0 g1 g2 g3 g4 g5 g6 g7
                · have h8 : Hid (zs.length % 8 = 0) := show _ = _ by simp at g5; omega
                  have ha : Hid (16 * na + 16 ≤ zs.length) := show _ ≤ _ by omega
                  have hb : Hid (16 * nb + 16 ≤ zs.length) := show _ ≤ _ by omega
                  have hl : Hid (zs.length ≤ 300) := show _ ≤ _ by omega
                  have HR0 : Hid (Rd w (.slice a zs.length cap) zs) := R0
                  clear R0 hK
                  have t1 : Hid (0 = 0) := rfl
                  rcases wEs_01 x with ⟨ex, fx⟩ | ⟨ex, fx⟩
                  · rcases wEs_01 y with ⟨ey, fy⟩ | ⟨ey, fy⟩
                    · have hx := rcB_iff.1 ex
                      have hy := rcB_iff.1 ey
                      have lx := sL_length na hx
                      have ly := sL_length nb hy
                      have HLx : Hid ((sL na x).length = 18) := lx
                      have HLy : Hid ((sL nb y).length = 18) := ly
                      clear lx ly
                      have t2 : Hid (0 = 0) := rfl
                      go_enter Try.func7, Try.ntmps7
                      go_wp2_with (first
                        | (go_at_call 8; refine (awake_any _).mono ?_; rintro e w1 ⟨rfl, b1⟩; have H1 : Hid (Below ((w.alloc (.cells #[.int .i64 x.k, .string x.key, .string x.val, .int .i64 x.ch] 23)).alloc (.cells #[.int .i64 y.k, .string y.key, .string y.val, .int .i64 y.ch] 23)).heap.size ((w.alloc (.cells #[.int .i64 x.k, .string x.key, .string x.val, .int .i64 x.ch] 23)).alloc (.cells #[.int .i64 y.k, .string y.key, .string y.val, .int .i64 y.ch] 23)) w1) := b1; obtain ⟨c0, c1, c2, c3⟩ := (HX0.out.below b1).c; obtain ⟨d0, d1, d2, d3⟩ := (HY0.out.below b1).c; clear b1)
                        | (go_at_call 9; clear t1; refine (wordsr_any x _).mono ?_; rintro e w2 ⟨v2, rfl, R2, b2⟩; rw [fx]; have HP2 : Hid (Rd w2 v2 (wLs x)) := R2; have H2 : Hid (Below w1.heap.size w1 w2) := b2; obtain ⟨d0, d1, d2, d3⟩ := (HY0.out.below (bstep H1.out H2.out)).c; clear R2 b2)
                        | (go_at_call 9; refine (wordsr_any y _).mono ?_; rintro e w3 ⟨v3, rfl, R3, b3⟩; rw [fy]; have HQ3 : Hid (Rd w3 v3 (wLs y)) := R3; have H3 : Hid (Below w2.heap.size w2 w3) := b3; clear R3 b3)
                        | (go_at_call 13; clear t2; refine (steps_lay na _ x _ (HP2.out.below H3.out) hx ha9).mono ?_; rintro e w4 ⟨v4, rfl, R4, b4⟩; have HS4 : Hid (RdS w4 v4 (sL na x)) := R4; have H4 : Hid (Below w3.heap.size w3 w4) := b4; clear R4 b4)
                        | (go_at_call 13; refine (steps_lay nb _ y _ (HQ3.out.below H4.out) hy hb9).mono ?_; rintro e w5 ⟨v5, rfl, R5, b5⟩; have HT5 : Hid (RdS w5 v5 (sL nb y)) := R5; have H5 : Hid (Below w4.heap.size w4 w5) := b5; clear R5 b5)
                        | (go_at_call 19; refine (new_all _ zs _ (HR0.out.below (bstep H0.out (bstep (bstep (bstep (bstep H1.out H2.out) H3.out) H4.out) H5.out))) (by have := hl.out; omega) h8.out).mono ?_; rintro e w6 ⟨a1, c1, a2, c2, a3, c3, rfl, R6, b6⟩; have HM6 : Hid (RdM w6 (.slice a1 zs.length c1) (.slice a2 zs.length c2) (.slice a3 0 c3) (allM zs)) := R6; have H6 : Hid (Below w5.heap.size w5 w6) := b6; have HO7 : Hid (Bo (w6.alloc (.cells #[.slice a1 zs.length c1, .slice a2 zs.length c2, .slice a3 0 c3] 40)) w6.heap.size (.slice a1 zs.length c1) (.slice a2 zs.length c2) (.slice a3 0 c3)) := Bo.new _ _ _ _; have H7 : Hid (Below w6.heap.size w6 (w6.alloc (.cells #[.slice a1 zs.length c1, .slice a2 zs.length c2, .slice a3 0 c3] 40))) := (Below.refl _ _).alloc (Nat.le_refl _) _; clear R6 b6))
                      have HBr : Hid (Below w.heap.size w (w6.alloc (.cells #[.slice a1 zs.length c1, .slice a2 zs.length c2, .slice a3 0 c3] 40))) := bstep H0.out (bstep (bstep (bstep (bstep (bstep (bstep H1.out H2.out) H3.out) H4.out) H5.out) H6.out) H7.out)
                      have HXx : Hid (RcAt (w6.alloc (.cells #[.slice a1 zs.length c1, .slice a2 zs.length c2, .slice a3 0 c3] 40)) w.heap.size x) := HX0.out.below (bstep (bstep (bstep (bstep (bstep (bstep H1.out H2.out) H3.out) H4.out) H5.out) H6.out) H7.out)
                      have HYy : Hid (RcAt (w6.alloc (.cells #[.slice a1 zs.length c1, .slice a2 zs.length c2, .slice a3 0 c3] 40)) (w.heap.size + 1) y) := HY0.out.below (bstep (bstep (bstep (bstep (bstep (bstep H1.out H2.out) H3.out) H4.out) H5.out) H6.out) H7.out)
                      have HSr : Hid (RdS (w6.alloc (.cells #[.slice a1 zs.length c1, .slice a2 zs.length c2, .slice a3 0 c3] 40)) v4 (sL na x)) := HS4.out.below (bstep (bstep H5.out H6.out) H7.out)
                      have HTr : Hid (RdS (w6.alloc (.cells #[.slice a1 zs.length c1, .slice a2 zs.length c2, .slice a3 0 c3] 40)) v5 (sL nb y)) := HT5.out.below (bstep H6.out H7.out)
                      have HMr : Hid (RdM (w6.alloc (.cells #[.slice a1 zs.length c1, .slice a2 zs.length c2, .slice a3 0 c3] 40)) (.slice a1 zs.length c1) (.slice a2 zs.length c2) (.slice a3 0 c3) (allM zs)) := HM6.out.below H7.out
                      clear H1 H2 H3 H4 H5 H6 H7 HX0 HY0 H0 HS4 HT5 HM6 HP2 HQ3 HR0 g0 g1 g2 g3 g4 g5 g6 g7
                      have lt0 : w6.heap.size < (w6.alloc (.cells #[.slice a1 zs.length c1, .slice a2 zs.length c2, .slice a3 0 c3] 40)).heap.size := HO7.out.lt
                      generalize (w6.alloc (.cells #[.slice a1 zs.length c1, .slice a2 zs.length c2, .slice a3 0 c3] 40)) = wr at *
                      generalize w6.heap.size = bm at *
                      have hl1 : (sL na x).length ≤ 2000 := by rw [HLx.out]; omega
                      have hl3 : (sL na x ++ sL nb y).length ≤ 1000 := by rw [List.length_append, HLx.out, HLy.out]; omega
                      go_cut [22, 23] (fun sp se wx => ∃ bz g1 h1 g2 h2 g3 h3, sp = .pointer (some ⟨bz, 0, none⟩) ∧ se = .int .i64 0 ∧ Below wr.heap.size wr wx ∧ RdM wx (.slice g1 zs.length h1) (.slice g2 zs.length h2) (.slice g3 0 h3) (allM (layW (layW zs na (imL x)) nb (imL y))) ∧ Bo wx bz (.slice g1 zs.length h1) (.slice g2 zs.length h2) (.slice g3 0 h3))
                      case first =>
                        as_aux_lemma =>
                          obtain ⟨⟨z0, z1, z2⟩, -⟩ := HO7.out.bx
                          have HS0 : Hid (wr.drew.cell? ⟨bm, 0, none⟩ = some (.slice a1 zs.length c1) ∧ wr.drew.cell? ⟨bm, 1, none⟩ = some (.slice a2 zs.length c2) ∧ wr.drew.cell? ⟨bm, 2, none⟩ = some (.slice a3 0 c3)) := ⟨z0, z1, z2⟩
                          go_region_held3 (fun W => W.cell? ⟨bm, 0, none⟩ = some (.slice a1 zs.length c1) ∧ W.cell? ⟨bm, 1, none⟩ = some (.slice a2 zs.length c2) ∧ W.cell? ⟨bm, 2, none⟩ = some (.slice a3 0 c3))
                            (first | exact HS0.out | (with_reducible exact keep9 (HO7.out.below H6.out) hz.out _ _ _) | exact (HO7.out.below (by ((repeat (first | exact Below.refl _ _ | exact H6.out | exact HT2.out | exact HT1.out | with_reducible refine Below.dr ?_ | with_reducible refine Below.al _ ?_)); all_goals fail))).bx.1)
                            (first
                            | (refine step_rds0 rfl (.tmp 121) (.tmp 122) rfl _ _ (sL na x) rfl rfl (hp_drew (hp_new rfl)) (HSr.out.below (by ((repeat (first | exact Below.refl _ _ | with_reducible refine Below.dr ?_ | with_reducible refine Below.al _ ?_)); all_goals fail))) ?_; intro q1 e1 r1 o1 gr1 at1; have HT1 : Hid (Below wr.heap.size wr r1) := Below.gr (by ((repeat (first | exact Below.refl _ _ | with_reducible refine Below.dr ?_ | with_reducible refine Below.al _ ?_)); all_goals fail)) gr1 (by simp); have HO1 : Hid (OwnS r1 _ (.slice (some ⟨q1, 0, none⟩) (sL na x).length e1) (sL na x)) := o1; have q1lt : Hid (q1 < r1.heap.size) := (World.ownsRow.lt o1 q1 rfl).2; have HG1 : Hid (World.grownBy _ r1 _) := gr1; (try simp at at1); have q1le : Hid (wr.heap.size ≤ q1) := (by show _ ≤ _; omega); have at1 : Hid _ := at1; clear o1 gr1)
                            | (refine step_rds0 rfl (.tmp 121) (.tmp 122) rfl _ _ (sL na x) rfl rfl (hp_drew (hp_new (World.size_alloc _ _).symm)) (HSr.out.below (by ((repeat (first | exact Below.refl _ _ | with_reducible refine Below.dr ?_ | with_reducible refine Below.al _ ?_)); all_goals fail))) ?_; intro q1 e1 r1 o1 gr1 at1; have HT1 : Hid (Below wr.heap.size wr r1) := Below.gr (by ((repeat (first | exact Below.refl _ _ | with_reducible refine Below.dr ?_ | with_reducible refine Below.al _ ?_)); all_goals fail)) gr1 (by simp); have HO1 : Hid (OwnS r1 _ (.slice (some ⟨q1, 0, none⟩) (sL na x).length e1) (sL na x)) := o1; have q1lt : Hid (q1 < r1.heap.size) := (World.ownsRow.lt o1 q1 rfl).2; have HG1 : Hid (World.grownBy _ r1 _) := gr1; (try simp at at1); have q1le : Hid (wr.heap.size ≤ q1) := (by show _ ≤ _; omega); have at1 : Hid _ := at1; clear o1 gr1)
                            | (refine step_rds0 rfl (.tmp 121) (.tmp 122) rfl _ _ (sL na x) rfl rfl (hp_drew (hp_old (hp_new rfl))) (HSr.out.below (by ((repeat (first | exact Below.refl _ _ | with_reducible refine Below.dr ?_ | with_reducible refine Below.al _ ?_)); all_goals fail))) ?_; intro q1 e1 r1 o1 gr1 at1; have HT1 : Hid (Below wr.heap.size wr r1) := Below.gr (by ((repeat (first | exact Below.refl _ _ | with_reducible refine Below.dr ?_ | with_reducible refine Below.al _ ?_)); all_goals fail)) gr1 (by simp); have HO1 : Hid (OwnS r1 _ (.slice (some ⟨q1, 0, none⟩) (sL na x).length e1) (sL na x)) := o1; have q1lt : Hid (q1 < r1.heap.size) := (World.ownsRow.lt o1 q1 rfl).2; have HG1 : Hid (World.grownBy _ r1 _) := gr1; (try simp at at1); have q1le : Hid (wr.heap.size ≤ q1) := (by show _ ≤ _; omega); have at1 : Hid _ := at1; clear o1 gr1)
                            | (refine step_rds1 rfl (.tmp 123) (.tmp 124) rfl _ q1 e1 (sL na x) rfl (HO1.out.below (by ((repeat (first | exact Below.refl _ _ | with_reducible refine Below.dr ?_ | with_reducible refine Below.al _ ?_)); all_goals fail))) hl1 _ (sL nb y) rfl (HTr.out.below (by ((repeat (first | exact Below.refl _ _ | exact HT1.out | with_reducible refine Below.dr ?_ | with_reducible refine Below.al _ ?_)); all_goals fail))) ?_; intro q2 e2 r2 o2 gr2; have HT2 : Hid (Below wr.heap.size wr r2) := Below.gr (by ((repeat (first | exact Below.refl _ _ | exact HT1.out | with_reducible refine Below.dr ?_ | with_reducible refine Below.al _ ?_)); all_goals fail)) gr2 q1le.out; have HO2 : Hid (OwnS r2 _ (.slice (some ⟨q2, 0, none⟩) ((sL na x).length + (sL nb y).length) e2) ((sL na x) ++ (sL nb y))) := o2; have HG2 : Hid (World.grownBy _ r2 _) := gr2; clear o2 gr2)
                            | (go_at_call 20; refine (run_two _ _ _ _ zs x y na nb _ (HMr.out.below (by ((repeat (first | exact Below.refl _ _ | exact HT2.out | with_reducible refine Below.dr ?_ | with_reducible refine Below.al _ ?_)); all_goals fail))) ((HO2.out.below (by ((repeat (first | exact Below.refl _ _ | with_reducible refine Below.dr ?_ | with_reducible refine Below.al _ ?_)); all_goals fail))).rd hl3) hl.out h8.out ha.out hb.out hx hy).mono ?_; rintro e w6 ⟨g1, h1, g2, h2, g3, h3, rfl, R6, hb6⟩; have H6 : Hid (Below wr.heap.size wr w6) := bstep (by ((repeat (first | exact Below.refl _ _ | exact HT2.out | with_reducible refine Below.dr ?_ | with_reducible refine Below.al _ ?_)); all_goals fail)) hb6; (try (have HZ6 : Hid (Bo w6 r2.heap.size (.slice none 0 0) (.slice none 0 0) (.slice none 0 0)) := hp_below hb6 (hp_new rfl); have hz : Hid (bm ≠ r2.heap.size) := Nat.ne_of_lt (Nat.lt_of_lt_of_le lt0 HT2.out.size); have hz2 : Hid (wr.heap.size ≤ r2.heap.size) := HT2.out.size; obtain ⟨⟨t0, t1, t2⟩, tf0, tf1, tf2⟩ := HZ6.out.bx)); (try (have HZ6 : Hid (Bo w6 r1.heap.size (.slice none 0 0) (.slice none 0 0) (.slice none 0 0)) := hp_below hb6 (hp_grown' HG2.out (Nat.ne_of_gt q1lt.out) (hp_new rfl)); have hz : Hid (bm ≠ r1.heap.size) := Nat.ne_of_lt (Nat.lt_of_lt_of_le lt0 HT1.out.size); have hz2 : Hid (wr.heap.size ≤ r1.heap.size) := HT1.out.size; obtain ⟨⟨t0, t1, t2⟩, tf0, tf1, tf2⟩ := HZ6.out.bx)); (try (have HZ6 : Hid (Bo w6 (wr.heap.size + 1) (.slice none 0 0) (.slice none 0 0) (.slice none 0 0)) := hp_below hb6 (hp_grown' HG2.out (ne2 at1.out) (hp_grown' HG1.out (Nat.succ_ne_self _) (bo_second _ _))); have hz : Hid (bm ≠ (wr.heap.size + 1)) := Nat.ne_of_lt (Nat.lt_succ_of_lt lt0); have hz2 : Hid (wr.heap.size ≤ (wr.heap.size + 1)) := Nat.le_succ _; obtain ⟨⟨t0, t1, t2⟩, tf0, tf1, tf2⟩ := HZ6.out.bx)); (try (have HZ6 : Hid (Bo w6 wr.heap.size (.slice none 0 0) (.slice none 0 0) (.slice none 0 0)) := hp_below hb6 (hp_grown' HG2.out (ne1 at1.out) (hp_grown' HG1.out (Nat.ne_of_lt (Nat.lt_succ_self _)) (bo_first _ _))); have hz : Hid (bm ≠ wr.heap.size) := Nat.ne_of_lt lt0; have hz2 : Hid (wr.heap.size ≤ wr.heap.size) := Nat.le_refl _; obtain ⟨⟨t0, t1, t2⟩, tf0, tf1, tf2⟩ := HZ6.out.bx)); have HR6 : Hid (RdM w6 (.slice g1 zs.length h1) (.slice g2 zs.length h2) (.slice g3 0 h3) (allM (layW (layW zs na (imL x)) nb (imL y)))) := R6; clear R6 hb6))
                          all_goals
                            go_wp2_with fail
                            go_meet
                            first
                              | exact ⟨_, _, _, _, _, _, _, rfl, rfl, S3.below H6.out hz2.out _ _ _, HR6.out.box HZ6.out _ _ _, HZ6.out.set _ _ _⟩
                              | exact ⟨_, _, _, _, _, _, _, rfl, rfl, bstep H6.out ((Below.refl _ _).alloc (Nat.le_refl _) _), HR6.out.below ((Below.refl _ _).alloc (Nat.le_refl _) _), Bo.new w6 _ _ _⟩
                      case rest =>
                        generalize wc = wd at hcut ⊢
                        obtain ⟨bz, e1, f1, e2, f2, e3, f3, rfl, rfl, hBd, hRd, hNd⟩ := hcut
                        have HBd : Hid (Below wr.heap.size wr wd) := hBd
                        have HRd : Hid (RdM wd (.slice e1 zs.length f1) (.slice e2 zs.length f2) (.slice e3 0 f3) (allM (layW (layW zs na (imL x)) nb (imL y)))) := hRd
                        have HNd : Hid (Bo wd bz (.slice e1 zs.length f1) (.slice e2 zs.length f2) (.slice e3 0 f3)) := hNd
                        have HSc : Hid (RdS wd v4 (sL na x)) := HSr.out.below hBd
                        have HTc : Hid (RdS wd v5 (sL nb y)) := HTr.out.below hBd
                        have HMc : Hid (RdM wd (.slice a1 zs.length c1) (.slice a2 zs.length c2) (.slice a3 0 c3) (allM zs)) := HMr.out.below hBd
                        have HOc : Hid (Bo wd bm (.slice a1 zs.length c1) (.slice a2 zs.length c2) (.slice a3 0 c3)) := HO7.out.below hBd
                        have HXd : Hid (RcAt wd w.heap.size x) := HXx.out.below hBd
                        have HYd : Hid (RcAt wd (w.heap.size + 1) y) := HYy.out.below hBd
                        have HB9 : Hid (Below w.heap.size w wd) := bstep HBr.out hBd
                        have lt1 : bm < wd.heap.size := HOc.out.lt
                        clear hBd hRd hNd HSr HTr HMr HO7 HXx HYy HBr HBd lt0 hl1 hl3
                        have hl1 : (sL nb y).length ≤ 2000 := by rw [HLy.out]; omega
                        have hl3 : (sL nb y ++ sL na x).length ≤ 1000 := by rw [List.length_append, HLx.out, HLy.out]; omega
                        go_upto_region 12 with fail
                        go_cut [24, 25] (fun sp se wx => ∃ bz g1 h1 g2 h2 g3 h3, sp = .pointer (some ⟨bz, 0, none⟩) ∧ se = .int .i64 0 ∧ Below wd.heap.size wd wx ∧ RdM wx (.slice g1 zs.length h1) (.slice g2 zs.length h2) (.slice g3 0 h3) (allM (layW (layW zs nb (imL y)) na (imL x))) ∧ Bo wx bz (.slice g1 zs.length h1) (.slice g2 zs.length h2) (.slice g3 0 h3))
                        case first =>
                          as_aux_lemma =>
                            obtain ⟨⟨z0, z1, z2⟩, -⟩ := HOc.out.bx
                            have HS0 : Hid (wd.drew.cell? ⟨bm, 0, none⟩ = some (.slice a1 zs.length c1) ∧ wd.drew.cell? ⟨bm, 1, none⟩ = some (.slice a2 zs.length c2) ∧ wd.drew.cell? ⟨bm, 2, none⟩ = some (.slice a3 0 c3)) := ⟨z0, z1, z2⟩
                            go_region_held3 (fun W => W.cell? ⟨bm, 0, none⟩ = some (.slice a1 zs.length c1) ∧ W.cell? ⟨bm, 1, none⟩ = some (.slice a2 zs.length c2) ∧ W.cell? ⟨bm, 2, none⟩ = some (.slice a3 0 c3))
                              (first | exact HS0.out | (with_reducible exact keep9 (HOc.out.below H6.out) hz.out _ _ _) | exact (HOc.out.below (by ((repeat (first | exact Below.refl _ _ | exact H6.out | exact HT2.out | exact HT1.out | with_reducible refine Below.dr ?_ | with_reducible refine Below.al _ ?_)); all_goals fail))).bx.1)
                              (first
                              | (refine step_rds0 rfl (.tmp 131) (.tmp 132) rfl _ _ (sL nb y) rfl rfl (hp_drew (hp_new rfl)) (HTc.out.below (by ((repeat (first | exact Below.refl _ _ | with_reducible refine Below.dr ?_ | with_reducible refine Below.al _ ?_)); all_goals fail))) ?_; intro q1 e1 r1 o1 gr1 at1; have HT1 : Hid (Below wd.heap.size wd r1) := Below.gr (by ((repeat (first | exact Below.refl _ _ | with_reducible refine Below.dr ?_ | with_reducible refine Below.al _ ?_)); all_goals fail)) gr1 (by simp); have HO1 : Hid (OwnS r1 _ (.slice (some ⟨q1, 0, none⟩) (sL nb y).length e1) (sL nb y)) := o1; have q1lt : Hid (q1 < r1.heap.size) := (World.ownsRow.lt o1 q1 rfl).2; have HG1 : Hid (World.grownBy _ r1 _) := gr1; (try simp at at1); have q1le : Hid (wd.heap.size ≤ q1) := (by show _ ≤ _; omega); have at1 : Hid _ := at1; clear o1 gr1)
                              | (refine step_rds0 rfl (.tmp 131) (.tmp 132) rfl _ _ (sL nb y) rfl rfl (hp_drew (hp_new (World.size_alloc _ _).symm)) (HTc.out.below (by ((repeat (first | exact Below.refl _ _ | with_reducible refine Below.dr ?_ | with_reducible refine Below.al _ ?_)); all_goals fail))) ?_; intro q1 e1 r1 o1 gr1 at1; have HT1 : Hid (Below wd.heap.size wd r1) := Below.gr (by ((repeat (first | exact Below.refl _ _ | with_reducible refine Below.dr ?_ | with_reducible refine Below.al _ ?_)); all_goals fail)) gr1 (by simp); have HO1 : Hid (OwnS r1 _ (.slice (some ⟨q1, 0, none⟩) (sL nb y).length e1) (sL nb y)) := o1; have q1lt : Hid (q1 < r1.heap.size) := (World.ownsRow.lt o1 q1 rfl).2; have HG1 : Hid (World.grownBy _ r1 _) := gr1; (try simp at at1); have q1le : Hid (wd.heap.size ≤ q1) := (by show _ ≤ _; omega); have at1 : Hid _ := at1; clear o1 gr1)
                              | (refine step_rds0 rfl (.tmp 131) (.tmp 132) rfl _ _ (sL nb y) rfl rfl (hp_drew (hp_old (hp_new rfl))) (HTc.out.below (by ((repeat (first | exact Below.refl _ _ | with_reducible refine Below.dr ?_ | with_reducible refine Below.al _ ?_)); all_goals fail))) ?_; intro q1 e1 r1 o1 gr1 at1; have HT1 : Hid (Below wd.heap.size wd r1) := Below.gr (by ((repeat (first | exact Below.refl _ _ | with_reducible refine Below.dr ?_ | with_reducible refine Below.al _ ?_)); all_goals fail)) gr1 (by simp); have HO1 : Hid (OwnS r1 _ (.slice (some ⟨q1, 0, none⟩) (sL nb y).length e1) (sL nb y)) := o1; have q1lt : Hid (q1 < r1.heap.size) := (World.ownsRow.lt o1 q1 rfl).2; have HG1 : Hid (World.grownBy _ r1 _) := gr1; (try simp at at1); have q1le : Hid (wd.heap.size ≤ q1) := (by show _ ≤ _; omega); have at1 : Hid _ := at1; clear o1 gr1)
                              | (refine step_rds1 rfl (.tmp 133) (.tmp 134) rfl _ q1 e1 (sL nb y) rfl (HO1.out.below (by ((repeat (first | exact Below.refl _ _ | with_reducible refine Below.dr ?_ | with_reducible refine Below.al _ ?_)); all_goals fail))) hl1 _ (sL na x) rfl (HSc.out.below (by ((repeat (first | exact Below.refl _ _ | exact HT1.out | with_reducible refine Below.dr ?_ | with_reducible refine Below.al _ ?_)); all_goals fail))) ?_; intro q2 e2 r2 o2 gr2; have HT2 : Hid (Below wd.heap.size wd r2) := Below.gr (by ((repeat (first | exact Below.refl _ _ | exact HT1.out | with_reducible refine Below.dr ?_ | with_reducible refine Below.al _ ?_)); all_goals fail)) gr2 q1le.out; have HO2 : Hid (OwnS r2 _ (.slice (some ⟨q2, 0, none⟩) ((sL nb y).length + (sL na x).length) e2) ((sL nb y) ++ (sL na x))) := o2; have HG2 : Hid (World.grownBy _ r2 _) := gr2; clear o2 gr2)
                              | (go_at_call 20; refine (run_two _ _ _ _ zs y x nb na _ (HMc.out.below (by ((repeat (first | exact Below.refl _ _ | exact HT2.out | with_reducible refine Below.dr ?_ | with_reducible refine Below.al _ ?_)); all_goals fail))) ((HO2.out.below (by ((repeat (first | exact Below.refl _ _ | with_reducible refine Below.dr ?_ | with_reducible refine Below.al _ ?_)); all_goals fail))).rd hl3) hl.out h8.out hb.out ha.out hy hx).mono ?_; rintro e w6 ⟨g1, h1, g2, h2, g3, h3, rfl, R6, hb6⟩; have H6 : Hid (Below wd.heap.size wd w6) := bstep (by ((repeat (first | exact Below.refl _ _ | exact HT2.out | with_reducible refine Below.dr ?_ | with_reducible refine Below.al _ ?_)); all_goals fail)) hb6; (try (have HZ6 : Hid (Bo w6 r2.heap.size (.slice none 0 0) (.slice none 0 0) (.slice none 0 0)) := hp_below hb6 (hp_new rfl); have hz : Hid (bm ≠ r2.heap.size) := Nat.ne_of_lt (Nat.lt_of_lt_of_le lt1 HT2.out.size); have hz2 : Hid (wd.heap.size ≤ r2.heap.size) := HT2.out.size; obtain ⟨⟨t0, t1, t2⟩, tf0, tf1, tf2⟩ := HZ6.out.bx)); (try (have HZ6 : Hid (Bo w6 r1.heap.size (.slice none 0 0) (.slice none 0 0) (.slice none 0 0)) := hp_below hb6 (hp_grown' HG2.out (Nat.ne_of_gt q1lt.out) (hp_new rfl)); have hz : Hid (bm ≠ r1.heap.size) := Nat.ne_of_lt (Nat.lt_of_lt_of_le lt1 HT1.out.size); have hz2 : Hid (wd.heap.size ≤ r1.heap.size) := HT1.out.size; obtain ⟨⟨t0, t1, t2⟩, tf0, tf1, tf2⟩ := HZ6.out.bx)); (try (have HZ6 : Hid (Bo w6 (wd.heap.size + 1) (.slice none 0 0) (.slice none 0 0) (.slice none 0 0)) := hp_below hb6 (hp_grown' HG2.out (ne2 at1.out) (hp_grown' HG1.out (Nat.succ_ne_self _) (bo_second _ _))); have hz : Hid (bm ≠ (wd.heap.size + 1)) := Nat.ne_of_lt (Nat.lt_succ_of_lt lt1); have hz2 : Hid (wd.heap.size ≤ (wd.heap.size + 1)) := Nat.le_succ _; obtain ⟨⟨t0, t1, t2⟩, tf0, tf1, tf2⟩ := HZ6.out.bx)); (try (have HZ6 : Hid (Bo w6 wd.heap.size (.slice none 0 0) (.slice none 0 0) (.slice none 0 0)) := hp_below hb6 (hp_grown' HG2.out (ne1 at1.out) (hp_grown' HG1.out (Nat.ne_of_lt (Nat.lt_succ_self _)) (bo_first _ _))); have hz : Hid (bm ≠ wd.heap.size) := Nat.ne_of_lt lt1; have hz2 : Hid (wd.heap.size ≤ wd.heap.size) := Nat.le_refl _; obtain ⟨⟨t0, t1, t2⟩, tf0, tf1, tf2⟩ := HZ6.out.bx)); have HR6 : Hid (RdM w6 (.slice g1 zs.length h1) (.slice g2 zs.length h2) (.slice g3 0 h3) (allM (layW (layW zs nb (imL y)) na (imL x)))) := R6; clear R6 hb6))
                            all_goals
                              go_wp2_with fail
                              go_meet
                              first
                                | exact ⟨_, _, _, _, _, _, _, rfl, rfl, S3.below H6.out hz2.out _ _ _, HR6.out.box HZ6.out _ _ _, HZ6.out.set _ _ _⟩
                                | exact ⟨_, _, _, _, _, _, _, rfl, rfl, bstep H6.out ((Below.refl _ _).alloc (Nat.le_refl _) _), HR6.out.below ((Below.refl _ _).alloc (Nat.le_refl _) _), Bo.new w6 _ _ _⟩
                        case rest =>
                          obtain ⟨bq, p1, q1, p2, q2, p3, q3, rfl, rfl, hBe, hRe, hNe⟩ := hcut
                          have HRe : Hid (RdM wc (.slice p1 zs.length q1) (.slice p2 zs.length q2) (.slice p3 0 q3) (allM (layW (layW zs nb (imL y)) na (imL x)))) := hRe
                          have HNe : Hid (Bo wc bq (.slice p1 zs.length q1) (.slice p2 zs.length q2) (.slice p3 0 q3)) := hNe
                          have HRf : Hid (RdM wc (.slice e1 zs.length f1) (.slice e2 zs.length f2) (.slice e3 0 f3) (allM (layW (layW zs na (imL x)) nb (imL y)))) := HRd.out.below hBe
                          have HNf : Hid (Bo wc bz (.slice e1 zs.length f1) (.slice e2 zs.length f2) (.slice e3 0 f3)) := HNd.out.below hBe
                          have HXf : Hid (RcAt wc w.heap.size x) := HXd.out.below hBe
                          have HYf : Hid (RcAt wc (w.heap.size + 1) y) := HYd.out.below hBe
                          have HBf : Hid (Below w.heap.size w wc) := bstep HB9.out hBe
                          obtain ⟨n0, n1, n2⟩ := HNf.out.c
                          clear hBe hRe hNe HRd HNd HXd HYd HB9 HSc HTc HMc HOc lt1 hl1 hl3
                          have lx := imL_length hx
                          have ly := imL_length hy
                          have l1 := layW_length (W := zs) ha.out lx
                          have l2 := layW_length (W := zs) hb.out ly
                          have L1 : Hid ((layW (layW zs na (imL x)) nb (imL y)).length = zs.length) := show _ = _ by rw [layW_length (by rw [l1]; exact hb.out) ly, l1]
                          have L2 : Hid ((layW (layW zs nb (imL y)) na (imL x)).length = zs.length) := show _ = _ by rw [layW_length (by rw [l2]; exact ha.out) lx, l2]
                          have E1 : Hid (blk (layW (layW zs na (imL x)) nb (imL y)) nb = imL y) := show _ = _ from layW_blk (by rw [l1]; exact hb.out) ly
                          have E2 : Hid (blk (layW (layW zs nb (imL y)) na (imL x)) na = imL x) := show _ = _ from layW_blk (by rw [l2]; exact ha.out) lx
                          have E3 : Hid (na ≠ nb → blk (layW (layW zs na (imL x)) nb (imL y)) na = imL x) := show _ → _ from fun h => by
                            rw [layW_other (by rw [l1]; exact hb.out) ly (fun e => h e.symm)]
                            exact layW_blk ha.out lx
                          have E4 : Hid (na ≠ nb → layW (layW zs na (imL x)) nb (imL y) = layW (layW zs nb (imL y)) na (imL x)) := show _ → _ from fun h => layW_comm ha.out hb.out lx ly h
                          have F1 : Fits (layW (layW zs na (imL x)) nb (imL y)) := layW_fits (layW_fits F0 (imL_fits hx) na) (imL_fits hy) nb
                          have F2 : Fits (layW (layW zs nb (imL y)) na (imL x)) := layW_fits (layW_fits F0 (imL_fits hy) nb) (imL_fits hx) na
                          clear lx ly l1 l2
                          generalize layW (layW zs na (imL x)) nb (imL y) = U at *
                          generalize layW (layW zs nb (imL y)) na (imL x) = V at *
                          have qx := fun w => eq23 x x w
                          have qy := fun w => eq23 y y w
                          simp only [decide_eq_true] at qx qy
                          have t3 : Hid (0 = 0) := rfl
                          have t4 : Hid (0 = 0) := rfl
                          have t5 : Hid (0 = 0) := rfl
                          by_cases hab : na = nb
                          · subst hab
                            as_aux_lemma =>
                              go_wp2_with (first
                                | (go_at_call 11; clear t3; refine (read_in _ U y na _ (HRf.out.per.below (Below.refl _ _)) hy F1 (by rw [L1.out]; exact hb.out) hb9 E1.out).mono ?_; rintro e w8 ⟨rfl, bb⟩; have G1 : Hid (Below wc.heap.size wc w8) := bb; have G2 : Hid (Below w8.heap.size w8 (w8.alloc (.cells #[.int .i64 y.k, .string y.key, .string y.val, .int .i64 y.ch] 23))) := (Below.refl _ _).alloc (Nat.le_refl _) _; have K2 : Hid (RcAt (w8.alloc (.cells #[.int .i64 y.k, .string y.key, .string y.val, .int .i64 y.ch] 23)) w8.heap.size y) := rc_new w8 y; obtain ⟨m0, m1, m2⟩ := (HNe.out.below (bstep G1.out G2.out)).c; clear bb)
                                | (go_at_call 11; clear t4; refine (read_in _ V x na _ (HRe.out.per.below (bstep G1.out G2.out)) hx F2 (by rw [L2.out]; exact ha.out) ha9 E2.out).mono ?_; rintro e w9 ⟨rfl, bb⟩; have G3 : Hid (Below (w8.alloc (.cells #[.int .i64 y.k, .string y.key, .string y.val, .int .i64 y.ch] 23)).heap.size (w8.alloc (.cells #[.int .i64 y.k, .string y.key, .string y.val, .int .i64 y.ch] 23)) w9) := bb; have G4 : Hid (Below w9.heap.size w9 (w9.alloc (.cells #[.int .i64 x.k, .string x.key, .string x.val, .int .i64 x.ch] 23))) := (Below.refl _ _).alloc (Nat.le_refl _) _; have K4 : Hid (RcAt (w9.alloc (.cells #[.int .i64 x.k, .string x.key, .string x.val, .int .i64 x.ch] 23)) w9.heap.size x) := rc_new w9 x; obtain ⟨k0, k1, k2⟩ := (HNf.out.below (bstep (bstep (bstep G1.out G2.out) G3.out) G4.out)).c; clear bb)
                                | (go_at_call 11; clear t5; refine (read_in _ U y na _ (HRf.out.per.below (bstep (bstep (bstep G1.out G2.out) G3.out) G4.out)) hy F1 (by rw [L1.out]; exact ha.out) ha9 E1.out).mono ?_; rintro e w10 ⟨rfl, bb⟩; have G5 : Hid (Below (w9.alloc (.cells #[.int .i64 x.k, .string x.key, .string x.val, .int .i64 x.ch] 23)).heap.size (w9.alloc (.cells #[.int .i64 x.k, .string x.key, .string x.val, .int .i64 x.ch] 23)) w10) := bb; have G6 : Hid (Below w10.heap.size w10 (w10.alloc (.cells #[.int .i64 y.k, .string y.key, .string y.val, .int .i64 y.ch] 23))) := (Below.refl _ _).alloc (Nat.le_refl _) _; have K6 : Hid (RcAt (w10.alloc (.cells #[.int .i64 y.k, .string y.key, .string y.val, .int .i64 y.ch] 23)) w10.heap.size y) := rc_new w10 y; obtain ⟨j0, j1, j2⟩ := (HNf.out.below (bstep (bstep (bstep (bstep (bstep G1.out G2.out) G3.out) G4.out) G5.out) G6.out)).c; obtain ⟨i0, i1, i2⟩ := (HNe.out.below (bstep (bstep (bstep (bstep (bstep G1.out G2.out) G3.out) G4.out) G5.out) G6.out)).c; obtain ⟨x0, x1, x2, x3⟩ := (HXf.out.below (bstep (bstep (bstep (bstep (bstep G1.out G2.out) G3.out) G4.out) G5.out) G6.out)).c; obtain ⟨y0, y1, y2, y3⟩ := (HYf.out.below (bstep (bstep (bstep (bstep (bstep G1.out G2.out) G3.out) G4.out) G5.out) G6.out)).c; obtain ⟨o0, o1, o2, o3⟩ := (K2.out.below (bstep (bstep (bstep G3.out G4.out) G5.out) G6.out)).c; obtain ⟨u0, u1, u2, u3⟩ := (K4.out.below (bstep G5.out G6.out)).c; clear bb))
                              go_ret
                              exact ⟨rfl, bstep HBf.out (bstep (bstep (bstep (bstep (bstep G1.out G2.out) G3.out) G4.out) G5.out) G6.out)⟩
                          · have dE : ((na : Int) == (nb : Int)) = false := by simp; omega
                            have dN : ((na : Int) != (nb : Int)) = true := by simp; omega
                            as_aux_lemma =>
                              go_wp2_with (first
                                | (go_at_call 11; clear t3; refine (read_in _ U y nb _ (HRf.out.per.below (Below.refl _ _)) hy F1 (by rw [L1.out]; exact hb.out) hb9 E1.out).mono ?_; rintro e w8 ⟨rfl, bb⟩; have G1 : Hid (Below wc.heap.size wc w8) := bb; have G2 : Hid (Below w8.heap.size w8 (w8.alloc (.cells #[.int .i64 y.k, .string y.key, .string y.val, .int .i64 y.ch] 23))) := (Below.refl _ _).alloc (Nat.le_refl _) _; have K2 : Hid (RcAt (w8.alloc (.cells #[.int .i64 y.k, .string y.key, .string y.val, .int .i64 y.ch] 23)) w8.heap.size y) := rc_new w8 y; obtain ⟨m0, m1, m2⟩ := (HNe.out.below (bstep G1.out G2.out)).c; clear bb)
                                | (go_at_call 11; clear t4; refine (read_in _ V x na _ (HRe.out.per.below (bstep G1.out G2.out)) hx F2 (by rw [L2.out]; exact ha.out) ha9 E2.out).mono ?_; rintro e w9 ⟨rfl, bb⟩; have G3 : Hid (Below (w8.alloc (.cells #[.int .i64 y.k, .string y.key, .string y.val, .int .i64 y.ch] 23)).heap.size (w8.alloc (.cells #[.int .i64 y.k, .string y.key, .string y.val, .int .i64 y.ch] 23)) w9) := bb; have G4 : Hid (Below w9.heap.size w9 (w9.alloc (.cells #[.int .i64 x.k, .string x.key, .string x.val, .int .i64 x.ch] 23))) := (Below.refl _ _).alloc (Nat.le_refl _) _; have K4 : Hid (RcAt (w9.alloc (.cells #[.int .i64 x.k, .string x.key, .string x.val, .int .i64 x.ch] 23)) w9.heap.size x) := rc_new w9 x; obtain ⟨k0, k1, k2⟩ := (HNf.out.below (bstep (bstep (bstep G1.out G2.out) G3.out) G4.out)).c; clear bb)
                                | (go_at_call 11; clear t5; refine (read_in _ U x na _ (HRf.out.per.below (bstep (bstep (bstep G1.out G2.out) G3.out) G4.out)) hx F1 (by rw [L1.out]; exact ha.out) ha9 (E3.out hab)).mono ?_; rintro e w10 ⟨rfl, bb⟩; have G5 : Hid (Below (w9.alloc (.cells #[.int .i64 x.k, .string x.key, .string x.val, .int .i64 x.ch] 23)).heap.size (w9.alloc (.cells #[.int .i64 x.k, .string x.key, .string x.val, .int .i64 x.ch] 23)) w10) := bb; have G6 : Hid (Below w10.heap.size w10 (w10.alloc (.cells #[.int .i64 x.k, .string x.key, .string x.val, .int .i64 x.ch] 23))) := (Below.refl _ _).alloc (Nat.le_refl _) _; have K6 : Hid (RcAt (w10.alloc (.cells #[.int .i64 x.k, .string x.key, .string x.val, .int .i64 x.ch] 23)) w10.heap.size x) := rc_new w10 x; obtain ⟨j0, j1, j2⟩ := (HNf.out.below (bstep (bstep (bstep (bstep (bstep G1.out G2.out) G3.out) G4.out) G5.out) G6.out)).c; obtain ⟨i0, i1, i2⟩ := (HNe.out.below (bstep (bstep (bstep (bstep (bstep G1.out G2.out) G3.out) G4.out) G5.out) G6.out)).c; obtain ⟨x0, x1, x2, x3⟩ := (HXf.out.below (bstep (bstep (bstep (bstep (bstep G1.out G2.out) G3.out) G4.out) G5.out) G6.out)).c; obtain ⟨y0, y1, y2, y3⟩ := (HYf.out.below (bstep (bstep (bstep (bstep (bstep G1.out G2.out) G3.out) G4.out) G5.out) G6.out)).c; obtain ⟨o0, o1, o2, o3⟩ := (K2.out.below (bstep (bstep (bstep G3.out G4.out) G5.out) G6.out)).c; obtain ⟨u0, u1, u2, u3⟩ := (K4.out.below (bstep G5.out G6.out)).c; clear bb)
                                | (go_at_call 17; refine (numbers_any _ _ U V _ (HRf.out.per.below (bstep (bstep (bstep (bstep (bstep G1.out G2.out) G3.out) G4.out) G5.out) G6.out)) (HRe.out.per.below (bstep (bstep (bstep (bstep (bstep G1.out G2.out) G3.out) G4.out) G5.out) G6.out))).mono ?_; rintro e wn ⟨rfl, bn⟩; rw [decide_eq_true (E4.out hab)]))
                              go_ret
                              exact ⟨rfl, bstep HBf.out (bstep (bstep (bstep (bstep (bstep (bstep G1.out G2.out) G3.out) G4.out) G5.out) G6.out) bn)⟩
                    · go_enter Try.func7, Try.ntmps7
                      go_wp2_with (first
                        | (go_at_call 8; refine (awake_any _).mono ?_; rintro e w1 ⟨rfl, b1⟩; have H1 : Hid (Below ((w.alloc (.cells #[.int .i64 x.k, .string x.key, .string x.val, .int .i64 x.ch] 23)).alloc (.cells #[.int .i64 y.k, .string y.key, .string y.val, .int .i64 y.ch] 23)).heap.size ((w.alloc (.cells #[.int .i64 x.k, .string x.key, .string x.val, .int .i64 x.ch] 23)).alloc (.cells #[.int .i64 y.k, .string y.key, .string y.val, .int .i64 y.ch] 23)) w1) := b1; obtain ⟨c0, c1, c2, c3⟩ := (HX0.out.below b1).c; obtain ⟨d0, d1, d2, d3⟩ := (HY0.out.below b1).c; clear b1)
                        | (go_at_call 9; clear t1; refine (wordsr_any x _).mono ?_; rintro e w2 ⟨v2, rfl, R2, b2⟩; rw [fx]; have HP2 : Hid (Rd w2 v2 (wLs x)) := R2; have H2 : Hid (Below w1.heap.size w1 w2) := b2; obtain ⟨d0, d1, d2, d3⟩ := (HY0.out.below (bstep H1.out H2.out)).c; clear R2 b2)
                        | (go_at_call 9; refine (wordsr_any y _).mono ?_; rintro e w3 ⟨v3, rfl, R3, b3⟩; rw [fy]; have HQ3 : Hid (Rd w3 v3 (wLs y)) := R3; have H3 : Hid (Below w2.heap.size w2 w3) := b3; clear R3 b3))
                      go_ret
                      exact ⟨rfl, bstep H0.out (bstep (bstep H1.out H2.out) H3.out)⟩
                  · go_enter Try.func7, Try.ntmps7
                    go_wp2_with (first
                      | (go_at_call 8; refine (awake_any _).mono ?_; rintro e w1 ⟨rfl, b1⟩; have H1 : Hid (Below ((w.alloc (.cells #[.int .i64 x.k, .string x.key, .string x.val, .int .i64 x.ch] 23)).alloc (.cells #[.int .i64 y.k, .string y.key, .string y.val, .int .i64 y.ch] 23)).heap.size ((w.alloc (.cells #[.int .i64 x.k, .string x.key, .string x.val, .int .i64 x.ch] 23)).alloc (.cells #[.int .i64 y.k, .string y.key, .string y.val, .int .i64 y.ch] 23)) w1) := b1; obtain ⟨c0, c1, c2, c3⟩ := (HX0.out.below b1).c; obtain ⟨d0, d1, d2, d3⟩ := (HY0.out.below b1).c; clear b1)
                      | (go_at_call 9; clear t1; refine (wordsr_any x _).mono ?_; rintro e w2 ⟨v2, rfl, R2, b2⟩; rw [fx]; have HP2 : Hid (Rd w2 v2 (wLs x)) := R2; have H2 : Hid (Below w1.heap.size w1 w2) := b2; obtain ⟨d0, d1, d2, d3⟩ := (HY0.out.below (bstep H1.out H2.out)).c; clear R2 b2)
                      | (go_at_call 9; refine (wordsr_any y _).mono ?_; rintro e w3 ⟨v3, rfl, R3, b3⟩; have HQ3 : Hid (Rd w3 v3 (wLs y)) := R3; have H3 : Hid (Below w2.heap.size w2 w3) := b3; clear R3 b3))
                    go_ret
                    exact ⟨rfl, bstep H0.out (bstep (bstep H1.out H2.out) H3.out)⟩
end Go.Proofs.Ytmhojhpfkieioaa
