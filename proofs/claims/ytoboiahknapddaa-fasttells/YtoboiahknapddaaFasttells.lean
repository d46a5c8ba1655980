/- Walk of FastTells. -/
import Derived.Test.YtoboiahknapddaaFasth
import Derived.Test.YtoboiahknapddaaMemin
namespace Go.Proofs.Ytoboiahknapddaa
open Go.RowKit Go.Shelf Classical
set_option linter.unusedVariables false

set_option maxRecDepth 100000 in
set_option maxHeartbeats 8000000 in
theorem walk_FastTells (aw : Option Addr) (lw cw : Nat) (b : Int) (a : Option Addr) (len cap : Nat) (p r : Int) (w : World) (hW : KeepIn w aw lw cw) (hK : KeepIn w a len cap) : Calls Try.prog 3 #[.slice aw lw cw, .int .i64 b, .slice a len cap, .int .i64 p, .int .i64 r] w fun e w' => e = .returned (.bool true) ∧ Below w.heap.size w w' := by
  have HB0 : Hid (Below w.heap.size w w) := Below.refl _ _
  by_cases h1 : (300 : Int) < (lw : Int)
  · go_enter Try.func3, Try.ntmps3
    go_wp2_with (first
      | (go_at_call 9; refine (awake_any _).mono ?_; rintro e w1 ⟨rfl, hbw⟩; have HB1 : Hid (Below w.heap.size w w1) := bstep HB0.out hbw; clear hbw))
    go_ret
    exact ⟨rfl, HB1.out⟩
  by_cases h2 : (100 : Int) < (len : Int)
  · go_enter Try.func3, Try.ntmps3
    go_wp2_with (first
      | (go_at_call 9; refine (awake_any _).mono ?_; rintro e w1 ⟨rfl, hbw⟩; have HB1 : Hid (Below w.heap.size w w1) := bstep HB0.out hbw; clear hbw))
    go_ret
    exact ⟨rfl, HB1.out⟩
  obtain ⟨ws, hlw, hRw, _⟩ := hW (by omega)
  obtain ⟨l, hl, hR, _⟩ := hK (by omega)
  subst hlw
  subst hl
  have FW0 : Hid (Rd w (.slice aw ws.length cw) ws) := hRw
  have FL0 : Hid (Rd w (.slice a l.length cap) l) := hR
  clear hR hRw
  have t1 : Hid (0 = 0) := rfl
  have t2 : Hid (0 = 0) := rfl
  have t3 : Hid (0 = 0) := rfl
  have t4 : Hid (0 = 0) := rfl
  have t5 : Hid (0 = 0) := rfl
  have t6 : Hid (0 = 0) := rfl
  go_enter Try.func3, Try.ntmps3
  go_wp2_with (first
    | (go_at_call 9; refine (awake_any _).mono ?_; rintro e w1 ⟨rfl, hbw⟩; have HB1 : Hid (Below w.heap.size w w1) := bstep HB0.out hbw; have FW1 : Hid (Rd w1 (.slice aw ws.length cw) ws) := FW0.out.below hbw; have FL1 : Hid (Rd w1 (.slice a l.length cap) l) := FL0.out.below hbw; clear hbw)
    | (go_at_call 10; refine (insert_any b _ l p r _ FL1.out).mono ?_; rintro e w2 ⟨vA, rfl, R, hbw⟩; have HB2 : Hid (Below w.heap.size w w2) := bstep HB1.out hbw; have FW2 : Hid (Rd w2 (.slice aw ws.length cw) ws) := FW1.out.below hbw; have FL2 : Hid (Rd w2 (.slice a l.length cap) l) := FL1.out.below hbw; have FA2 : Hid (RdS w2 vA (insS b l p r)) := R; clear R; clear hbw)
    | (go_at_call 11; refine (insertR_any b _ l p r _ FL2.out).mono ?_; rintro e w3 ⟨vB, rfl, R, hbw⟩; have HB3 : Hid (Below w.heap.size w w3) := bstep HB2.out hbw; have FW3 : Hid (Rd w3 (.slice aw ws.length cw) ws) := FW2.out.below hbw; have FL3 : Hid (Rd w3 (.slice a l.length cap) l) := FL2.out.below hbw; have FA3 : Hid (RdS w3 vA (insS b l p r)) := FA2.out.below hbw; have FB3 : Hid (RdS w3 vB (insS b l p r)) := R; clear R; clear hbw)
    | (go_at_call 12; refine (delete_any b _ l p _ FL3.out).mono ?_; rintro e w4 ⟨vC, rfl, R, hbw⟩; have HB4 : Hid (Below w.heap.size w w4) := bstep HB3.out hbw; have FW4 : Hid (Rd w4 (.slice aw ws.length cw) ws) := FW3.out.below hbw; have FL4 : Hid (Rd w4 (.slice a l.length cap) l) := FL3.out.below hbw; have FA4 : Hid (RdS w4 vA (insS b l p r)) := FA3.out.below hbw; have FB4 : Hid (RdS w4 vB (insS b l p r)) := FB3.out.below hbw; have FC4 : Hid (RdS w4 vC (delS b l p)) := R; clear R; clear hbw)
    | (go_at_call 13; refine (deleteR_any b _ l p _ FL4.out).mono ?_; rintro e w5 ⟨vD, rfl, R, hbw⟩; have HB5 : Hid (Below w.heap.size w w5) := bstep HB4.out hbw; have FW5 : Hid (Rd w5 (.slice aw ws.length cw) ws) := FW4.out.below hbw; have FL5 : Hid (Rd w5 (.slice a l.length cap) l) := FL4.out.below hbw; have FA5 : Hid (RdS w5 vA (insS b l p r)) := FA4.out.below hbw; have FB5 : Hid (RdS w5 vB (insS b l p r)) := FB4.out.below hbw; have FC5 : Hid (RdS w5 vC (delS b l p)) := FC4.out.below hbw; have FD5 : Hid (RdS w5 vD (delS b l p)) := R; clear R; clear hbw)
    | (go_at_call 14; refine (swap_any b _ l p r _ FL5.out).mono ?_; rintro e w6 ⟨vP, rfl, R, hbw⟩; have HB6 : Hid (Below w.heap.size w w6) := bstep HB5.out hbw; have FW6 : Hid (Rd w6 (.slice aw ws.length cw) ws) := FW5.out.below hbw; have FL6 : Hid (Rd w6 (.slice a l.length cap) l) := FL5.out.below hbw; have FA6 : Hid (RdS w6 vA (insS b l p r)) := FA5.out.below hbw; have FB6 : Hid (RdS w6 vB (insS b l p r)) := FB5.out.below hbw; have FC6 : Hid (RdS w6 vC (delS b l p)) := FC5.out.below hbw; have FD6 : Hid (RdS w6 vD (delS b l p)) := FD5.out.below hbw; have FP6 : Hid (RdS w6 vP (swpS b l p r)) := R; clear R; clear hbw)
    | (go_at_call 15; refine (swapR_any b _ l p r _ FL6.out).mono ?_; rintro e w7 ⟨vQ, rfl, R, hbw⟩; have HB7 : Hid (Below w.heap.size w w7) := bstep HB6.out hbw; have FW7 : Hid (Rd w7 (.slice aw ws.length cw) ws) := FW6.out.below hbw; have FL7 : Hid (Rd w7 (.slice a l.length cap) l) := FL6.out.below hbw; have FA7 : Hid (RdS w7 vA (insS b l p r)) := FA6.out.below hbw; have FB7 : Hid (RdS w7 vB (insS b l p r)) := FB6.out.below hbw; have FC7 : Hid (RdS w7 vC (delS b l p)) := FC6.out.below hbw; have FD7 : Hid (RdS w7 vD (delS b l p)) := FD6.out.below hbw; have FP7 : Hid (RdS w7 vP (swpS b l p r)) := FP6.out.below hbw; have FQ7 : Hid (RdS w7 vQ (swpS b l p r)) := R; clear R; clear hbw)
    | (go_at_call 16; refine (cut_any b _ l p _ FL7.out).mono ?_; rintro e w8 ⟨vX, rfl, R, hbw⟩; have HB8 : Hid (Below w.heap.size w w8) := bstep HB7.out hbw; have FW8 : Hid (Rd w8 (.slice aw ws.length cw) ws) := FW7.out.below hbw; have FL8 : Hid (Rd w8 (.slice a l.length cap) l) := FL7.out.below hbw; have FA8 : Hid (RdS w8 vA (insS b l p r)) := FA7.out.below hbw; have FB8 : Hid (RdS w8 vB (insS b l p r)) := FB7.out.below hbw; have FC8 : Hid (RdS w8 vC (delS b l p)) := FC7.out.below hbw; have FD8 : Hid (RdS w8 vD (delS b l p)) := FD7.out.below hbw; have FP8 : Hid (RdS w8 vP (swpS b l p r)) := FP7.out.below hbw; have FQ8 : Hid (RdS w8 vQ (swpS b l p r)) := FQ7.out.below hbw; have FX8 : Hid (RdS w8 vX (cutS b l p)) := R; clear R; clear hbw)
    | (go_at_call 17; refine (cutR_any b _ l p _ FL8.out).mono ?_; rintro e w9 ⟨vY, rfl, R, hbw⟩; have HB9 : Hid (Below w.heap.size w w9) := bstep HB8.out hbw; have FW9 : Hid (Rd w9 (.slice aw ws.length cw) ws) := FW8.out.below hbw; have FL9 : Hid (Rd w9 (.slice a l.length cap) l) := FL8.out.below hbw; have FA9 : Hid (RdS w9 vA (insS b l p r)) := FA8.out.below hbw; have FB9 : Hid (RdS w9 vB (insS b l p r)) := FB8.out.below hbw; have FC9 : Hid (RdS w9 vC (delS b l p)) := FC8.out.below hbw; have FD9 : Hid (RdS w9 vD (delS b l p)) := FD8.out.below hbw; have FP9 : Hid (RdS w9 vP (swpS b l p r)) := FP8.out.below hbw; have FQ9 : Hid (RdS w9 vQ (swpS b l p r)) := FQ8.out.below hbw; have FX9 : Hid (RdS w9 vX (cutS b l p)) := FX8.out.below hbw; have FY9 : Hid (RdS w9 vY (cutS b l p)) := R; clear R; clear hbw)
    | (go_at_call 18; clear t1; refine (sameS_any _ _ (insS b l p r) (insS b l p r) _ FA9.out FB9.out).mono ?_; rintro e w10 ⟨rfl, hbw⟩; have HB10 : Hid (Below w.heap.size w w10) := bstep HB9.out hbw; have FW10 : Hid (Rd w10 (.slice aw ws.length cw) ws) := FW9.out.below hbw; have FL10 : Hid (Rd w10 (.slice a l.length cap) l) := FL9.out.below hbw; have FC10 : Hid (RdS w10 vC (delS b l p)) := FC9.out.below hbw; have FD10 : Hid (RdS w10 vD (delS b l p)) := FD9.out.below hbw; have FP10 : Hid (RdS w10 vP (swpS b l p r)) := FP9.out.below hbw; have FQ10 : Hid (RdS w10 vQ (swpS b l p r)) := FQ9.out.below hbw; have FX10 : Hid (RdS w10 vX (cutS b l p)) := FX9.out.below hbw; have FY10 : Hid (RdS w10 vY (cutS b l p)) := FY9.out.below hbw; rw [decide_eq_true rfl]; clear hbw)
    | (go_at_call 18; clear t2; refine (sameS_any _ _ (delS b l p) (delS b l p) _ FC10.out FD10.out).mono ?_; rintro e w11 ⟨rfl, hbw⟩; have HB11 : Hid (Below w.heap.size w w11) := bstep HB10.out hbw; have FW11 : Hid (Rd w11 (.slice aw ws.length cw) ws) := FW10.out.below hbw; have FL11 : Hid (Rd w11 (.slice a l.length cap) l) := FL10.out.below hbw; have FP11 : Hid (RdS w11 vP (swpS b l p r)) := FP10.out.below hbw; have FQ11 : Hid (RdS w11 vQ (swpS b l p r)) := FQ10.out.below hbw; have FX11 : Hid (RdS w11 vX (cutS b l p)) := FX10.out.below hbw; have FY11 : Hid (RdS w11 vY (cutS b l p)) := FY10.out.below hbw; rw [decide_eq_true rfl]; clear hbw)
    | (go_at_call 18; clear t3; refine (sameS_any _ _ (swpS b l p r) (swpS b l p r) _ FP11.out FQ11.out).mono ?_; rintro e w12 ⟨rfl, hbw⟩; have HB12 : Hid (Below w.heap.size w w12) := bstep HB11.out hbw; have FW12 : Hid (Rd w12 (.slice aw ws.length cw) ws) := FW11.out.below hbw; have FL12 : Hid (Rd w12 (.slice a l.length cap) l) := FL11.out.below hbw; have FX12 : Hid (RdS w12 vX (cutS b l p)) := FX11.out.below hbw; have FY12 : Hid (RdS w12 vY (cutS b l p)) := FY11.out.below hbw; rw [decide_eq_true rfl]; clear hbw)
    | (go_at_call 18; clear t4; refine (sameS_any _ _ (cutS b l p) (cutS b l p) _ FX12.out FY12.out).mono ?_; rintro e w13 ⟨rfl, hbw⟩; have HB13 : Hid (Below w.heap.size w w13) := bstep HB12.out hbw; have FW13 : Hid (Rd w13 (.slice aw ws.length cw) ws) := FW12.out.below hbw; have FL13 : Hid (Rd w13 (.slice a l.length cap) l) := FL12.out.below hbw; rw [decide_eq_true rfl]; clear hbw)
    | (go_at_call 19; refine (place_any b p _).mono ?_; rintro e w' ⟨rfl, hw⟩; rw [hw]; clear hw w')
    | (go_at_call 20; refine (placeR_any b p _).mono ?_; rintro e w' ⟨rfl, hw⟩; rw [hw]; clear hw w')
    | (go_at_call 22; refine (slots_any _ ws b _ FW13.out).mono ?_; rintro e w14 ⟨vS, rfl, R, hbw⟩; have HB14 : Hid (Below w.heap.size w w14) := bstep HB13.out hbw; have FW14 : Hid (Rd w14 (.slice aw ws.length cw) ws) := FW13.out.below hbw; have FL14 : Hid (Rd w14 (.slice a l.length cap) l) := FL13.out.below hbw; have FS14 : Hid (Rd w14 vS (slN ws b)) := R; clear R; clear hbw)
    | (go_at_call 23; refine (slotsR_any _ ws b _ FW14.out).mono ?_; rintro e w15 ⟨vT, rfl, R, hbw⟩; have HB15 : Hid (Below w.heap.size w w15) := bstep HB14.out hbw; have FW15 : Hid (Rd w15 (.slice aw ws.length cw) ws) := FW14.out.below hbw; have FL15 : Hid (Rd w15 (.slice a l.length cap) l) := FL14.out.below hbw; have FS15 : Hid (Rd w15 vS (slN ws b)) := FS14.out.below hbw; have FT15 : Hid (Rd w15 vT (slN ws b)) := R; clear R; clear hbw)
    | (go_at_call 21; clear t5; refine (numbers_any _ _ (slN ws b) (slN ws b) _ FS15.out FT15.out).mono ?_; rintro e w16 ⟨rfl, hbw⟩; have HB16 : Hid (Below w.heap.size w w16) := bstep HB15.out hbw; have FW16 : Hid (Rd w16 (.slice aw ws.length cw) ws) := FW15.out.below hbw; have FL16 : Hid (Rd w16 (.slice a l.length cap) l) := FL15.out.below hbw; rw [decide_eq_true rfl]; clear hbw)
    | (go_at_call 24; refine (plain_any _ l _ FL16.out).mono ?_; rintro e w17 ⟨vU, rfl, R, hbw⟩; have HB17 : Hid (Below w.heap.size w w17) := bstep HB16.out hbw; have FW17 : Hid (Rd w17 (.slice aw ws.length cw) ws) := FW16.out.below hbw; have FL17 : Hid (Rd w17 (.slice a l.length cap) l) := FL16.out.below hbw; have FU17 : Hid (Rd w17 vU (plN l)) := R; clear R; clear hbw)
    | (go_at_call 25; refine (plainR_any _ l _ FL17.out).mono ?_; rintro e w18 ⟨vV, rfl, R, hbw⟩; have HB18 : Hid (Below w.heap.size w w18) := bstep HB17.out hbw; have FW18 : Hid (Rd w18 (.slice aw ws.length cw) ws) := FW17.out.below hbw; have FL18 : Hid (Rd w18 (.slice a l.length cap) l) := FL17.out.below hbw; have FU18 : Hid (Rd w18 vU (plN l)) := FU17.out.below hbw; have FV18 : Hid (Rd w18 vV (plN l)) := R; clear R; clear hbw)
    | (go_at_call 21; clear t6; refine (numbers_any _ _ (plN l) (plN l) _ FU18.out FV18.out).mono ?_; rintro e w19 ⟨rfl, hbw⟩; have HB19 : Hid (Below w.heap.size w w19) := bstep HB18.out hbw; have FW19 : Hid (Rd w19 (.slice aw ws.length cw) ws) := FW18.out.below hbw; have FL19 : Hid (Rd w19 (.slice a l.length cap) l) := FL18.out.below hbw; rw [decide_eq_true rfl]; clear hbw))
  go_ret
  exact ⟨rfl, HB19.out⟩
end Go.Proofs.Ytoboiahknapddaa
