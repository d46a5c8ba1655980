/- Walks of layer 7: the document's Words, as one; its Steps. -/
import Derived.Test.YtmhojhpfkieioaaRecs
namespace Go.Proofs.Ytmhojhpfkieioaa
open Go.RowKit Go.Shelf Classical
set_option linter.unusedVariables false

set_option maxRecDepth 100000 in
set_option maxHeartbeats 2000000 in
theorem wordsRr_any (x : Rc) (w : World) : Calls Try.prog 10 #[.agg #[.int .i64 x.k, .string x.key, .string x.val, .int .i64 x.ch]] w fun e w' => ∃ v, e = .returned (.tuple #[v, .int .i64 (wEs x)]) ∧ Rd w' v (wLs x) ∧ Below w.heap.size w w' := by
  cases hc : rcB x with
  | false =>
    have H1 : Hid (wLs x = []) := show _ = _ by simp [wLs, hc]
    have H2 : Hid (wEs x = 70) := show _ = _ by simp [wEs, hc]
    have B0 := (Below.refl w.heap.size w).alloc (Nat.le_refl _) (.cells #[.int .i64 x.k, .string x.key, .string x.val, .int .i64 x.ch] 23)
    go_enter Try.func10, Try.ntmps10
    go_wp2_with (go_at_call 16; refine (rcheckR_any x _).mono ?_; rintro e w1 ⟨rfl, hb1⟩; rw [hc])
    refine bodyPost_ret (results_tmp2 Try.results10 _ _ _) rfl ?_
    exact ⟨_, by rw [H2.out]; rfl, by rw [H1.out]; exact nil_rd _, bstep B0 hb1⟩
  | true =>
    have hx := rcB_iff.1 hc
    have H1 : wLs x = imL x := by simp [wLs, hc]
    have H2 : wEs x = 0 := by simp [wEs, hc]
    rw [H1, H2]
    obtain ⟨k, key, val, ch⟩ := x
    have hk : k = 1 ∨ k = 2 := by
      rcases hx with h | h
      · exact .inl h.1
      · exact .inr h.1
    rcases hk with rfl | rfl
    · exact wordsR1 key val ch w hx
    · exact wordsR2 key val ch w hx
theorem stwo {W : World} {b : Nat} (p q : Mi) (hb : b = W.heap.size) : RdS (W.alloc (.cells #[.int .i64 p.k, .int .i64 p.a, .int .i64 p.v, .int .i64 q.k, .int .i64 q.a, .int .i64 q.v] 52)) (.slice (some ⟨b, 0, none⟩) 2 2) [p, q] := by
  subst hb
  refine ⟨rfl, by simp, _, _, rfl, Nat.le_refl _, .inr ⟨_, _, rfl, by simp, fun j u hj => ?_⟩⟩
  match j, hj with
  | 0, h => cases h; simp
  | 1, h => cases h; simp
  | 2, h => cases h; simp
  | 3, h => cases h; simp
  | 4, h => cases h; simp
  | 5, h => cases h; simp
  | j + 6, h => simp [mcs, mc1] at h
theorem append_s2 {w : World} {ops : Array Oper} {rest : List Oper} {o : Oper} {a : Act} {Q : Exit → Act → World → Prop} (hgd : o.guard = none) (s x : Operand)
    (ho : o.op = .call { callee := .builtin .append, args := #[s, x], argTypes := #[31, 31] }) (base : Nat) (v : Value) (ps : List Mi) (hs : a.eval s = v) (hown : OwnS w base v ps)
    (v2 : Value) (qs : List Mi) (hx : a.eval x = v2) (hR : RdS w v2 qs) (hn : ps.length ≤ 1000) (hbase : base ≤ w.heap.size)
    (h : ∀ v' w', OwnS w' base v' (ps ++ qs) → Below base w w' → wpList Try.prog ops Q rest (a.put o.dst v') w') : wpList Try.prog ops Q (o :: rest) a w := by
  refine append_rdc hgd s x 31 ho base 52 3 (.agg #[.int .i64 0, .int .i64 0, .int .i64 0]) 24 Try.underlying31 Try.info52 rfl (by decide) (by decide) v ps.length (mcs ps) hs hown v2 qs.length (mcs qs) hx hR (mcs_one qs) (by omega) hbase ?_
  intro v' w' o' g'
  refine h v' w' ?_ ((Below.refl base w).grown g' hbase (fun k hk => (World.ownsRow.lt hown k hk).1))
  unfold OwnS
  rw [List.length_append, mcs_append]
  exact o'

set_option maxRecDepth 100000 in
set_option maxHeartbeats 2000000 in
/-- The document's Steps. -/
theorem stepsR_any (z : Int) (v : Value) (l : List Int) (w : World) (hR : Rd w v l) : Calls Try.prog 14 #[.int .i64 z, v] w fun e w' => ∃ v', e = .returned (.tuple #[v', .int .i64 (stpE z l)]) ∧ RdS w' v' (stpS z l) ∧ Below w.heap.size w w' := by
  obtain ⟨hl, a, cap, rfl⟩ := hR.form
  by_cases hok : 0 ≤ z ∧ z < 256 ∧ l.length = 16
  · obtain ⟨h0, h1, h2⟩ := hok
    obtain ⟨b, rfl⟩ : ∃ b : Nat, z = (b : Int) := ⟨z.toNat, by omega⟩
    have H : Hid (stpB (b : Int) l.length = true) := show _ = _ from decide_eq_true ⟨h0, h1, h2⟩
    have H1 : Hid (stpE (b : Int) l = 0) := show _ = _ by unfold stpE; rw [H.out]; rfl
    have H2 : Hid (stpS (b : Int) l = stoL b l ++ perL b) := show _ = _ by unfold stpS; rw [H.out]; rfl
    obtain ⟨g, off, rfl, hc⟩ := hR.base (by omega)
    have HR : Hid (Rd w (.slice (some ⟨g, off, none⟩) l.length cap) l) := hR
    have hll : Hid (l.length = 16) := h2
    have d1 : ((l.length : Int) != 16) = false := by simp; omega
    have d2 : ¬ (b : Int) > 255 := by omega
    have hb9 : Hid ((b : Int) < 256) := h1
    clear h2 hc hR h0 h1
    go_enter Try.func14, Try.ntmps14
    go_wp2
    go_loopw [6, 7] (fun o i w1 => ∃ (k : Nat), k ≤ 16 ∧ i = .int .i64 k ∧ OwnS w1 w.heap.size o (stoL b (l.take k)) ∧ Below w.heap.size w w1) (fun _ i _ => 16 - (intOf i).toNat)
    case atStart => exact ⟨0, Nat.zero_le _, rfl, OwnS.bare _ _, Below.refl _ _⟩
    case round =>
      obtain ⟨k, hk, rfl, hO, hB⟩ := hrel
      have HO : Hid (OwnS wr w.heap.size _ (stoL b (l.take k))) := hO
      have HB : Hid (Below w.heap.size w wr) := hB
      have hsz : w.heap.size ≤ wr.heap.size := hB.size
      have hL : (stoL b (l.take k)).length ≤ 16 := by rw [stoL_length, List.length_take]; have := hll.out; omega
      clear hO hB
      by_cases hlt : k < 16
      · obtain ⟨x, hx⟩ : ∃ x, l[k]? = some x := ⟨_, List.getElem?_eq_getElem (by have := hll.out; omega)⟩
        have hcell := (HR.out.below HB.out).cell hx
        have Hn : Hid (stoL b (l.take k) ++ [⟨1, 16 * (b : Int) + (k : Int), x⟩] = stoL b (l.take (k + 1))) := show _ = _ by
          rw [stoL_next hx, show 16 * (b : Int) + (k : Int) = ((16 * b + k : Nat) : Int) by omega]
        have hlI : (k : Int) < (l.length : Int) := by have := hll.out; omega
        have hk6 : (k : Int) < 16 := by omega
        have hb6 : (b : Int) < 256 := hb9.out
        clear hx
        go_wp2_with (first
          | (at_builtin; refine append_s1 rfl (.tmp 23) (.tmp 33) rfl w.heap.size _ (stoL b (l.take k)) ⟨1, 16 * (b : Int) + (k : Int), x⟩ HO.out (by omega) hsz rfl rfl wr.heap.size rfl rfl ?_; intro g5 c5 w5 o5 b5; have HO5 : Hid (OwnS w5 w.heap.size _ (stoL b (l.take (k + 1)))) := Hn.out ▸ o5; have HB5 : Hid (Below w.heap.size w w5) := HB.out.trans b5; clear o5 b5))
        go_roundw
        case rel => exact ⟨k + 1, by omega, by go_num, HO5.out, HB5.out⟩
        case measure => simp [intOf]; omega
      · obtain rfl : k = 16 := by omega
        rw [List.take_of_length_le (by have := hll.out; omega)] at HO hL
        have Hn : Hid (stoL b l ++ [⟨2, 2 * (b : Int), 0⟩, ⟨2, 2 * (b : Int) + 1, 0⟩] = stpS (b : Int) l) := show _ = _ by
          rw [H2.out]
          unfold perL
          rw [show 2 * (b : Int) = ((2 * b : Nat) : Int) by omega]
          rfl
        have HS : Hid ((stpS (b : Int) l).length ≤ 1000) := show _ ≤ _ by
          rw [← Hn.out, List.length_append]
          simp
          omega
        have hb6 : (b : Int) < 256 := hb9.out
        obtain ⟨ao, co, rfl⟩ := HO.out.form
        rw [show ((16 : Nat) : Int) = (16 : Int) from rfl]
        go_wp2_with (first
          | (at_builtin; refine append_s2 rfl (.tmp 35) (.tmp 43) rfl w.heap.size _ (stoL b l) rfl (HO.out.below ((Below.refl _ _).alloc (Nat.le_refl _) _)) (.slice (some ⟨wr.heap.size, 0, none⟩) 2 2) [⟨2, 2 * (b : Int), 0⟩, ⟨2, 2 * (b : Int) + 1, 0⟩] rfl (stwo ⟨2, 2 * (b : Int), 0⟩ ⟨2, 2 * (b : Int) + 1, 0⟩ rfl) (by omega) (Nat.le_trans hsz ((Below.refl _ _).alloc (Nat.le_refl _) _).size) ?_; intro v5 w5 o5 b5; have HO5 : Hid (OwnS w5 w.heap.size v5 (stpS (b : Int) l)) := Hn.out ▸ o5; have HB5 : Hid (Below w.heap.size w w5) := (HB.out.alloc hsz _).trans b5; clear o5 b5))
        refine bodyPost_ret (results_tmp2 Try.results14 _ _ _) rfl ?_
        exact ⟨_, by rw [H1.out]; rfl, HO5.out.rd HS.out, HB5.out⟩
  · have H : Hid (stpB z l.length = false) := show _ = _ from decide_eq_false hok
    have H1 : Hid (stpE z l = 1) := show _ = _ by unfold stpE; rw [H.out]; rfl
    have H2 : Hid (stpS z l = []) := show _ = _ by unfold stpS; rw [H.out]; rfl
    by_cases h0 : z < 0
    · clear hok
      go_enter Try.func14, Try.ntmps14
      go_wp2
      refine bodyPost_ret (results_tmp2 Try.results14 _ _ _) rfl ?_
      exact ⟨_, by rw [H1.out]; rfl, by rw [H2.out]; exact RdS.bare _, Below.refl _ _⟩
    · by_cases h1 : z > 255
      · clear hok
        go_enter Try.func14, Try.ntmps14
        go_wp2
        refine bodyPost_ret (results_tmp2 Try.results14 _ _ _) rfl ?_
        exact ⟨_, by rw [H1.out]; rfl, by rw [H2.out]; exact RdS.bare _, Below.refl _ _⟩
      · have d1 : ((l.length : Int) != 16) = true := by simp; omega
        clear hok
        go_enter Try.func14, Try.ntmps14
        go_wp2
        refine bodyPost_ret (results_tmp2 Try.results14 _ _ _) rfl ?_
        exact ⟨_, by rw [H1.out]; rfl, by rw [H2.out]; exact RdS.bare _, Below.refl _ _⟩
end Go.Proofs.Ytmhojhpfkieioaa
