/- Walks of layer 7: Steps. -/
import Derived.Test.YtmhojhpfkieioaaRech
import Derived.Test.YtmhojhpfkieioaaStepg
namespace Go.Proofs.Ytmhojhpfkieioaa
open Go.RowKit Go.Shelf
set_option linter.unusedVariables false

/-- The steps by which words are laid. -/
def stoL (b : Nat) (l : List Int) : List Mi := l.mapIdx fun i v => ⟨1, ((16 * b + i : Nat) : Int), v⟩
def perL (b : Nat) : List Mi := [⟨2, ((2 * b : Nat) : Int), 0⟩, ⟨2, ((2 * b + 1 : Nat) : Int), 0⟩]
def stpB (z : Int) (n : Nat) : Bool := decide (0 ≤ z ∧ z < 256 ∧ n = 16)
def stpS (z : Int) (l : List Int) : List Mi := if stpB z l.length then stoL z.toNat l ++ perL z.toNat else []
def stpE (z : Int) (l : List Int) : Int := if stpB z l.length then 0 else 1
theorem stoL_length (b : Nat) (l : List Int) : (stoL b l).length = l.length := by simp [stoL]
theorem stoL_next {b : Nat} {l : List Int} {k : Nat} {x : Int} (h : l[k]? = some x) : stoL b (l.take (k + 1)) = stoL b (l.take k) ++ [⟨1, ((16 * b + k : Nat) : Int), x⟩] := by
  have hk : k < l.length := (List.getElem?_eq_some_iff.1 h).1
  rw [take_next h]
  unfold stoL
  rw [List.mapIdx_append]
  have e : (l.take k).length = k := by simp; omega
  simp [e]
/-- Rows of the call's own: steps. -/
def OwnS (W : World) (base : Nat) (v : Value) (l : List Mi) : Prop := W.ownsRow base 52 3 v l.length (mcs l)
theorem OwnS.rd {W : World} {base : Nat} {v : Value} {l : List Mi} (h : OwnS W base v l) (hl : l.length ≤ 1000) : RdS W v l := RdC.of_own h hl
theorem OwnS.below {W W' : World} {base : Nat} {v : Value} {l : List Mi} (h : OwnS W base v l) (hb : Below W.heap.size W W') : OwnS W' base v l := own_below h hb
theorem OwnS.bare (W : World) (base : Nat) : OwnS W base (.slice none 0 0) [] := ⟨rfl, .inl ⟨rfl, rfl⟩⟩
theorem OwnS.form {W : World} {base : Nat} {v : Value} {l : List Mi} (h : OwnS W base v l) : ∃ a cap, v = .slice a l.length cap := by
  rcases h.2 with ⟨rfl, e⟩ | ⟨g, cap, cur, rfl, _⟩
  · exact ⟨none, 0, by rw [e]⟩
  · exact ⟨_, cap, rfl⟩
theorem Try.info52 : (Try.prog.info? 52).map (fun i => (i.zero, i.size, i.bytes)) = some (some (.agg #[.int .i64 0, .int .i64 0, .int .i64 0]), 3, 24) := by kernel_rfl
theorem append_s1 {W w0 : World} {ops : Array Oper} {rest : List Oper} {o : Oper} {a : Act} {Q : Exit → Act → World → Prop} (hgd : o.guard = none) (s x : Operand)
    (ho : o.op = .call { callee := .builtin .append, args := #[s, x], argTypes := #[31, 31] }) (base : Nat) (v : Value) (ps : List Mi) (p : Mi)
    (hown : OwnS w0 base v ps) (hn : ps.length ≤ 2000) (hbase : base ≤ w0.heap.size)
    (hW : W = w0.alloc (.cells #[.int .i64 p.k, .int .i64 p.a, .int .i64 p.v] 52)) (hs : a.eval s = v) (H : Nat) (hH : w0.heap.size = H) (hx : a.eval x = .slice (some ⟨H, 0, none⟩) 1 1)
    (h : ∀ g cap w', OwnS w' base (.slice (some ⟨g, 0, none⟩) (ps.length + 1) cap) (ps ++ [p]) → Below base w0 w' → wpList Try.prog ops Q rest (a.put o.dst (.slice (some ⟨g, 0, none⟩) (ps.length + 1) cap)) w') :
    wpList Try.prog ops Q (o :: rest) a W := by
  obtain ⟨i0, hi, hz0, hz1, hz2⟩ := info_parts Try.info52
  subst hW
  subst hH
  refine wpList_append_lies _ hgd s x 31 ho base 52 i0 _ 3 24 Try.underlying31 hi hz0 hz1 hz2 rfl (by decide) v ps.length (mcs ps) hs (World.ownsRow.alloc hown _) ⟨w0.heap.size, 0, none⟩ 1 1 (mc1 p) hx rfl ?_ (fun u hu => by simp [mc1] at hu; rcases hu with rfl | rfl | rfl <;> rfl) (by omega) (by unfold maxLen; omega) (by omega) (by simp; omega) (w0.heap.size + 1) (by simp) ?_
  · exact World.news_of_block (heap_alloc_new w0 _)
  · intro g cap w' h1 h2 h3 h4
    refine h g cap w' ?_ ((Below.refl _ w0).grown (row := v.ownBlock) ⟨h2.os, h2.tape, h2.output, ?_, fun j hj hne => (h2.block j (by simp; omega) hne).trans (Below.heap_alloc w0 _ j hj)⟩ hbase (fun k hk => (World.ownsRow.lt hown k hk).1))
    · unfold OwnS
      rw [List.length_append, mcs_append]
      exact h1
    · have := h2.size
      simp at this
      omega
def zm18 : Array Value := Builtin.zeroCells (Value.agg #[.int .i64 0, .int .i64 0, .int .i64 0]).cells 18
theorem mk18 : ∀ w, (Instr.makeSlice 31 (.int .i64 0) (.int .i64 18)).run Try.prog w = .ok (.slice (some ⟨w.heap.size, 0, none⟩) 0 18) (w.alloc (.cells zm18 52)) := by
  intro w
  obtain ⟨i0, hi, hz0, hz1, hz2⟩ := info_parts Try.info52
  have := run_make (P := Try.prog) w 31 52 i0 (.agg #[.int .i64 0, .int .i64 0, .int .i64 0]) Try.underlying31 hi hz0 .i64 .i64 0 18 (by omega) (by omega) (by rw [hz2]; omega) (by omega)
  rw [hz1] at this
  exact this
theorem zm18_size : zm18.size = 18 * 3 := by simp [zm18, Builtin.zeroCells, Value.cells]
theorem own_zm18 (W : World) : OwnS (W.alloc (.cells zm18 52)) W.heap.size (.slice (some ⟨W.heap.size, 0, none⟩) 0 18) [] := by
  have := World.ownsRow_made (base := W.heap.size) (e := 52) (size := 3) W zm18 18 (by simp) (by unfold maxLen; omega) zm18_size
  simpa [OwnS, mcs] using this
theorem RdS.bare (W : World) : RdS W (.slice none 0 0) [] := ⟨rfl, by simp, none, 0, rfl, Nat.le_refl _, .inl ⟨rfl, fun _ => rfl⟩⟩

set_option maxRecDepth 100000 in
set_option maxHeartbeats 2000000 in
theorem stepsr_any (z : Int) (v : Value) (l : List Int) (w : World) (hR : Rd w v l) : Calls Try.prog 13 #[.int .i64 z, v] w fun e w' => ∃ v', e = .returned (.tuple #[v', .int .i64 (stpE z l)]) ∧ RdS w' v' (stpS z l) ∧ Below w.heap.size w w' := by
  obtain ⟨hl, a, cap, rfl⟩ := hR.form
  by_cases hok : 0 ≤ z ∧ z < 256 ∧ l.length = 16
  · obtain ⟨h0, h1, h2⟩ := hok
    obtain ⟨b, rfl⟩ : ∃ b : Nat, z = (b : Int) := ⟨z.toNat, by omega⟩
    have H : Hid (stpB (b : Int) l.length = true) := show _ = _ from decide_eq_true ⟨h0, h1, h2⟩
    have H1 : Hid (stpE (b : Int) l = 0) := show _ = _ by unfold stpE; rw [H.out]; rfl
    have H2 : Hid (stpS (b : Int) l = stoL b l ++ perL b) := show _ = _ by unfold stpS; rw [H.out]; rfl
    obtain ⟨g, off, rfl, hc⟩ := hR.base (by omega)
    have HR : Hid (Rd w (.slice (some ⟨g, off, none⟩) l.length cap) l) := hR
    have hll : Hid (l.length = 16) := h2
    have d1 : ((l.length : Int) != 16) = false := by simp; omega
    have d2 : ¬ (b : Int) ≥ 256 := by omega
    have d3 : ¬ (b : Int) < 0 := by omega
    have m1 : wrap64 ((b : Int) * 16) = (b : Int) * 16 := by unfold wrap64; omega
    have m18 := mk18
    have O0 : Hid (OwnS (w.alloc (.cells zm18 52)) w.heap.size (.slice (some ⟨w.heap.size, 0, none⟩) 0 18) []) := own_zm18 w
    have B0 : Hid (Below w.heap.size w (w.alloc (.cells zm18 52))) := (Below.refl _ _).alloc (Nat.le_refl _) _
    have hb9 : Hid ((b : Int) < 256) := h1
    clear h2 hc hR h0 h1 d3
    go_enter Try.func13, Try.ntmps13
    go_wp2
    go_loopw [7, 27] (fun o i w1 => ∃ (k : Nat), k ≤ l.length ∧ i = .int .i64 k ∧ OwnS w1 w.heap.size o (stoL b (l.take k)) ∧ Below w.heap.size w w1) (fun _ i _ => l.length - (intOf i).toNat)
    case atStart => exact ⟨0, Nat.zero_le _, rfl, O0.out, B0.out⟩
    case round =>
      obtain ⟨k, hk, rfl, hO, hB⟩ := hrel
      have HO : Hid (OwnS wr w.heap.size _ (stoL b (l.take k))) := hO
      have HB : Hid (Below w.heap.size w wr) := hB
      have hsz : w.heap.size ≤ wr.heap.size := hB.size
      have hL : (stoL b (l.take k)).length ≤ 16 := by rw [stoL_length, List.length_take]; have := hll.out; omega
      clear hO hB O0 B0
      by_cases hlt : k < l.length
      · obtain ⟨x, hx⟩ : ∃ x, l[k]? = some x := ⟨_, List.getElem?_eq_getElem hlt⟩
        have hcell := (HR.out.below HB.out).cell hx
        have Hn : Hid (stoL b (l.take k) ++ [⟨1, (b : Int) * 16 + (k : Int), x⟩] = stoL b (l.take (k + 1))) := show _ = _ by
          rw [stoL_next hx, show (b : Int) * 16 + (k : Int) = ((16 * b + k : Nat) : Int) by omega]
        have m2 : wrap64 ((b : Int) * 16 + (k : Int)) = (b : Int) * 16 + (k : Int) := by
          have := hb9.out
          have := hll.out
          unfold wrap64
          omega
        have hlI : (k : Int) < (l.length : Int) := by omega
        clear hx
        go_wp2_with (first
          | (at_builtin; refine append_s1 rfl _ _ rfl w.heap.size _ (stoL b (l.take k)) ⟨1, (b : Int) * 16 + (k : Int), x⟩ HO.out (by omega) hsz rfl rfl wr.heap.size rfl rfl ?_; intro g5 c5 w5 o5 b5; have HO5 : Hid (OwnS w5 w.heap.size _ (stoL b (l.take (k + 1)))) := Hn.out ▸ o5; have HB5 : Hid (Below w.heap.size w w5) := HB.out.trans b5; clear o5 b5))
        go_roundw
        case rel => exact ⟨k + 1, by omega, by go_num, HO5.out, HB5.out⟩
        case measure => simp [intOf]; omega
      · obtain rfl : k = l.length := by omega
        rw [List.take_length] at HO hL
        have q2 : wrap64 ((b : Int) * 16 / 8 + 1) = (b : Int) * 16 / 8 + 1 := by
          have := hb9.out
          unfold wrap64
          omega
        have Hn : Hid (stoL b l ++ [⟨2, (b : Int) * 16 / 8, 0⟩] ++ [⟨2, (b : Int) * 16 / 8 + 1, 0⟩] = stpS (b : Int) l) := show _ = _ by
          rw [H2.out, List.append_assoc]
          unfold perL
          rw [show (b : Int) * 16 / 8 = ((2 * b : Nat) : Int) by omega]
          rfl
        have hS : (stpS (b : Int) l).length ≤ 1000 := by
          rw [← Hn.out, List.length_append, List.length_append]
          simp
          omega
        have HS : Hid ((stpS (b : Int) l).length ≤ 1000) := hS
        clear hS
        obtain ⟨ao, co, rfl⟩ := HO.out.form
        go_wp2
        refine wp_loop_rounds 3 ?_
        rw [rounds_succ]
        go_wp2_with (first
          | (at_builtin; refine append_s1 rfl _ _ rfl w.heap.size _ (stoL b l) ⟨2, (b : Int) * 16 / 8, 0⟩ HO.out (by omega) hsz rfl rfl wr.heap.size rfl rfl ?_; intro g5 c5 w5 o5 b5; have HO5 : Hid (OwnS w5 w.heap.size _ (stoL b l ++ [⟨2, (b : Int) * 16 / 8, 0⟩])) := o5; have HB5 : Hid (Below w.heap.size w w5) := HB.out.trans b5; have hsz5 : w.heap.size ≤ w5.heap.size := HB5.out.size; clear o5 b5))
        rw [rounds_succ]
        go_wp2_with (first
          | (at_builtin; refine append_s1 rfl _ _ rfl w.heap.size _ (stoL b l ++ [⟨2, (b : Int) * 16 / 8, 0⟩]) ⟨2, (b : Int) * 16 / 8 + 1, 0⟩ HO5.out (by simp; omega) hsz5 rfl rfl w5.heap.size rfl rfl ?_; intro g6 c6 w6 o6 b6; have HO6 : Hid (OwnS w6 w.heap.size (.slice (some ⟨g6, 0, none⟩) ((stoL b l).length + 1 + 1) c6) (stpS (b : Int) l)) := (by rw [← Hn.out]; rw [List.length_append] at o6; exact o6); have HB6 : Hid (Below w.heap.size w w6) := HB5.out.trans b6; clear o6 b6))
        rw [rounds_succ]
        go_wp2
        refine bodyPost_ret (results_tmp2 Try.results13 _ _ _) rfl ?_
        exact ⟨_, by rw [H1.out]; rfl, HO6.out.rd HS.out, HB6.out⟩
  · have H : Hid (stpB z l.length = false) := show _ = _ from decide_eq_false hok
    have H1 : Hid (stpE z l = 1) := show _ = _ by unfold stpE; rw [H.out]; rfl
    have H2 : Hid (stpS z l = []) := show _ = _ by unfold stpS; rw [H.out]; rfl
    by_cases h0 : z < 0
    · clear hok
      go_enter Try.func13, Try.ntmps13
      go_wp2
      refine bodyPost_ret (results_tmp2 Try.results13 _ _ _) rfl ?_
      exact ⟨_, by rw [H1.out]; rfl, by rw [H2.out]; exact RdS.bare _, Below.refl _ _⟩
    · by_cases h1 : z ≥ 256
      · clear hok
        go_enter Try.func13, Try.ntmps13
        go_wp2
        refine bodyPost_ret (results_tmp2 Try.results13 _ _ _) rfl ?_
        exact ⟨_, by rw [H1.out]; rfl, by rw [H2.out]; exact RdS.bare _, Below.refl _ _⟩
      · have d1 : ((l.length : Int) != 16) = true := by simp; omega
        clear hok
        go_enter Try.func13, Try.ntmps13
        go_wp2
        refine bodyPost_ret (results_tmp2 Try.results13 _ _ _) rfl ?_
        exact ⟨_, by rw [H1.out]; rfl, by rw [H2.out]; exact RdS.bare _, Below.refl _ _⟩
end Go.Proofs.Ytmhojhpfkieioaa
