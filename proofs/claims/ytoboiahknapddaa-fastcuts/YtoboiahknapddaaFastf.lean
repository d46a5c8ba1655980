/- Walks of layer 6: the document's own answers: what may be, a slot's place, slots, slots without what stands twice; steps that are the same. -/
import Derived.Test.YtoboiahknapddaaFaste
namespace Go.Proofs.Ytoboiahknapddaa
open Go.RowKit Go.Shelf Classical
set_option linter.unusedVariables false

set_option maxRecDepth 100000 in
theorem nodeR_any (b : Int) (w : World) : Calls Try.prog 35 #[.int .i64 b] w fun e w' => e = .returned (.bool (ndB b)) ∧ w' = w := by
  by_cases h1 : 0 ≤ b
  · by_cases h2 : b ≤ 4080
    · by_cases h3 : (b % 16 == 0) = true
      · have H : Hid (ndB b = true) := decide_eq_true (by simp at h3; omega)
        go_enter Try.func35, Try.ntmps35
        go_wp2
        go_ret
        exact ⟨ret_bool H.out.symm, rfl⟩
      · have h3 : (b % 16 == 0) = false := by simpa using h3
        have H : Hid (ndB b = false) := decide_eq_false (by simp at h3; omega)
        go_enter Try.func35, Try.ntmps35
        go_wp2
        go_ret
        exact ⟨ret_bool H.out.symm, rfl⟩
    · have H : Hid (ndB b = false) := decide_eq_false (by omega)
      go_enter Try.func35, Try.ntmps35
      go_wp2
      go_ret
      exact ⟨ret_bool H.out.symm, rfl⟩
  · have H : Hid (ndB b = false) := decide_eq_false (by omega)
    go_enter Try.func35, Try.ntmps35
    go_wp2
    go_ret
    exact ⟨ret_bool H.out.symm, rfl⟩

set_option maxRecDepth 100000 in
theorem placeR_any (b s : Int) (w : World) : Calls Try.prog 20 #[.int .i64 b, .int .i64 s] w fun e w' => e = .returned (.int .i64 (plc b s)) ∧ w' = w := by
  cases e1 : ndB b
  · have H : Hid (plc b s = -1) := plc_no1 e1
    go_enter Try.func20, Try.ntmps20
    go_wp2_with (first
      | (go_at_call 35; refine (nodeR_any b _).mono ?_; rintro e w' ⟨rfl, hw⟩; rw [hw, e1]; clear hw w'))
    go_ret
    exact ⟨ret_int H.out.symm, rfl⟩
  · obtain ⟨b0, b1, b2⟩ := ndB_out e1
    by_cases h1 : s < 0
    · have H : Hid (plc b s = -1) := plc_no2 (by omega)
      go_enter Try.func20, Try.ntmps20
      go_wp2_with (first
        | (go_at_call 35; refine (nodeR_any b _).mono ?_; rintro e w' ⟨rfl, hw⟩; rw [hw, e1]; clear hw w'))
      go_ret
      exact ⟨ret_int H.out.symm, rfl⟩
    · by_cases h2 : 12 < s
      · have H : Hid (plc b s = -1) := plc_no2 (by omega)
        go_enter Try.func20, Try.ntmps20
        go_wp2_with (first
          | (go_at_call 35; refine (nodeR_any b _).mono ?_; rintro e w' ⟨rfl, hw⟩; rw [hw, e1]; clear hw w'))
        go_ret
        exact ⟨ret_int H.out.symm, rfl⟩
      · have H : Hid (plc b s = b + 3 + s) := plc_yes e1 (by omega) (by omega)
        go_enter Try.func20, Try.ntmps20
        go_wp2_with (first
          | (go_at_call 35; refine (nodeR_any b _).mono ?_; rintro e w' ⟨rfl, hw⟩; rw [hw, e1]; clear hw w'))
        go_ret
        exact ⟨ret_int H.out.symm, rfl⟩

/-- Slots that may be. -/
def myB (l : List Int) : Bool := decide (l.length ≤ 13) && posB l
theorem mcB_my (b : Int) (l : List Int) : mcB b l = (ndB b && myB l) := rfl
set_option maxRecDepth 100000 in
set_option maxHeartbeats 1000000 in
theorem mayR_any (v : Value) (l : List Int) (w : World) (hR : Rd w v l) : Calls Try.prog 36 #[v] w fun e w' => e = .returned (.bool (myB l)) ∧ w' = w := by
  have hR' := hR
  obtain ⟨hl, a, cap, rfl⟩ := hR.form
  go_enter Try.func36, Try.ntmps36
  go_wp2
  go_loop [3] (fun i => ∃ k : Nat, k ≤ l.length ∧ i = .int .i64 k ∧ posB (l.take k) = true) (fun i => l.length - (intOf i).toNat)
  case atStart => exact ⟨0, Nat.zero_le _, rfl, rfl⟩
  case round =>
    obtain ⟨k, hk, rfl, hp⟩ := hrel
    have Hp : Hid (posB (l.take k) = true) := hp
    clear hp
    by_cases hlt : k < l.length
    · obtain ⟨b, off, rfl, hc⟩ := hR'.at k hlt
      have Hx : Hid (l[k]? = some l[k]) := List.getElem?_eq_getElem hlt
      generalize l[k] = x at *
      by_cases h0 : 0 < x
      · have hd : decide (x ≤ 0) = false := decide_eq_false (by omega)
        have Hn : Hid (posB (l.take (k + 1)) = true) := posB_next Hp.out Hx.out h0
        go_wp2
        go_round
        case rel => exact ⟨k + 1, by omega, by go_num, Hn.out⟩
        case measure => simp [intOf]; omega
      · have hd : decide (x ≤ 0) = true := decide_eq_true (by omega)
        have Hn : Hid (myB l = false) := by (show myB l = false; unfold myB; rw [posB_fail Hx.out h0, Bool.and_false])
        go_wp2
        go_ret
        exact ⟨ret_bool Hn.out.symm, rfl⟩
    · have Hn : Hid (posB l = true) := by (show posB l = true; have := Hp.out; rwa [List.take_of_length_le (by omega)] at this)
      have Hm : Hid (myB l = decide ((l.length : Int) ≤ 13)) := by (show myB l = _; unfold myB; rw [Hn.out, Bool.and_true]; exact decide_eq_decide.2 (by omega))
      go_wp2
      go_ret
      exact ⟨ret_bool (by rw [Hm.out]), rfl⟩

/-- One number that was just laid is appended to a row of the call's own. -/
theorem append_i1 {W w0 : World} {ops : Array Oper} {rest : List Oper} {o : Oper} {a : Act} {Q : Exit → Act → World → Prop} (hgd : o.guard = none) (s x : Operand)
    (ho : o.op = .call { callee := .builtin .append, args := #[s, x], argTypes := #[22, 22] }) (base : Nat) (v : Value) (zs : List Int) (z : Int)
    (hown : OwnI w0 base v zs) (hn : zs.length ≤ 2000) (hbase : base ≤ w0.heap.size)
    (hW : W = w0.alloc (.cells #[.int .i64 z] 3)) (hs : a.eval s = v) (H : Nat) (hH : w0.heap.size = H) (hx : a.eval x = .slice (some ⟨H, 0, none⟩) 1 1)
    (h : ∀ g cap w', OwnI w' base (.slice (some ⟨g, 0, none⟩) (zs.length + 1) cap) (zs ++ [z]) → Below base w0 w' → wpList Try.prog ops Q rest (a.put o.dst (.slice (some ⟨g, 0, none⟩) (zs.length + 1) cap)) w') :
    wpList Try.prog ops Q (o :: rest) a W := by
  obtain ⟨i0, hi, hz0, hz1, hz2⟩ := info_parts Try.info3
  subst hW
  subst hH
  refine wpList_append_lies _ hgd s x 22 ho base 3 i0 _ 1 8 Try.underlying22 hi hz0 hz1 hz2 rfl (by decide) v zs.length (zs.map (Value.int .i64)) hs (World.ownsRow.alloc hown _) ⟨w0.heap.size, 0, none⟩ 1 1 [.int .i64 z] hx rfl ?_ (fun u hu => by simp at hu; rcases hu with rfl; rfl) (by omega) (by unfold maxLen; omega) (by omega) (by simp; omega) (w0.heap.size + 1) (by simp) ?_
  · exact World.news_of_block (heap_alloc_new w0 _)
  · intro g cap w' h1 h2 h3 h4
    refine h g cap w' ?_ ((Below.refl _ w0).grown (row := v.ownBlock) ⟨h2.os, h2.tape, h2.output, ?_, fun j hj hne => (h2.block j (by simp; omega) hne).trans (Below.heap_alloc w0 _ j hj)⟩ hbase (fun k hk => (World.ownsRow.lt hown k hk).1))
    · unfold OwnI
      rw [List.length_append, List.map_append]
      exact h1
    · have := h2.size
      simp at this
      omega
theorem OwnI.bare (W : World) (base : Nat) : OwnI W base (.slice none 0 0) [] := ⟨rfl, .inl ⟨rfl, rfl⟩⟩

set_option maxRecDepth 100000 in
set_option maxHeartbeats 2000000 in
theorem slotsR_any (v : Value) (ws : List Int) (b : Int) (w : World) (hR : Rd w v ws) : Calls Try.prog 23 #[v, .int .i64 b] w fun e w' => ∃ v', e = .returned v' ∧ Rd w' v' (slN ws b) ∧ Below w.heap.size w w' := by
  have HR : Hid (Rd w v ws) := hR
  obtain ⟨hl, a, cap, rfl⟩ := hR.form
  cases e1 : ndB b
  · have H : Hid (slN ws b = []) := slN_no (by rw [e1]; simp)
    clear hR
    go_enter Try.func23, Try.ntmps23
    go_wp2_with (first
      | (go_at_call 35; refine (nodeR_any b _).mono ?_; rintro e w' ⟨rfl, hw⟩; rw [hw, e1]; clear hw w'))
    go_ret
    exact ⟨_, rfl, by rw [H.out]; exact Rd.bare _, Below.refl _ _⟩
  obtain ⟨b0, b1, b2⟩ := ndB_out e1
  by_cases h1 : (ws.length : Int) < b + 16
  · have H : Hid (slN ws b = []) := slN_no (by omega)
    clear hR
    go_enter Try.func23, Try.ntmps23
    go_wp2_with (first
      | (go_at_call 35; refine (nodeR_any b _).mono ?_; rintro e w' ⟨rfl, hw⟩; rw [hw, e1]; clear hw w'))
    go_ret
    exact ⟨_, rfl, by rw [H.out]; exact Rd.bare _, Below.refl _ _⟩
  obtain ⟨bn, rfl⟩ : ∃ bn : Nat, b = (bn : Int) := ⟨b.toNat, by omega⟩
  have h16 : bn + 16 ≤ ws.length := by omega
  have H : Hid (slN ws (bn : Int) = ((ws.drop (bn + 3)).take 13).takeWhile (fun x => decide (0 < x))) := slN_yes e1 h16
  have HSg : Hid (∀ k, k < 13 → ((ws.drop (bn + 3)).take 13)[k]? = ws[bn + 3 + k]?) := by
    intro k hk
    rw [List.getElem?_take, if_pos hk, List.getElem?_drop]
  have HSl : Hid (((ws.drop (bn + 3)).take 13).length = 13) := by (show _ = _; rw [List.length_take, List.length_drop]; omega)
  generalize (ws.drop (bn + 3)).take 13 = S at H HSg HSl
  clear hR
  have d1 : decide ((ws.length : Int) < (bn : Int) + 16) = false := decide_eq_false (by omega)
  have d2 : decide (ws.length < bn + 16) = false := decide_eq_false (by omega)
  go_enter Try.func23, Try.ntmps23
  go_wp2_with (first
    | (go_at_call 35; refine (nodeR_any (bn : Int) _).mono ?_; rintro e w' ⟨rfl, hw⟩; rw [hw, e1]; clear hw w'))
  go_loopw [5, 6] (fun o i w1 => ∃ (k : Nat) (L : List Int), k ≤ 13 ∧ i = .int .i64 k ∧ OwnI w1 w.heap.size o L ∧ L = S.take k ∧ posB (S.take k) = true ∧ Below w.heap.size w w1) (fun _ i _ => 13 - (intOf i).toNat)
  case atStart => exact ⟨0, [], Nat.zero_le _, rfl, OwnI.bare _ _, rfl, rfl, Below.refl _ _⟩
  case round =>
    obtain ⟨k, L, hk, rfl, hO, hE, hp, hB⟩ := hrel
    have hsz : w.heap.size ≤ wr.heap.size := hB.size
    have HB : Hid (Below w.heap.size w wr) := hB
    have HO : Hid (OwnI wr w.heap.size _ L) := hO
    have HE : Hid (L = S.take k) := hE
    have Hp : Hid (posB (S.take k) = true) := hp
    have hlen : L.length ≤ 13 := by rw [hE, List.length_take]; omega
    clear hO hB hE hp
    by_cases hlt : k < 13
    · have hltI : (k : Int) < 13 := by omega
      obtain ⟨x, hx⟩ : ∃ x, S[k]? = some x := ⟨_, List.getElem?_eq_getElem (by have := HSl.out; omega)⟩
      have hxw : ws[bn + 3 + k]? = some x := by rw [← HSg.out k hlt]; exact hx
      have Hx : Hid (S[k]? = some x) := hx
      obtain ⟨blk, off, rfl, hat⟩ := (HR.out.below HB.out).base (by omega)
      have hc := hat _ _ hxw
      have hi1 : (bn : Int) + 3 + (k : Int) < (ws.length : Int) := by omega
      clear hx hxw hat
      by_cases h0 : 0 < x
      · have hd : decide (0 < x) = true := decide_eq_true h0
        have Hn : Hid (posB (S.take (k + 1)) = true) := posB_next Hp.out Hx.out h0
        have Hn2 : Hid (L ++ [x] = S.take (k + 1)) := by (show _ = _; rw [HE.out, take_next Hx.out])
        have t0 : Hid (0 = 0) := rfl
        go_wp2_with (first
          | (at_builtin; clear t0; refine append_i1 rfl _ _ rfl w.heap.size _ L x HO.out (by omega) hsz rfl rfl wr.heap.size rfl rfl ?_; intro g5 c5 w5 o5 b5; have HO5 : Hid (OwnI w5 w.heap.size _ (L ++ [x])) := o5; have HB5 : Hid (Below w.heap.size w w5) := HB.out.trans b5; clear o5 b5))
        go_roundw
        case rel => exact ⟨k + 1, _, by omega, by go_num, HO5.out, Hn2.out, Hn.out, HB5.out⟩
        case measure => simp [intOf]; omega
      · have hd : decide (0 < x) = false := decide_eq_false h0
        have Hn : Hid (slN ws (bn : Int) = L) := by (show _ = _; rw [H.out, while_stop Hp.out Hx.out h0, HE.out])
        go_wp2
        go_ret
        exact ⟨_, rfl, by rw [Hn.out]; exact HO.out.rd (by omega), HB.out⟩
    · have hge : ¬ (k : Int) < 13 := by omega
      have Hn : Hid (slN ws (bn : Int) = L) := by
        show _ = _
        have := Hp.out
        have hS := HE.out
        rw [List.take_of_length_le (by have := HSl.out; omega)] at this hS
        rw [H.out, while_all this, hS]
      go_wp2
      go_ret
      exact ⟨_, rfl, by rw [Hn.out]; exact HO.out.rd (by omega), HB.out⟩

set_option maxRecDepth 100000 in
set_option maxHeartbeats 2000000 in
theorem plainR_any (v : Value) (zs : List Int) (w : World) (hR : Rd w v zs) : Calls Try.prog 25 #[v] w fun e w' => ∃ v', e = .returned v' ∧ Rd w' v' (plN zs) ∧ Below w.heap.size w w' := by
  have HR : Hid (Rd w v zs) := hR
  obtain ⟨hl, a, cap, rfl⟩ := hR.form
  clear hR
  go_enter Try.func25, Try.ntmps25
  go_wp2
  go_loopw [3, 4] (fun o i w1 => ∃ (k : Nat) (L : List Int), k ≤ zs.length ∧ i = .int .i64 k ∧ OwnI w1 w.heap.size o L ∧ L = plN (zs.take k) ∧ Below w.heap.size w w1) (fun _ i _ => zs.length - (intOf i).toNat)
  case atStart => exact ⟨0, [], Nat.zero_le _, rfl, OwnI.bare _ _, rfl, Below.refl _ _⟩
  case round =>
    obtain ⟨k, L, hk, rfl, hO, hE, hB⟩ := hrel
    have hsz : w.heap.size ≤ wr.heap.size := hB.size
    have HB : Hid (Below w.heap.size w wr) := hB
    have HO : Hid (OwnI wr w.heap.size _ L) := hO
    have HE : Hid (L = plN (zs.take k)) := hE
    have hlen : L.length ≤ 1000 := by
      rw [hE]
      have := plN_length (zs.take k)
      rw [List.length_take] at this
      omega
    clear hO hB hE
    by_cases hlt : k < zs.length
    · have hltI : (k : Int) < (zs.length : Int) := by omega
      obtain ⟨x, hx⟩ : ∃ x, zs[k]? = some x := ⟨_, List.getElem?_eq_getElem hlt⟩
      obtain ⟨blk, off, rfl, hat⟩ := (HR.out.below HB.out).base (by omega)
      have hc := hat _ _ hx
      have HOq : ∀ q, Hid (OwnI (wr.drewN q) w.heap.size _ L) := fun q => HO.out.below (below_drewN (Below.refl _ _) _)
      have t0 : Hid (0 = 0) := rfl
      by_cases h0 : k = 0
      · subst h0
        have Hn : Hid (L ++ [x] = plN (zs.take (0 + 1))) := by
          show _ = _
          rw [plN_take1, take_next hx, HE.out]
          rfl
        rw [Nat.add_zero] at hc
        clear hx hat
        go_wp2
        go_quiet (fail)
        go_wp2_with (first
          | (at_builtin; clear t0; refine append_i1 rfl _ _ rfl w.heap.size _ L x (HOq _).out (by omega) hsz rfl rfl wr.heap.size rfl rfl ?_; intro g5 c5 w5 o5 b5; have HO5 : Hid (OwnI w5 w.heap.size _ (L ++ [x])) := o5; have HB5 : Hid (Below w.heap.size w w5) := (below_drewN HB.out _).trans b5; clear o5 b5))
        go_roundw
        case rel => exact ⟨0 + 1, _, by omega, by go_num, HO5.out, Hn.out, HB5.out⟩
        case measure => simp [intOf]; omega
      · obtain ⟨m, rfl⟩ : ∃ m, k = m + 1 := ⟨k - 1, by omega⟩
        obtain ⟨y, hy⟩ : ∃ y, zs[m]? = some y := ⟨_, List.getElem?_eq_getElem (by omega)⟩
        have hcy := hat _ _ hy
        have Hpt : Hid (plN (zs.take (m + 1 + 1)) = if x = y then plN (zs.take (m + 1)) else plN (zs.take (m + 1)) ++ [x]) := plN_take hx hy
        have d0 : (((m : Int) + 1) == 0) = false := beq_eq_false_iff_ne.2 (by omega)
        have d00 : decide ((m : Int) + 1 = 0) = false := decide_eq_false (by omega)
        clear hx hy hat h0
        by_cases hne : x = y
        · have hdn : (x != y) = false := by simpa using hne
          have Hn : Hid (L = plN (zs.take (m + 1 + 1))) := by (show _ = _; rw [Hpt.out, if_pos hne, HE.out])
          clear hne
          go_wp2
          go_quiet (fail)
          go_wp2
          go_roundw
          case rel => exact ⟨m + 1 + 1, _, by omega, by go_num, (HOq _).out, Hn.out, below_drewN HB.out _⟩
          case measure => simp [intOf]; omega
        · have hdn : (x != y) = true := by simpa using hne
          have Hn : Hid (L ++ [x] = plN (zs.take (m + 1 + 1))) := by (show _ = _; rw [Hpt.out, if_neg hne, HE.out])
          clear hne
          go_wp2
          go_quiet (fail)
          go_wp2_with (first
            | (at_builtin; clear t0; refine append_i1 rfl _ _ rfl w.heap.size _ L x (HOq _).out (by omega) hsz rfl rfl wr.heap.size rfl rfl ?_; intro g5 c5 w5 o5 b5; have HO5 : Hid (OwnI w5 w.heap.size _ (L ++ [x])) := o5; have HB5 : Hid (Below w.heap.size w w5) := (below_drewN HB.out _).trans b5; clear o5 b5))
          go_roundw
          case rel => exact ⟨m + 1 + 1, _, by omega, by go_num, HO5.out, Hn.out, HB5.out⟩
          case measure => simp [intOf]; omega
    · have hge : ¬ (k : Int) < (zs.length : Int) := by omega
      have Hn : Hid (L = plN zs) := by (show _ = _; rw [HE.out, List.take_of_length_le (by omega)])
      go_wp2
      go_ret
      exact ⟨_, rfl, by rw [← Hn.out]; exact HO.out.rd hlen, HB.out⟩

open Classical in
theorem neq51 (x y z x' y' z' : Int) (w : World) : (binOp .neq 51 (.agg #[.int .i64 x, .int .i64 y, .int .i64 z]) (.agg #[.int .i64 x', .int .i64 y', .int .i64 z'])).run Try.prog w = .ok (.bool (!decide (Mi.mk x y z = Mi.mk x' y' z'))) w := by
  have u3 := Try.underlying3
  have a3 := Try.isAgg3
  have z3 := Try.sizeOf3
  have hS : Try.prog.underlying 51 = some (.struct (Try.prog.fieldsOf 51)) := by kernel_rfl
  have hp : Try.prog.stoodInHeld 51 = false := by kernel_rfl
  rw [run_neq_struct, show (10000 : Nat) = 9999 + 1 from rfl, run_equalIn_agg w 9999 51 _ _ hS hp]
  simp only [Program.fieldsOf, Try.underlying51]
  go_simp
  by_cases h1 : x = x' <;> by_cases h2 : y = y' <;> by_cases h3 : z = z' <;> simp [h1, h2, h3]

set_option maxRecDepth 100000 in
set_option maxHeartbeats 2000000 in
/-- Steps are the same. -/
theorem sameS_any (u v : Value) (l1 l2 : List Mi) (w : World) (hu : RdS w u l1) (hv : RdS w v l2) : Calls Try.prog 18 #[u, v] w fun e w' => e = .returned (.bool (decide (l1 = l2))) ∧ Below w.heap.size w w' := by
  have hu' : Hid (RdS w u l1) := hu
  have hv' : Hid (RdS w v l2) := hv
  obtain ⟨hz, a, cap, rfl⟩ := hu.form
  obtain ⟨hy, a2, cap2, rfl⟩ := hv.form
  clear hu hv
  have q51 : ∀ (x y z x' y' z' : Int) (w : World), (binOp .neq 51 (.agg #[.int .i64 x, .int .i64 y, .int .i64 z]) (.agg #[.int .i64 x', .int .i64 y', .int .i64 z'])).run Try.prog w = .ok (.bool (!decide (Mi.mk x y z = Mi.mk x' y' z'))) w := neq51
  by_cases hl : l1.length = l2.length
  · have hl2 : ((l1.length : Int) != (l2.length : Int)) = false := by simp [hl]
    have Hl : Hid (l1.length = l2.length) := hl
    clear hl
    go_enter Try.func18, Try.ntmps18
    go_wp2
    go_loopw [5] (fun i w1 => ∃ k : Nat, k ≤ l1.length ∧ i = .int .i64 k ∧ l1.take k = l2.take k ∧ Below w.heap.size w w1) (fun i _ => l1.length - (intOf i).toNat)
    case atStart => exact ⟨0, Nat.zero_le _, rfl, rfl, Below.refl _ _⟩
    case round =>
      obtain ⟨k, hk, rfl, ht, hbel⟩ := hrel
      have Ht : Hid (l1.take k = l2.take k) := ht
      have HB : Hid (Below w.heap.size w wr) := hbel
      clear ht hbel
      by_cases hlt : k < l1.length
      · have hltI : (k : Int) < (l1.length : Int) := by omega
        have hlt2 : k < l2.length := by have := Hl.out; omega
        have hltI2 : (k : Int) < (l2.length : Int) := by omega
        obtain ⟨x, hx⟩ : ∃ x, l1[k]? = some x := ⟨_, List.getElem?_eq_getElem hlt⟩
        obtain ⟨y, hy'⟩ : ∃ y, l2[k]? = some y := ⟨_, List.getElem?_eq_getElem hlt2⟩
        obtain ⟨b, off, rfl, x0, x1, x2⟩ := (hu'.out.below HB.out).get hx
        obtain ⟨b2, off2, rfl, y0, y1, y2⟩ := (hv'.out.below HB.out).get hy'
        have Hx : Hid (l1[k]? = some x) := hx
        have Hy : Hid (l2[k]? = some y) := hy'
        clear hx hy'
        obtain ⟨xk, xa, xv⟩ := x
        obtain ⟨yk, ya, yv⟩ := y
        dsimp only at x0 x1 x2 y0 y1 y2
        by_cases hne : Mi.mk xk xa xv = Mi.mk yk ya yv
        · have hd : decide (Mi.mk xk xa xv = Mi.mk yk ya yv) = true := decide_eq_true hne
          have hq : ∀ w, (binOp .neq 51 (.agg #[.int .i64 xk, .int .i64 xa, .int .i64 xv]) (.agg #[.int .i64 yk, .int .i64 ya, .int .i64 yv])).run Try.prog w = .ok (.bool false) w := fun w => by rw [q51, hd]; rfl
          have Hn : Hid (l1.take (k + 1) = l2.take (k + 1)) := by (show _ = _; rw [take_next Hx.out, take_next Hy.out, Ht.out, hne])
          clear hne hd q51
          go_wp2
          go_quiet (fail)
          go_wp2
          go_roundw
          case rel => exact ⟨k + 1, by omega, by go_num, Hn.out, below_drewN HB.out _⟩
          case measure => simp [intOf]; omega
        · have hd : decide (Mi.mk xk xa xv = Mi.mk yk ya yv) = false := decide_eq_false hne
          have hq : ∀ w, (binOp .neq 51 (.agg #[.int .i64 xk, .int .i64 xa, .int .i64 xv]) (.agg #[.int .i64 yk, .int .i64 ya, .int .i64 yv])).run Try.prog w = .ok (.bool true) w := fun w => by rw [q51, hd]; rfl
          have Hn : Hid (decide (l1 = l2) = false) := decide_eq_false (fun e => hne (by have h1 := Hx.out; have h2 := Hy.out; rw [e, h2] at h1; cases h1; rfl))
          clear hne hd q51
          go_wp2
          go_quiet (fail)
          go_wp2
          go_ret
          exact ⟨ret_bool Hn.out.symm, below_drewN HB.out _⟩
      · have hge : ¬ (k : Int) < (l1.length : Int) := by omega
        have Hn : Hid (decide (l1 = l2) = true) := decide_eq_true (by have := Ht.out; rwa [List.take_of_length_le (by omega), List.take_of_length_le (by have := Hl.out; omega)] at this)
        go_wp2
        go_ret
        exact ⟨ret_bool Hn.out.symm, HB.out⟩
  · have hl2 : ((l1.length : Int) != (l2.length : Int)) = true := by simp; omega
    go_enter Try.func18, Try.ntmps18
    go_wp2
    go_ret
    exact ⟨ret_bool (decide_eq_false (fun e => hl (by rw [e]))).symm, Below.refl _ _⟩
end Go.Proofs.Ytoboiahknapddaa
