/- The document's Get, Without, With. -/
import Derived.Test.YtcgclhahonndbaaGreatRfd
import Derived.Test.YtcgclhahonndbaaGreatPae
import Derived.Test.YtcgclhahonndbaaGreatPoa
namespace Go.Proofs.YtcgclhahonndbaaGreat
open Go.RowKit Go.Shelf
set_option linter.unusedVariables false

theorem pc1_one (p : Pa) : ∀ u ∈ pc1 p, u.oneCell' = true := by
  intro u hu
  exact pcs_one [p] u (by simp [pcs]; exact hu)
theorem pcs_z (p : Pa) : pcs [p] = pc1 p := by simp [pcs]
theorem OwnP.snoc {W : World} {base : Nat} {v : Value} {l : List Pa} {p : Pa} (h : W.ownsRow base 45 2 v (l.length + 1) (pcs l ++ pc1 p)) : OwnP W base v (l ++ [p]) := by
  unfold OwnP
  rw [List.length_append, pcs_append, pcs_z]
  exact h
theorem OwnP.fm {W : World} {base : Nat} {v : Value} {l : List Pa} (h : OwnP W base v l) : ∃ a c, v = .slice a l.length c := by
  rcases h.form with ⟨rfl, rfl⟩ | ⟨g, c, rfl, _⟩
  · exact ⟨none, 0, rfl⟩
  · exact ⟨_, c, rfl⟩
theorem inP_any {x : Pa} : ∀ {l : List Pa} (r : List Pa), (l.any fun q => tL x.k q.k) = true → inP x (l ++ r) = inP x l ++ r
  | [], r, h => by cases h
  | q :: l, r, h => by
    rw [List.cons_append]
    unfold inP
    split
    · rfl
    · rename_i hq
      rw [List.any_cons] at h
      rw [inP_any r (by simpa [hq] using h)]
      rfl
theorem inP_no {x : Pa} : ∀ {l : List Pa} (r : List Pa), (l.any fun q => tL x.k q.k) = false → inP x (l ++ r) = l ++ inP x r
  | [], r, h => rfl
  | q :: l, r, h => by
    rw [List.any_cons, Bool.or_eq_false_iff] at h
    rw [List.cons_append, List.cons_append]
    conv => lhs; unfold inP
    rw [h.1, inP_no r h.2]
    rfl
theorem wo_no {l : List Pa} {k : Nat} {p : Pa} {key : ByteArray} (h : l[k]? = some p) (hE : tE p.k key = false) : woP (l.take (k + 1)) key = woP (l.take k) key ++ [p] := by
  rw [take_nextz h]
  unfold woP
  rw [List.filter_append]
  simp [hE]
theorem wo_yes {l : List Pa} {k : Nat} {p : Pa} {key : ByteArray} (h : l[k]? = some p) (hE : tE p.k key = true) : woP (l.take (k + 1)) key = woP (l.take k) key := by
  rw [take_nextz h]
  unfold woP
  rw [List.filter_append]
  simp [hE]
theorem ge_at {l : List Pa} {k : Nat} {p : Pa} {key : ByteArray} (h : l[k]? = some p) : geP (l.drop k) key = if tE p.k key = true then some p.v else geP (l.drop (k + 1)) key := by
  obtain ⟨hk, e⟩ := List.getElem?_eq_some_iff.1 h
  rw [List.drop_eq_getElem_cons hk, e, geP_cons]
set_option maxRecDepth 100000 in
set_option maxHeartbeats 4000000 in
theorem getR_any (v : Value) (l : List Pa) (key : ByteArray) (w : World) (hR : RdP w v l) : Calls Tryz.prog 11 #[v, .string key] w fun e w' => e = .returned (.tuple #[.string (gvP l key), .bool (gbP l key)]) ∧ Below w.heap.size w w' := by
  obtain ⟨hl, a, cap, rfl, _⟩ := hR.form
  have HR : Hid (RdP w (.slice a l.length cap) l) := hR
  have SO : Hid (∀ x, geP l key = some x → gvP l key = x ∧ gbP l key = true) := fun x h => ⟨by unfold gvP; rw [h]; rfl, by unfold gbP; rw [h]; rfl⟩
  have NO : Hid (geP l key = none → gvP l key = ⟨#[]⟩ ∧ gbP l key = false) := fun h => ⟨by unfold gvP; rw [h]; rfl, by unfold gbP; rw [h]; rfl⟩
  have I0 : Hid (geP (l.drop 0) key = geP l key) := by (show _ = _; rw [List.drop_zero])
  clear hR
  go_enter Tryz.func11, Tryz.ntmps11
  go_wp2
  go_loopw [6] (fun i wr => ∃ (k : Nat), k ≤ l.length ∧ i = .int .i64 k ∧ geP (l.drop k) key = geP l key ∧ Below w.heap.size w wr) (fun i _ => l.length - (Go.RowKit.intOf i).toNat)
  case atStart => exact ⟨0, Nat.zero_le _, rfl, I0.out, Below.refl _ _⟩
  case round =>
    obtain ⟨k, hk, rfl, hX, hbr⟩ := hrel
    have HX : Hid (geP (l.drop k) key = geP l key) := hX
    have HBr : Hid (Below w.heap.size w wr) := hbr
    clear hX hbr
    by_cases hlt : k < l.length
    · have hltI : (k : Int) < (l.length : Int) := by omega
      obtain ⟨p, hp⟩ : ∃ p, l[k]? = some p := ⟨_, List.getElem?_eq_getElem hlt⟩
      obtain ⟨bb, off, rfl, x0, x1⟩ := (HR.out.below HBr.out).get hp
      have hG := ge_at (key := key) hp
      rw [HX.out] at hG
      cases he : tE p.k key with
      | true =>
        rw [he, if_pos rfl] at hG
        obtain ⟨y1, y2⟩ := SO.out _ hG
        have Y1 : Hid (gvP l key = p.v) := y1
        have Y2 : Hid (gbP l key = true) := y2
        have he2 : (p.k.toList == key.toList) = true := he
        clear hG y1 y2 he hp
        go_wp2
        refine bodyPost_ret (results_tmp2 rfl _ _ _) rfl ?_
        dsimp only
        rw [Y1.out, Y2.out]
        exact ⟨rfl, HBr.out⟩
      | false =>
        rw [he, if_neg (by decide)] at hG
        have XN : Hid (geP (l.drop (k + 1)) key = geP l key) := hG.symm
        have he2 : (p.k.toList == key.toList) = false := he
        clear hG he hp
        go_wp2
        go_roundw
        case rel => exact ⟨k + 1, by omega, by go_num, XN.out, HBr.out⟩
        case measure => simp [Go.RowKit.intOf]; omega
    · have hge : ¬ (k : Int) < (l.length : Int) := by omega
      have hG := HX.out
      rw [List.drop_eq_nil_of_le (by omega)] at hG
      obtain ⟨y1, y2⟩ := NO.out hG.symm
      have Y1 : Hid (gvP l key = ⟨#[]⟩) := y1
      have Y2 : Hid (gbP l key = false) := y2
      clear hG y1 y2
      go_wp2
      refine bodyPost_ret (results_tmp2 rfl _ _ _) rfl ?_
      dsimp only
      rw [Y1.out, Y2.out]
      exact ⟨rfl, HBr.out⟩
set_option maxRecDepth 100000 in
set_option maxHeartbeats 4000000 in
theorem withoutR_any (v : Value) (l : List Pa) (key : ByteArray) (w : World) (hR : RdP w v l) : Calls Tryz.prog 16 #[v, .string key] w fun e w' => ∃ v', e = .returned v' ∧ OwnP w' w.heap.size v' (woP l key) ∧ Below w.heap.size w w' := by
  obtain ⟨hl, a, cap, rfl, _⟩ := hR.form
  have HR : Hid (RdP w (.slice a l.length cap) l) := hR
  have hlen : Hid (∀ k, (woP (l.take k) key).length ≤ 1000) := fun k => by have := woP_len (l.take k) key; rw [List.length_take] at this; omega
  clear hR
  go_enter Tryz.func16, Tryz.ntmps16
  go_wp2
  go_loopw [5, 6] (fun u i wr => ∃ (k : Nat) (o : Value), k ≤ l.length ∧ o = u ∧ i = .int .i64 k ∧ OwnP wr w.heap.size o (woP (l.take k) key) ∧ Below w.heap.size w wr) (fun _ i _ => l.length - (Go.RowKit.intOf i).toNat)
  case atStart => exact ⟨0, _, Nat.zero_le _, rfl, rfl, OwnP.bare _ _, Below.refl _ _⟩
  case round =>
    obtain ⟨k, o, hk, rfl, rfl, ho, hbr⟩ := hrel
    have HO : Hid (OwnP wr w.heap.size o (woP (l.take k) key)) := ho
    have HBr : Hid (Below w.heap.size w wr) := hbr
    have hn := hlen.out k
    clear ho hbr
    by_cases hlt : k < l.length
    · have hltI : (k : Int) < (l.length : Int) := by omega
      obtain ⟨p, hp⟩ : ∃ p, l[k]? = some p := ⟨_, List.getElem?_eq_getElem hlt⟩
      obtain ⟨bb, off, rfl, x0, x1⟩ := (HR.out.below HBr.out).get hp
      cases he : tE p.k key with
      | true =>
        have XN : Hid (OwnP wr w.heap.size o (woP (l.take (k + 1)) key)) := by (show OwnP _ _ _ _; rw [wo_yes hp he]; exact HO.out)
        have he2 : (p.k.toList == key.toList) = true := he
        clear he hp
        go_wp2
        go_roundw
        case rel => exact ⟨k + 1, _, by omega, rfl, by go_num, XN.out, HBr.out⟩
        case measure => simp [Go.RowKit.intOf]; omega
      | false =>
        have XN : Hid (woP (l.take (k + 1)) key = woP (l.take k) key ++ [p]) := wo_no hp he
        have he2 : (p.k.toList == key.toList) = false := he
        clear he hp
        go_wp2_with (first
          | (at_builtin; have t2 := HO.out.below (below_new wr (.cells #[.string p.k, .string p.v] 45)); have t4 := HBr.out.alloc HBr.out.size (.cells #[.string p.k, .string p.v] 45); have t3 := t4.size; refine append_rdc rfl _ _ 23 rfl w.heap.size 45 2 _ 32 Tryz.underlying23 Tryz.info45 rfl (by decide) (by decide) _ _ _ rfl t2 _ 1 (pc1 p) rfl (lit_rdc _ 45 (pc1 p) 2 _ rfl (by simp)) (pc1_one p) (by omega) t3 ?_; intro v4 w4 o4 g4; have B4 : Hid (Below w.heap.size w w4) := t4.grown g4 t3 (fun q hq => (World.ownsRow.lt t2 q hq).1); have O4 : Hid (OwnP w4 w.heap.size v4 (woP (l.take (k + 1)) key)) := (by rw [XN.out]; exact OwnP.snoc o4); clear o4 g4 t2 t3 t4))
        go_roundw
        case rel => exact ⟨k + 1, _, by omega, rfl, by go_num, O4.out, B4.out⟩
        case measure => simp [Go.RowKit.intOf]; omega
    · have hge : ¬ (k : Int) < (l.length : Int) := by omega
      have XN : Hid (OwnP wr w.heap.size o (woP l key)) := by (show OwnP _ _ _ _; have := HO.out; rwa [List.take_of_length_le (by omega)] at this)
      go_wp2
      exact bodyPost_ret (results_tmp rfl _ _ _) rfl ⟨o, rfl, XN.out, HBr.out⟩
/-- What With has put so far. -/
def ptB (M : List Pa) (x : Pa) (k : Nat) : Bool := (M.take k).any fun q => tL x.k q.k
def ouL (M : List Pa) (x : Pa) (k : Nat) : List Pa := if ptB M x k = true then inP x (M.take k) else M.take k
theorem pt_next {M : List Pa} {x p : Pa} {k : Nat} (h : M[k]? = some p) : ptB M x (k + 1) = (ptB M x k || tL x.k p.k) := by
  unfold ptB
  rw [take_nextz h, List.any_append]
  simp
theorem ou_put {M : List Pa} {x p : Pa} {k : Nat} (h : M[k]? = some p) (h1 : ptB M x k = false) (h2 : tL x.k p.k = true) : ouL M x (k + 1) = ouL M x k ++ [x] ++ [p] := by
  unfold ouL
  rw [pt_next h, h1, h2, if_pos (show (false || true) = true from rfl), if_neg (by decide), take_nextz h, inP_no [p] h1, List.append_assoc]
  unfold inP
  rw [h2]
  rfl
theorem ou_on {M : List Pa} {x p : Pa} {k : Nat} (h : M[k]? = some p) (h1 : ptB M x k = true) : ouL M x (k + 1) = ouL M x k ++ [p] := by
  unfold ouL
  rw [pt_next h, h1, if_pos (show (true || tL x.k p.k) = true from rfl), if_pos rfl, take_nextz h, inP_any [p] h1]
theorem ou_yet {M : List Pa} {x p : Pa} {k : Nat} (h : M[k]? = some p) (h1 : ptB M x k = false) (h2 : tL x.k p.k = false) : ouL M x (k + 1) = ouL M x k ++ [p] := by
  unfold ouL
  rw [pt_next h, h1, h2, if_neg (by decide), if_neg (by decide), take_nextz h]
theorem ou_len (M : List Pa) (x : Pa) (k : Nat) : (ouL M x k).length ≤ M.length + 1 := by
  unfold ouL
  split
  · rw [inP_len, List.length_take]; omega
  · rw [List.length_take]; omega
theorem ou_all {M : List Pa} {x : Pa} {k : Nat} (h : M.length ≤ k) (h1 : ptB M x k = true) : ouL M x k = inP x M := by
  unfold ouL
  rw [if_pos h1, List.take_of_length_le h]
theorem ou_end {M : List Pa} {x : Pa} {k : Nat} (h : M.length ≤ k) (h1 : ptB M x k = false) : ouL M x k ++ [x] = inP x M := by
  unfold ouL
  rw [h1, if_neg (by decide), List.take_of_length_le h]
  unfold ptB at h1
  rw [List.take_of_length_le h] at h1
  have := inP_no (x := x) [] h1
  rw [List.append_nil] at this
  rw [this]
  rfl
set_option maxRecDepth 100000 in
set_option maxHeartbeats 4000000 in
theorem withR_any (v : Value) (l : List Pa) (key val : ByteArray) (w : World) (hR : RdP w v l) : Calls Tryz.prog 14 #[v, .string key, .string val] w fun e w' => ∃ v', e = .returned v' ∧ OwnP w' w.heap.size v' (wiP l key val) ∧ Below w.heap.size w w' := by
  have hl := hR.form.1
  have K16 : Hid (Calls Tryz.prog 16 #[v, .string key] w fun e w' => ∃ v', e = .returned v' ∧ OwnP w' w.heap.size v' (woP l key) ∧ Below w.heap.size w w') := withoutR_any v l key w hR
  have hM := woP_len l key
  have HW : Hid (wiP l key val = inP ⟨key, val⟩ (woP l key)) := rfl
  generalize wiP l key val = W at *
  generalize woP l key = M at *
  have HLN : Hid (∀ k, (ouL M ⟨key, val⟩ k).length ≤ 1001) := fun k => by have := ou_len M ⟨key, val⟩ k; omega
  have hM9 : M.length ≤ 1000 := by omega
  clear hR hl hM
  go_enter Tryz.func14, Tryz.ntmps14
  go_wp2_with (first
    | (go_at_call 16; refine K16.out.mono ?_; rintro e w1 ⟨v1, rfl, o1, hb1⟩; have r1 := o1.rd (by omega); obtain ⟨_, a1, c1, rfl, _⟩ := r1.form; have R1 : Hid (RdP w1 (.slice a1 M.length c1) M) := r1; have B1 : Hid (Below w.heap.size w w1) := hb1; clear o1 r1 hb1))
  go_loopw [8, 9, 10] (fun u b i wr => ∃ (k : Nat) (o : Value), k ≤ M.length ∧ o = u ∧ b = .bool (ptB M ⟨key, val⟩ k) ∧ i = .int .i64 k ∧ OwnP wr w1.heap.size o (ouL M ⟨key, val⟩ k) ∧ Below w1.heap.size w1 wr) (fun _ _ i _ => M.length - (Go.RowKit.intOf i).toNat)
  case atStart => exact ⟨0, _, Nat.zero_le _, rfl, rfl, rfl, OwnP.bare _ _, Below.refl _ _⟩
  case round =>
    obtain ⟨k, o, hk, rfl, rfl, rfl, ho, hbr⟩ := hrel
    have HO : Hid (OwnP wr w1.heap.size o (ouL M ⟨key, val⟩ k)) := ho
    have HBr : Hid (Below w1.heap.size w1 wr) := hbr
    have hn := HLN.out k
    clear ho hbr
    by_cases hlt : k < M.length
    · have hltI : (k : Int) < (M.length : Int) := by omega
      obtain ⟨p, hp⟩ : ∃ p, M[k]? = some p := ⟨_, List.getElem?_eq_getElem hlt⟩
      obtain ⟨bb, off, rfl, x0, x1⟩ := (R1.out.below HBr.out).get hp
      cases hpt : ptB M ⟨key, val⟩ k with
      | true =>
        have XN : Hid (ouL M ⟨key, val⟩ (k + 1) = ouL M ⟨key, val⟩ k ++ [p]) := ou_on hp hpt
        have PN : Hid (ptB M ⟨key, val⟩ (k + 1) = true) := by (show _ = _; rw [pt_next hp, hpt]; rfl)
        cases htl : tL key p.k with
        | true =>
          obtain ⟨e7, e8⟩ := tL_le htl
          clear hpt htl hp
          go_wp2_with (first
            | (at_builtin; have t2 := HO.out.below (below_new wr (.cells #[.string p.k, .string p.v] 45)); have t4 := HBr.out.alloc HBr.out.size (.cells #[.string p.k, .string p.v] 45); have t3 := t4.size; refine append_rdc rfl _ _ 23 rfl w1.heap.size 45 2 _ 32 Tryz.underlying23 Tryz.info45 rfl (by decide) (by decide) _ _ _ rfl t2 _ 1 (pc1 p) rfl (lit_rdc _ 45 (pc1 p) 2 _ rfl (by simp)) (pc1_one p) (by omega) t3 ?_; intro v4 w4 o4 g4; have B4 : Hid (Below w1.heap.size w1 w4) := t4.grown g4 t3 (fun q hq => (World.ownsRow.lt t2 q hq).1); have O4 : Hid (OwnP w4 w1.heap.size v4 (ouL M ⟨key, val⟩ (k + 1))) := (by rw [XN.out]; exact OwnP.snoc o4); clear o4 g4 t2 t3 t4))
          go_roundw
          case rel => exact ⟨k + 1, _, by omega, rfl, by rw [PN.out], by go_num, O4.out, B4.out⟩
          case measure => simp [Go.RowKit.intOf]; omega
        | false =>
          rcases tL_ge htl with ⟨e7, e8⟩ | ⟨e7, e8⟩
          all_goals
            clear hpt htl hp
            go_wp2_with (first
              | (at_builtin; have t2 := HO.out.below (below_new wr (.cells #[.string p.k, .string p.v] 45)); have t4 := HBr.out.alloc HBr.out.size (.cells #[.string p.k, .string p.v] 45); have t3 := t4.size; refine append_rdc rfl _ _ 23 rfl w1.heap.size 45 2 _ 32 Tryz.underlying23 Tryz.info45 rfl (by decide) (by decide) _ _ _ rfl t2 _ 1 (pc1 p) rfl (lit_rdc _ 45 (pc1 p) 2 _ rfl (by simp)) (pc1_one p) (by omega) t3 ?_; intro v4 w4 o4 g4; have B4 : Hid (Below w1.heap.size w1 w4) := t4.grown g4 t3 (fun q hq => (World.ownsRow.lt t2 q hq).1); have O4 : Hid (OwnP w4 w1.heap.size v4 (ouL M ⟨key, val⟩ (k + 1))) := (by rw [XN.out]; exact OwnP.snoc o4); clear o4 g4 t2 t3 t4))
            go_roundw
            case rel => exact ⟨k + 1, _, by omega, rfl, by rw [PN.out], by go_num, O4.out, B4.out⟩
            case measure => simp [Go.RowKit.intOf]; omega
      | false =>
        cases htl : tL key p.k with
        | true =>
          obtain ⟨e7, e8⟩ := tL_le htl
          have XN : Hid (ouL M ⟨key, val⟩ (k + 1) = ouL M ⟨key, val⟩ k ++ [⟨key, val⟩] ++ [p]) := ou_put hp hpt htl
          have PN : Hid (ptB M ⟨key, val⟩ (k + 1) = true) := by (show _ = _; rw [pt_next hp, hpt, htl]; rfl)
          have hn4 : (ouL M ⟨key, val⟩ k ++ [(⟨key, val⟩ : Pa)]).length ≤ 1002 := by rw [List.length_append]; simp; omega
          have t1z : Hid (0 = 0) := rfl
          have t2z : Hid (0 = 0) := rfl
          clear hpt htl
          go_wp2_with (first
            | (at_builtin; clear t1z; have t2 := HO.out.below (below_new wr (.cells #[.string key, .string val] 45)); have t4 := HBr.out.alloc HBr.out.size (.cells #[.string key, .string val] 45); have t3 := t4.size; refine append_rdc rfl _ _ 23 rfl w1.heap.size 45 2 _ 32 Tryz.underlying23 Tryz.info45 rfl (by decide) (by decide) _ _ _ rfl t2 _ 1 (pc1 ⟨key, val⟩) rfl (lit_rdc _ 45 (pc1 ⟨key, val⟩) 2 _ rfl (by simp)) (pc1_one ⟨key, val⟩) (by omega) t3 ?_; intro v4 w4 o4 g4; have B4 : Hid (Below w1.heap.size w1 w4) := t4.grown g4 t3 (fun q hq => (World.ownsRow.lt t2 q hq).1); have O4 : Hid (OwnP w4 w1.heap.size v4 (ouL M ⟨key, val⟩ k ++ [⟨key, val⟩])) := (by exact OwnP.snoc o4); clear o4 g4 t2 t3 t4; have x04 := (R1.out.below B4.out).get hp; obtain ⟨bb4, off4, eb4, y0, y1⟩ := x04; cases eb4)
            | (at_builtin; clear t2z; have t2 := O4.out.below (below_new w4 (.cells #[.string p.k, .string p.v] 45)); have t4 := B4.out.alloc B4.out.size (.cells #[.string p.k, .string p.v] 45); have t3 := t4.size; refine append_rdc rfl _ _ 23 rfl w1.heap.size 45 2 _ 32 Tryz.underlying23 Tryz.info45 rfl (by decide) (by decide) _ _ _ rfl t2 _ 1 (pc1 p) rfl (lit_rdc _ 45 (pc1 p) 2 _ rfl (by simp)) (pc1_one p) (by omega) t3 ?_; intro v5 w5 o4 g4; have B5 : Hid (Below w1.heap.size w1 w5) := t4.grown g4 t3 (fun q hq => (World.ownsRow.lt t2 q hq).1); have O5 : Hid (OwnP w5 w1.heap.size v5 (ouL M ⟨key, val⟩ (k + 1))) := (by rw [XN.out]; exact OwnP.snoc o4); clear o4 g4 t2 t3 t4))
          go_roundw
          case rel => exact ⟨k + 1, _, by omega, rfl, by rw [PN.out], by go_num, O5.out, B5.out⟩
          case measure => simp [Go.RowKit.intOf]; omega
        | false =>
          have XN : Hid (ouL M ⟨key, val⟩ (k + 1) = ouL M ⟨key, val⟩ k ++ [p]) := ou_yet hp hpt htl
          have PN : Hid (ptB M ⟨key, val⟩ (k + 1) = false) := by (show _ = _; rw [pt_next hp, hpt, htl]; rfl)
          rcases tL_ge htl with ⟨e7, e8⟩ | ⟨e7, e8⟩
          all_goals
            clear hpt htl hp
            go_wp2_with (first
              | (at_builtin; have t2 := HO.out.below (below_new wr (.cells #[.string p.k, .string p.v] 45)); have t4 := HBr.out.alloc HBr.out.size (.cells #[.string p.k, .string p.v] 45); have t3 := t4.size; refine append_rdc rfl _ _ 23 rfl w1.heap.size 45 2 _ 32 Tryz.underlying23 Tryz.info45 rfl (by decide) (by decide) _ _ _ rfl t2 _ 1 (pc1 p) rfl (lit_rdc _ 45 (pc1 p) 2 _ rfl (by simp)) (pc1_one p) (by omega) t3 ?_; intro v4 w4 o4 g4; have B4 : Hid (Below w1.heap.size w1 w4) := t4.grown g4 t3 (fun q hq => (World.ownsRow.lt t2 q hq).1); have O4 : Hid (OwnP w4 w1.heap.size v4 (ouL M ⟨key, val⟩ (k + 1))) := (by rw [XN.out]; exact OwnP.snoc o4); clear o4 g4 t2 t3 t4))
            go_roundw
            case rel => exact ⟨k + 1, _, by omega, rfl, by rw [PN.out], by go_num, O4.out, B4.out⟩
            case measure => simp [Go.RowKit.intOf]; omega
    · have hge : ¬ (k : Int) < (M.length : Int) := by omega
      cases hpt : ptB M ⟨key, val⟩ k with
      | true =>
        have XN : Hid (OwnP wr w1.heap.size o W) := by (show OwnP _ _ _ _; rw [HW.out, ← ou_all (by omega) hpt]; exact HO.out)
        clear hpt
        go_wp2
        exact bodyPost_ret (results_tmp rfl _ _ _) rfl ⟨o, rfl, XN.out.mono B1.out.size, bstep B1.out HBr.out⟩
      | false =>
        have XE : Hid (W = ouL M ⟨key, val⟩ k ++ [⟨key, val⟩]) := by (show _ = _; rw [HW.out, ou_end (by omega) hpt])
        clear hpt
        go_wp2_with (first
          | (at_builtin; have t2 := HO.out.below (below_new wr (.cells #[.string key, .string val] 45)); have t4 := HBr.out.alloc HBr.out.size (.cells #[.string key, .string val] 45); have t3 := t4.size; refine append_rdc rfl _ _ 23 rfl w1.heap.size 45 2 _ 32 Tryz.underlying23 Tryz.info45 rfl (by decide) (by decide) _ _ _ rfl t2 _ 1 (pc1 ⟨key, val⟩) rfl (lit_rdc _ 45 (pc1 ⟨key, val⟩) 2 _ rfl (by simp)) (pc1_one ⟨key, val⟩) (by omega) t3 ?_; intro v4 w4 o4 g4; have B4 : Hid (Below w1.heap.size w1 w4) := t4.grown g4 t3 (fun q hq => (World.ownsRow.lt t2 q hq).1); have O4 : Hid (OwnP w4 w1.heap.size v4 (W)) := (by rw [XE.out]; exact OwnP.snoc o4); clear o4 g4 t2 t3 t4))
        exact bodyPost_ret (results_tmp rfl _ _ _) rfl ⟨v4, rfl, O4.out.mono B1.out.size, bstep B1.out B4.out⟩
end Go.Proofs.YtcgclhahonndbaaGreat
