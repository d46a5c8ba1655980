/- Walks of layer 5's statements: what was persisted is kept. -/
import Derived.Test.YthibgmndgkhfiaaStepin
import Derived.Test.YthibgmndgkhfiaaLawc
import Derived.Test.YthibgmndgkhfiaaNumk
namespace Go.Proofs.Ythibgmndgkhfiaa

/-- A step persists x's line; it stores at x's place. -/
def srB (x y : Mi) : Bool := decide (y.k = 2) && decide (y.a = x.a / 8)
def otB (x y : Mi) : Bool := decide (y.k = 1) && decide (y.a = x.a)
/-- What stands behind the i-th, ahead of the j-th. -/
def seg (l : List Mi) (i j : Nat) : List Mi := (l.take j).drop (i + 1)
def sureB (l : List Mi) (x : Mi) (i j : Nat) : Bool := (seg l i j).any (srB x)
def othB (l : List Mi) (x : Mi) (i j : Nat) : Bool := (seg l i j).any (otB x)
theorem seg_none (l : List Mi) (i : Nat) : seg l i (i + 1) = [] := by
  unfold seg; rw [List.drop_eq_nil_iff, List.length_take]; omega
theorem seg_next {l : List Mi} {i j : Nat} {y : Mi} (h : i + 1 ≤ j) (hy : l[j]? = some y) : seg l i (j + 1) = seg l i j ++ [y] := by
  have hj : j < l.length := (List.getElem?_eq_some_iff.1 hy).1
  unfold seg
  rw [take_next hy, List.drop_append_of_le_length (by rw [List.length_take]; omega)]
theorem sureB_none (l : List Mi) (x : Mi) (i : Nat) : sureB l x i (i + 1) = false := by unfold sureB; rw [seg_none]; rfl
theorem othB_none (l : List Mi) (x : Mi) (i : Nat) : othB l x i (i + 1) = false := by unfold othB; rw [seg_none]; rfl
theorem sureB_next {l : List Mi} {x : Mi} {i j : Nat} {y : Mi} (h : i + 1 ≤ j) (hy : l[j]? = some y) : sureB l x i (j + 1) = (sureB l x i j || srB x y) := by
  unfold sureB; rw [seg_next h hy, List.any_append]; simp
theorem othB_next {l : List Mi} {x : Mi} {i j : Nat} {y : Mi} (h : i + 1 ≤ j) (hy : l[j]? = some y) : othB l x i (j + 1) = (othB l x i j || otB x y) := by
  unfold othB; rw [seg_next h hy, List.any_append]; simp
theorem take_seg {l : List Mi} {i k : Nat} (hi : i < k) : l.take k = l.take (i + 1) ++ seg l i k := by
  have : (l.take k).take (i + 1) = l.take (i + 1) := by rw [List.take_take, Nat.min_eq_left (by omega)]
  unfold seg
  rw [← this, List.take_append_drop]

/-- At place q v is kept, whatever is kept of lines. -/
def Sure (m : Mm) (q : Nat) (v : Int) : Prop := m.per[q]? = some v ∧ ∀ p ∈ m.pend, p.a.toNat ≠ q
theorem crG_far (x : Int) (l : List Int) (ps : List Pd) {q : Nat} (h : ∀ p ∈ ps, p.a.toNat ≠ q) : (crG x l ps)[q]? = l[q]? := by
  induction ps generalizing x l with
  | nil => rfl
  | cons p ps ih =>
    rw [crG_cons]
    have h2 : ∀ p ∈ ps, p.a.toNat ≠ q := fun z hz => h z (by simp [hz])
    split
    · rw [ih _ _ h2, put1_far (h p (by simp))]
    · exact ih _ _ h2
theorem sure_crash {m : Mm} (hm : Ok m) {q : Nat} {v : Int} (h : Sure m q v) (hq : q < m.vol.length) (keep : List Int) : (crP m keep)[q]? = some v := by
  rw [crP_at hm keep hq, crG_far]
  · exact h.1
  · exact fun p hp => h.2 p (List.mem_filter.1 hp).1
theorem sure_put {m : Mm} (hm : Ok m) {q : Nat} {v : Int} (h : Sure m q v) {x : Mi} (hx : miB (m.vol.length : Int) x = true) (k : x.k = 1) (hn : x.a ≠ (q : Int)) : Sure (doM m x) q v := by
  obtain ⟨a0, a1⟩ := mi_one hx k
  rw [doM_one k, putM_yes (putB_yes (ok_true hm) a0 a1)]
  refine ⟨h.1, fun p hp => ?_⟩
  rcases List.mem_append.1 hp with hp | hp
  · exact h.2 p hp
  · rw [List.mem_singleton.1 hp]; show x.a.toNat ≠ q; omega
theorem sure_kM {m : Mm} {q : Nat} {v : Int} (h : Sure m q v) (bs : List Bool) : Sure (kM m (m.pend.zip bs)) q v := by
  refine ⟨?_, fun p hp => ?_⟩
  · show (kPer m.per (m.pend.zip bs))[q]? = _
    rw [kPer_far]
    · exact h.1
    · exact fun z hz _ => h.2 z.1 (List.of_mem_zip hz).1
  · have : p ∈ kPend (m.pend.zip bs) := hp
    exact h.2 p (List.of_mem_zip (kPend_mem this)).1
theorem sure_per {m : Mm} {q : Nat} {v : Int} (h : Sure m q v) (n : Int) : Sure (fenM (fluM m n)) q v := by
  have h1 : Sure (fluM m n) q v := by
    unfold fluM
    split
    · refine ⟨h.1, fun p hp => ?_⟩
      obtain ⟨z, hz, rfl⟩ := List.mem_map.1 hp
      rw [fluP_a]
      exact h.2 z hz
    · exact h
  unfold fenM
  split
  · exact sure_kM h1 _
  · exact h1
theorem sure_run {m : Mm} (hm : Ok m) {q : Nat} {v : Int} (h : Sure m q v) {l : List Mi} (hl : Val m.vol.length l) (hn : ∀ y ∈ l, ¬ (y.k = 1 ∧ y.a = (q : Int))) : Sure (runM m l) q v := by
  induction l generalizing m with
  | nil => exact h
  | cons x l ih =>
    have hx := hl x (by simp)
    have hl' : Val (doM m x).vol.length l := by rw [(do_len m x).1]; exact fun y hy => hl y (by simp [hy])
    refine ih (ok_do hm x) ?_ hl' (fun y hy => hn y (by simp [hy]))
    rcases miB_kind hx with k | k
    · exact sure_put hm h hx k (fun e => hn x (by simp) ⟨k, e⟩)
    · rw [doM_two k]; exact sure_per h x.a
/-- v is seen at q. -/
theorem seen_run {m : Mm} (hm : Ok m) {q : Nat} {v : Int} (h : m.vol[q]? = some v) {l : List Mi} (hl : Val m.vol.length l) (hn : ∀ y ∈ l, ¬ (y.k = 1 ∧ y.a = (q : Int))) : (runM m l).vol[q]? = some v := by
  induction l generalizing m with
  | nil => exact h
  | cons x l ih =>
    have hx := hl x (by simp)
    have hl' : Val (doM m x).vol.length l := by rw [(do_len m x).1]; exact fun y hy => hl y (by simp [hy])
    refine ih (ok_do hm x) ?_ hl' (fun y hy => hn y (by simp [hy]))
    rcases miB_kind hx with k | k
    · obtain ⟨a0, a1⟩ := mi_one hx k
      rw [doM_one k, putM_yes (putB_yes (ok_true hm) a0 a1)]
      show (m.vol.set x.a.toNat x.v)[q]? = _
      rw [List.getElem?_set_ne (fun e => hn x (by simp) ⟨k, by omega⟩)]
      exact h
    · rw [doM_two k, vol_fen, vol_flu]; exact h
/-- A line is persisted. -/
theorem sure_now {m : Mm} (hm : Ok m) {q : Nat} {v : Int} (h : m.vol[q]? = some v) {y : Mi} (hy : miB (m.vol.length : Int) y = true) (k : y.k = 2) (hl : y.a = ((q / 8 : Nat) : Int)) : Sure (doM m y) q v := by
  have hln := line_ok hm hy k
  rw [doM_two k]
  have hno := ff_none hln hm hl
  have hok := ok_fen (ok_flu hm y.a)
  refine ⟨?_, fun p hp e => hno p hp ?_⟩
  · rw [kept_seen hok hno, vol_fen, vol_flu]; exact h
  · have := ok_pos hok p hp
    unfold lnN
    omega
theorem kept_at {m : Mm} {l : List Mi} (hm : mrB m l = true) {i k : Nat} {x : Mi} (hi : i < k) (hx : l[i]? = some x) (k1 : x.k = 1) (hs : sureB l x i k = true) (ho : othB l x i k = false) (keep : List Int) : (crP (runM m (l.take k)) keep)[x.a.toNat]? = some x.v := by
  obtain ⟨hok, _⟩ := mrB_out hm
  have hv := val_of hm
  have hxm := hv x (List.mem_of_getElem? hx)
  obtain ⟨a0, a1⟩ := mi_one hxm k1
  have hq : ((x.a.toNat : Nat) : Int) = x.a := by omega
  -- ahead of it, and itself
  have h0 : Ok (runM m (l.take i)) := ok_run hok _
  have n0 : (runM m (l.take i)).vol.length = m.vol.length := (run_len m _).1
  have h1 : Ok (runM m (l.take (i + 1))) := ok_run hok _
  have n1 : (runM m (l.take (i + 1))).vol.length = m.vol.length := (run_len m _).1
  have v1 : (runM m (l.take (i + 1))).vol[x.a.toNat]? = some x.v := by
    rw [runM_next hx, doM_one k1, putM_yes (putB_yes (ok_true h0) a0 (by rw [n0]; exact a1))]
    show ((runM m (l.take i)).vol.set x.a.toNat x.v)[x.a.toNat]? = _
    rw [List.getElem?_set_self (by rw [n0]; omega)]
  -- what is behind it
  have hsv : ∀ y ∈ seg l i k, miB (m.vol.length : Int) y = true := fun y hy => hv y (List.mem_of_mem_take (List.mem_of_mem_drop hy))
  have hso : ∀ y ∈ seg l i k, ¬ (y.k = 1 ∧ y.a = ((x.a.toNat : Nat) : Int)) := by
    intro y hy hc
    unfold othB at ho
    rw [List.any_eq_false] at ho
    refine ho y hy ?_
    unfold otB
    rw [decide_eq_true hc.1, decide_eq_true (hc.2.trans hq)]
    rfl
  unfold sureB at hs
  rw [List.any_eq_true] at hs
  obtain ⟨y, hy, hsy⟩ := hs
  unfold srB at hsy
  simp only [Bool.and_eq_true, decide_eq_true_eq] at hsy
  obtain ⟨s1, s2, he⟩ := List.append_of_mem hy
  rw [he] at hsv hso
  have e : l.take k = l.take (i + 1) ++ (s1 ++ y :: s2) := by rw [← he]; exact take_seg hi
  have w1 : Val (runM m (l.take (i + 1))).vol.length s1 := by rw [n1]; exact fun z hz => hsv z (by simp [hz])
  have o1 : ∀ z ∈ s1, ¬ (z.k = 1 ∧ z.a = ((x.a.toNat : Nat) : Int)) := fun z hz => hso z (by simp [hz])
  have h2 : Ok (runM (runM m (l.take (i + 1))) s1) := ok_run h1 _
  have n2 : (runM (runM m (l.take (i + 1))) s1).vol.length = m.vol.length := by rw [(run_len _ _).1, n1]
  have v2 := seen_run h1 v1 w1 o1
  have g3 := sure_now h2 v2 (by rw [n2]; exact hsv y (by simp)) hsy.1 (by rw [hsy.2]; omega)
  have h3 : Ok (doM (runM (runM m (l.take (i + 1))) s1) y) := ok_do h2 y
  have n3 : (doM (runM (runM m (l.take (i + 1))) s1) y).vol.length = m.vol.length := by rw [(do_len _ _).1, n2]
  have g4 := sure_run h3 g3 (l := s2) (by rw [n3]; exact fun z hz => hsv z (by simp [hz])) (fun z hz => hso z (by simp [hz]))
  have e2 : runM m (l.take k) = runM (doM (runM (runM m (l.take (i + 1))) s1) y) s2 := by rw [e, runM_append, runM_append]; rfl
  rw [e2]
  exact sure_crash (ok_run h3 _) g4 (by rw [(run_len _ _).1, n3]; omega) keep
end Go.Proofs.Ythibgmndgkhfiaa
namespace Go.Proofs.Ythibgmndgkhfiaa
open Go.RowKit Go.Shelf
set_option linter.unusedVariables false

set_option maxRecDepth 100000 in
set_option maxHeartbeats 16000000 in
theorem kept_a (a1 a2 a3 a ak : Option Addr) (c1 c2 c3 cap ck : Nat) (cu : Int) (q : Nat) (l : List Mi) (keep : List Int) (w : World) (m : Mm) (HB : Hid (Below w.heap.size w (w.alloc (.cells #[.slice a1 m.vol.length c1, .slice a2 m.per.length c2, .slice a3 m.pend.length c3] 25)))) (HX : Hid (Bo (w.alloc (.cells #[.slice a1 m.vol.length c1, .slice a2 m.per.length c2, .slice a3 m.pend.length c3] 25)) w.heap.size (.slice a1 m.vol.length c1) (.slice a2 m.per.length c2) (.slice a3 m.pend.length c3))) (HR : Hid (RdM (w.alloc (.cells #[.slice a1 m.vol.length c1, .slice a2 m.per.length c2, .slice a3 m.pend.length c3] 25)) (.slice a1 m.vol.length c1) (.slice a2 m.per.length c2) (.slice a3 m.pend.length c3) m)) (HS : Hid (RdS (w.alloc (.cells #[.slice a1 m.vol.length c1, .slice a2 m.per.length c2, .slice a3 m.pend.length c3] 25)) (.slice a l.length cap) l)) (HK : Hid (Rd (w.alloc (.cells #[.slice a1 m.vol.length c1, .slice a2 m.per.length c2, .slice a3 m.pend.length c3] 25)) (.slice ak keep.length ck) keep)) (hBd : Bd keep) (hfew : fewB m.vol.length m.per.length m.pend.length = true) (hp : m.pend.length ≤ 100) (hl : (l.length : Int) ≤ 100) (hk3 : (keep.length : Int) ≤ 300) (hv : m.vol.length ≤ 300) (hu0 : 0 ≤ cu) (hu1 : cu < 256) (hcu : cu % ((l.length : Int) + 1) = (q : Int)) (hq : q ≤ l.length) (e1 : mrB m l = false) : Calls Try.prog 5 #[.agg #[.slice a1 m.vol.length c1, .slice a2 m.per.length c2, .slice a3 m.pend.length c3], .slice a l.length cap, .int .u8 cu, .slice ak keep.length ck] w fun e w' => e = .returned (.bool true) ∧ Below w.heap.size w w' := by
  have hp1 : m.pend.length + l.length ≤ 900 := by omega
  have he : ruE m l = 40 := ruE_no e1
  have hcs : (((csP m l (q : Int) keep).length : Int) == 0) = true := by rw [csP_no e1]; rfl
  clear e1
  have t0 : Hid (0 = 0) := rfl
  have t1 : Hid (0 = 0) := rfl
  have t2 : Hid (0 = 0) := rfl
  go_enter Try.func5, Try.ntmps5
  go_wp2_with (first
    | (go_at_call 8; clear t0; refine (awake_any _).mono ?_; rintro e w0 ⟨rfl, hb0⟩; have F1 : Hid (RdM w0 (.slice a1 m.vol.length c1) (.slice a2 m.per.length c2) (.slice a3 m.pend.length c3) m) := HR.out.below hb0; have F2 : Hid (Bo w0 w.heap.size (.slice a1 m.vol.length c1) (.slice a2 m.per.length c2) (.slice a3 m.pend.length c3)) := HX.out.below hb0; have F3 : Hid (Below w.heap.size w w0) := bstep HB.out hb0; have F4 : Hid (RdS w0 (.slice a l.length cap) l) := HS.out.below hb0; have F5 : Hid (Rd w0 (.slice ak keep.length ck) keep) := HK.out.below hb0; clear hb0; obtain ⟨⟨c6, c7, c8⟩, -⟩ := F2.out.bx; clear HR HX HB HS HK)
    | (go_at_call 9; clear t1; refine (few_any _ _ _ _ _ _ _ _ _ _).mono ?_; rintro e wf ⟨rfl, hbf⟩; have F9 : Hid (RdM wf (.slice a1 m.vol.length c1) (.slice a2 m.per.length c2) (.slice a3 m.pend.length c3) m) := F1.out.below hbf; have F10 : Hid (Bo wf w.heap.size (.slice a1 m.vol.length c1) (.slice a2 m.per.length c2) (.slice a3 m.pend.length c3)) := F2.out.below hbf; have F11 : Hid (Below w.heap.size w wf) := bstep F3.out hbf; have F12 : Hid (RdS wf (.slice a l.length cap) l) := F4.out.below hbf; have F13 : Hid (Rd wf (.slice ak keep.length ck) keep) := F5.out.below hbf; clear hbf; obtain ⟨⟨c14, c15, c16⟩, -⟩ := F10.out.bx; clear c6 c7 c8; clear F1 F2 F3 F4 F5)
    | (go_at_call 14; clear t2; refine (crashS_any _ _ _ _ _ m l (q : Int) keep _ F9.out F12.out F13.out hBd hp1).mono ?_; rintro e w_1 ⟨v_1, rfl, R_1, hb_1⟩; have R_1 : Rd w_1 v_1 (csP m l (q : Int) keep) := R_1; obtain ⟨l_1, a_1, c_1, rfl⟩ := R_1.form; have F17 : Hid (RdM w_1 (.slice a1 m.vol.length c1) (.slice a2 m.per.length c2) (.slice a3 m.pend.length c3) m) := F9.out.below hb_1; have F18 : Hid (Bo w_1 w.heap.size (.slice a1 m.vol.length c1) (.slice a2 m.per.length c2) (.slice a3 m.pend.length c3)) := F10.out.below hb_1; have F19 : Hid (Below w.heap.size w w_1) := bstep F11.out hb_1; have F20 : Hid (RdS w_1 (.slice a l.length cap) l) := F12.out.below hb_1; have F21 : Hid (Rd w_1 (.slice ak keep.length ck) keep) := F13.out.below hb_1; have F22 : Hid (Rd w_1 (.slice a_1 (csP m l (q : Int) keep).length c_1) (csP m l (q : Int) keep)) := R_1; clear R_1 hb_1 l_1; obtain ⟨⟨c23, c24, c25⟩, -⟩ := F18.out.bx; clear c14 c15 c16; clear F9 F10 F11 F12 F13))
  go_ret
  exact ⟨ret_bool (by simp), F19.out⟩

set_option maxRecDepth 100000 in
set_option maxHeartbeats 16000000 in
theorem kept_b (a1 a2 a3 a ak : Option Addr) (c1 c2 c3 cap ck : Nat) (cu : Int) (q : Nat) (l : List Mi) (keep : List Int) (w : World) (m : Mm) (HB : Hid (Below w.heap.size w (w.alloc (.cells #[.slice a1 m.vol.length c1, .slice a2 m.per.length c2, .slice a3 m.pend.length c3] 25)))) (HX : Hid (Bo (w.alloc (.cells #[.slice a1 m.vol.length c1, .slice a2 m.per.length c2, .slice a3 m.pend.length c3] 25)) w.heap.size (.slice a1 m.vol.length c1) (.slice a2 m.per.length c2) (.slice a3 m.pend.length c3))) (HR : Hid (RdM (w.alloc (.cells #[.slice a1 m.vol.length c1, .slice a2 m.per.length c2, .slice a3 m.pend.length c3] 25)) (.slice a1 m.vol.length c1) (.slice a2 m.per.length c2) (.slice a3 m.pend.length c3) m)) (HS : Hid (RdS (w.alloc (.cells #[.slice a1 m.vol.length c1, .slice a2 m.per.length c2, .slice a3 m.pend.length c3] 25)) (.slice a l.length cap) l)) (HK : Hid (Rd (w.alloc (.cells #[.slice a1 m.vol.length c1, .slice a2 m.per.length c2, .slice a3 m.pend.length c3] 25)) (.slice ak keep.length ck) keep)) (hBd : Bd keep) (hfew : fewB m.vol.length m.per.length m.pend.length = true) (hp : m.pend.length ≤ 100) (hl : (l.length : Int) ≤ 100) (hk3 : (keep.length : Int) ≤ 300) (hv : m.vol.length ≤ 300) (hu0 : 0 ≤ cu) (hu1 : cu < 256) (hcu : cu % ((l.length : Int) + 1) = (q : Int)) (hq : q ≤ l.length) (Hmr : Hid (mrB m l = true)) : Calls Try.prog 5 #[.agg #[.slice a1 m.vol.length c1, .slice a2 m.per.length c2, .slice a3 m.pend.length c3], .slice a l.length cap, .int .u8 cu, .slice ak keep.length ck] w fun e w' => e = .returned (.bool true) ∧ Below w.heap.size w w' := by
  have hp1 : m.pend.length + l.length ≤ 900 := by omega
  have he : ruE m l = 0 := ruE_yes Hmr.out
  have Hcs : Hid ((csP m l (q : Int) keep) = crP (runM m (l.take q)) keep) := by (show _ = _; rw [csP_yes Hmr.out, show tkN (q : Int) l.length = q from (by unfold tkN; omega)])
  have Hkd : Hid (∀ x ∈ l, x.k = 1 ∨ x.k = 2) := mrB_kinds Hmr.out
  have Hval : Hid (Val m.vol.length l) := val_of Hmr.out
  have t0 : Hid (0 = 0) := rfl
  have t1 : Hid (0 = 0) := rfl
  have t2 : Hid (0 = 0) := rfl
  go_enter Try.func5, Try.ntmps5
  go_wp2_with (first
    | (go_at_call 8; clear t0; refine (awake_any _).mono ?_; rintro e w0 ⟨rfl, hb0⟩; have F1 : Hid (RdM w0 (.slice a1 m.vol.length c1) (.slice a2 m.per.length c2) (.slice a3 m.pend.length c3) m) := HR.out.below hb0; have F2 : Hid (Bo w0 w.heap.size (.slice a1 m.vol.length c1) (.slice a2 m.per.length c2) (.slice a3 m.pend.length c3)) := HX.out.below hb0; have F3 : Hid (Below w.heap.size w w0) := bstep HB.out hb0; have F4 : Hid (RdS w0 (.slice a l.length cap) l) := HS.out.below hb0; have F5 : Hid (Rd w0 (.slice ak keep.length ck) keep) := HK.out.below hb0; clear hb0; obtain ⟨⟨c6, c7, c8⟩, -⟩ := F2.out.bx; clear HR HX HB HS HK)
    | (go_at_call 9; clear t1; refine (few_any _ _ _ _ _ _ _ _ _ _).mono ?_; rintro e wf ⟨rfl, hbf⟩; have F9 : Hid (RdM wf (.slice a1 m.vol.length c1) (.slice a2 m.per.length c2) (.slice a3 m.pend.length c3) m) := F1.out.below hbf; have F10 : Hid (Bo wf w.heap.size (.slice a1 m.vol.length c1) (.slice a2 m.per.length c2) (.slice a3 m.pend.length c3)) := F2.out.below hbf; have F11 : Hid (Below w.heap.size w wf) := bstep F3.out hbf; have F12 : Hid (RdS wf (.slice a l.length cap) l) := F4.out.below hbf; have F13 : Hid (Rd wf (.slice ak keep.length ck) keep) := F5.out.below hbf; clear hbf; obtain ⟨⟨c14, c15, c16⟩, -⟩ := F10.out.bx; clear c6 c7 c8; clear F1 F2 F3 F4 F5)
    | (go_at_call 14; clear t2; refine (crashS_any _ _ _ _ _ m l (q : Int) keep _ F9.out F12.out F13.out hBd hp1).mono ?_; rintro e w_1 ⟨v_1, rfl, R_1, hb_1⟩; have R_1 : Rd w_1 v_1 (csP m l (q : Int) keep) := R_1; obtain ⟨l_1, a_1, c_1, rfl⟩ := R_1.form; have F17 : Hid (RdM w_1 (.slice a1 m.vol.length c1) (.slice a2 m.per.length c2) (.slice a3 m.pend.length c3) m) := F9.out.below hb_1; have F18 : Hid (Bo w_1 w.heap.size (.slice a1 m.vol.length c1) (.slice a2 m.per.length c2) (.slice a3 m.pend.length c3)) := F10.out.below hb_1; have F19 : Hid (Below w.heap.size w w_1) := bstep F11.out hb_1; have F20 : Hid (RdS w_1 (.slice a l.length cap) l) := F12.out.below hb_1; have F21 : Hid (Rd w_1 (.slice ak keep.length ck) keep) := F13.out.below hb_1; have F22 : Hid (Rd w_1 (.slice a_1 (csP m l (q : Int) keep).length c_1) (csP m l (q : Int) keep)) := R_1; clear R_1 hb_1 l_1; obtain ⟨⟨c23, c24, c25⟩, -⟩ := F18.out.bx; clear c14 c15 c16; clear F9 F10 F11 F12 F13))
  clear c23 c24 c25
  generalize w_1 = WL at F17 F18 F19 F20 F21 F22 ⊢
  go_loopw [13] (fun s w4 => ∃ i : Nat, i ≤ q ∧ s = .int .i64 i ∧ Below WL.heap.size WL w4) (fun s _ => q - (intOf s).toNat)
  case atStart => exact ⟨0, Nat.zero_le _, rfl, Below.refl _ _⟩
  case round =>
    obtain ⟨i, hi, rfl, hbel⟩ := hrel
    have HBr : Hid (Below WL.heap.size WL wr) := hbel
    clear hbel
    by_cases hlt : i < q
    · have hltI : (i : Int) < (q : Int) := by omega
      have hil : (i : Int) < (l.length : Int) := by omega
      obtain ⟨x, hx⟩ : ∃ x, l[i]? = some x := ⟨_, List.getElem?_eq_getElem (show i < l.length by omega)⟩
      obtain ⟨xk, xa, xv⟩ := x
      have Hx : Hid (l[i]? = some ⟨xk, xa, xv⟩) := hx
      have hxk := Hkd.out _ (List.mem_of_getElem? hx)
      have hxa : 0 ≤ xa ∧ xa < 4096 := by
        have hm := Hval.out _ (List.mem_of_getElem? hx)
        rcases hxk with k1 | k1
        · have := mi_one hm k1
          dsimp only at this
          omega
        · have := mi_two hm k1
          dsimp only at this
          omega
      have hxa0 := hxa.1
      have hxa1 := hxa.2
      obtain ⟨blk, off, rfl, -⟩ := F20.out.get hx
      dsimp only at hxk
      clear hx hxa
      go_wp2
      go_loopw [14, 15, 16] (fun s o t w5 => ∃ j : Nat, i + 1 ≤ j ∧ j ≤ q ∧ s = .bool (sureB l ⟨xk, xa, xv⟩ i j) ∧ o = .bool (othB l ⟨xk, xa, xv⟩ i j) ∧ t = .int .i64 j ∧ Below WL.heap.size WL w5) (fun s o t _ => q - (intOf t).toNat)
      case atStart => exact ⟨i + 1, Nat.le_refl _, hlt, by rw [sureB_none], by rw [othB_none], by go_num, HBr.out⟩
      case round =>
        obtain ⟨j, hj1, hj2, rfl, rfl, rfl, hb2⟩ := hrel
        have HB2 : Hid (Below WL.heap.size WL wr) := hb2
        clear hb2
        have c0 := ((F20.out.below HB2.out).cells Hx.out).1
        have c1' := ((F20.out.below HB2.out).cells Hx.out).2.1
        have c2' := ((F20.out.below HB2.out).cells Hx.out).2.2
        dsimp only at c0 c1' c2'
        by_cases hltj : j < q
        · have hltjI : (j : Int) < (q : Int) := by omega
          have hjl : (j : Int) < (l.length : Int) := by omega
          obtain ⟨y, hy⟩ : ∃ y, l[j]? = some y := ⟨_, List.getElem?_eq_getElem (show j < l.length by omega)⟩
          obtain ⟨yk, ya, yv⟩ := y
          have Hy : Hid (l[j]? = some ⟨yk, ya, yv⟩) := hy
          have hyk := Hkd.out _ (List.mem_of_getElem? hy)
          have d0 := ((F20.out.below HB2.out).cells hy).1
          have d1 := ((F20.out.below HB2.out).cells hy).2.1
          clear hy
          dsimp only at d0 d1 hyk
          cases hs : sureB l ⟨xk, xa, xv⟩ i j <;> cases ho : othB l ⟨xk, xa, xv⟩ i j <;> rcases hyk with k1 | k1 <;> subst k1
          · go_wp2
            go_quiet (fail)
            go_wp2
            go_quiet (fail)
            go_wp2
            go_roundw
            case rel => exact ⟨j + 1, by omega, by omega, by rw [sureB_next hj1 Hy.out, hs]; simp [srB] <;> rfl, by rw [othB_next hj1 Hy.out, ho]; simp [otB] <;> rfl, by go_num, below_drewN HB2.out _⟩
            case measure => simp [intOf]; omega
          · go_wp2
            go_quiet (fail)
            go_wp2
            go_quiet (fail)
            go_wp2
            go_roundw
            case rel => exact ⟨j + 1, by omega, by omega, by rw [sureB_next hj1 Hy.out, hs]; simp [srB] <;> rfl, by rw [othB_next hj1 Hy.out, ho]; simp [otB] <;> rfl, by go_num, below_drewN HB2.out _⟩
            case measure => simp [intOf]; omega
          · go_wp2
            go_quiet (fail)
            go_wp2
            go_quiet (fail)
            go_wp2
            go_roundw
            case rel => exact ⟨j + 1, by omega, by omega, by rw [sureB_next hj1 Hy.out, hs]; simp [srB] <;> rfl, by rw [othB_next hj1 Hy.out, ho]; simp [otB] <;> rfl, by go_num, below_drewN HB2.out _⟩
            case measure => simp [intOf]; omega
          · go_wp2
            go_quiet (fail)
            go_wp2
            go_quiet (fail)
            go_wp2
            go_roundw
            case rel => exact ⟨j + 1, by omega, by omega, by rw [sureB_next hj1 Hy.out, hs]; simp [srB] <;> rfl, by rw [othB_next hj1 Hy.out, ho]; simp [otB] <;> rfl, by go_num, below_drewN HB2.out _⟩
            case measure => simp [intOf]; omega
          · go_wp2
            go_quiet (fail)
            go_wp2
            go_quiet (fail)
            go_wp2
            go_roundw
            case rel => exact ⟨j + 1, by omega, by omega, by rw [sureB_next hj1 Hy.out, hs]; simp [srB] <;> rfl, by rw [othB_next hj1 Hy.out, ho]; simp [otB] <;> rfl, by go_num, below_drewN HB2.out _⟩
            case measure => simp [intOf]; omega
          · go_wp2
            go_quiet (fail)
            go_wp2
            go_quiet (fail)
            go_wp2
            go_roundw
            case rel => exact ⟨j + 1, by omega, by omega, by rw [sureB_next hj1 Hy.out, hs]; simp [srB] <;> rfl, by rw [othB_next hj1 Hy.out, ho]; simp [otB] <;> rfl, by go_num, below_drewN HB2.out _⟩
            case measure => simp [intOf]; omega
          · go_wp2
            go_quiet (fail)
            go_wp2
            go_quiet (fail)
            go_wp2
            go_roundw
            case rel => exact ⟨j + 1, by omega, by omega, by rw [sureB_next hj1 Hy.out, hs]; simp [srB] <;> rfl, by rw [othB_next hj1 Hy.out, ho]; simp [otB] <;> rfl, by go_num, below_drewN HB2.out _⟩
            case measure => simp [intOf]; omega
          · go_wp2
            go_quiet (fail)
            go_wp2
            go_quiet (fail)
            go_wp2
            go_roundw
            case rel => exact ⟨j + 1, by omega, by omega, by rw [sureB_next hj1 Hy.out, hs]; simp [srB] <;> rfl, by rw [othB_next hj1 Hy.out, ho]; simp [otB] <;> rfl, by go_num, below_drewN HB2.out _⟩
            case measure => simp [intOf]; omega
        · obtain rfl : j = q := by omega
          cases hs : sureB l ⟨xk, xa, xv⟩ i j
          · rcases hxk with k1 | k1 <;> subst k1
            · go_wp2
              go_quiet (fail)
              go_wp2
              go_roundw
              case rel => exact ⟨i + 1, by omega, by go_num, below_drewN HB2.out _⟩
              case measure => simp [intOf]; omega
            · go_wp2
              go_quiet (fail)
              go_wp2
              go_roundw
              case rel => exact ⟨i + 1, by omega, by go_num, below_drewN HB2.out _⟩
              case measure => simp [intOf]; omega
          · cases ho : othB l ⟨xk, xa, xv⟩ i j
            · rcases hxk with k1 | k1
              · subst k1
                have hkept := kept_at Hmr.out hlt Hx.out rfl hs ho keep
                dsimp only at hkept
                obtain ⟨p, rfl⟩ := Int.eq_ofNat_of_zero_le hxa0
                rw [Int.toNat_natCast, ← Hcs.out] at hkept
                have hpl : p < (csP m l (j : Int) keep).length := (List.getElem?_eq_some_iff.1 hkept).1
                have hplI : (p : Int) < ((csP m l (j : Int) keep).length : Int) := by omega
                obtain ⟨bw, ow, rfl, -⟩ := (F22.out.below HB2.out).base (by omega)
                have hcw := (F22.out.below HB2.out).cell hkept
                have hne : (xv != xv) = false := by simp
                have hge : decide (((csP m l (j : Int) keep).length : Int) ≤ (p : Int)) = false := decide_eq_false (by omega)
                have hgn : decide ((csP m l (j : Int) keep).length ≤ p) = false := decide_eq_false (by omega)
                clear hkept
                go_wp2
                go_quiet (fail)
                go_wp2
                go_roundw
                case rel => exact ⟨i + 1, by omega, by go_num, below_drewN HB2.out _⟩
                case measure => simp [intOf]; omega
              · subst k1
                go_wp2
                go_quiet (fail)
                go_wp2
                go_roundw
                case rel => exact ⟨i + 1, by omega, by go_num, below_drewN HB2.out _⟩
                case measure => simp [intOf]; omega
            · rcases hxk with k1 | k1 <;> subst k1
              · go_wp2
                go_quiet (fail)
                go_wp2
                go_roundw
                case rel => exact ⟨i + 1, by omega, by go_num, below_drewN HB2.out _⟩
                case measure => simp [intOf]; omega
              · go_wp2
                go_quiet (fail)
                go_wp2
                go_roundw
                case rel => exact ⟨i + 1, by omega, by go_num, below_drewN HB2.out _⟩
                case measure => simp [intOf]; omega
    · go_wp2
      go_ret
      exact ⟨rfl, bstep F19.out HBr.out⟩

set_option maxRecDepth 100000 in
set_option maxHeartbeats 4000000 in
theorem walk_MicroKept (a1 a2 a3 : Option Addr) (n1 n2 n3 c1 c2 c3 : Nat) (a : Option Addr) (nl cap : Nat) (cu : Int) (ak : Option Addr) (nk ck : Nat) (w : World) (hm : MemIn w a1 a2 a3 n1 n2 n3 c1 c2 c3) (hs : StIn w a nl cap) (hu : (Lit.int .u8 cu).wf = true) (hk : KeepIn w ak nk ck) :
    Calls Try.prog 5 #[.agg #[.slice a1 n1 c1, .slice a2 n2 c2, .slice a3 n3 c3], .slice a nl cap, .int .u8 cu, .slice ak nk ck] w fun e w' => e = .returned (.bool true) ∧ Below w.heap.size w w' := by
  have HB : Hid (Below w.heap.size w (w.alloc (.cells #[.slice a1 n1 c1, .slice a2 n2 c2, .slice a3 n3 c3] 25))) := (Below.refl _ _).alloc (Nat.le_refl _) _
  have HX : Hid (Bo (w.alloc (.cells #[.slice a1 n1 c1, .slice a2 n2 c2, .slice a3 n3 c3] 25)) w.heap.size (.slice a1 n1 c1) (.slice a2 n2 c2) (.slice a3 n3 c3)) := Bo.new w _ _ _
  have hu2 : 0 ≤ cu ∧ cu < 256 := by
    simp [Lit.wf, IntKind.min, IntKind.max, IntKind.bits, IntKind.signed] at hu
    omega
  by_cases h : n1 ≤ 300 ∧ n2 ≤ 300 ∧ n3 ≤ 100
  · obtain ⟨h1, h2, h3⟩ := h
    have hfew : fewB n1 n2 n3 = true := decide_eq_true ⟨h1, h2, h3⟩
    by_cases hnl : (nl : Int) ≤ 100
    · by_cases hnk : (nk : Int) ≤ 300
      · obtain ⟨m, rfl, rfl, rfl, hR⟩ := hm h1 h2 h3
        obtain ⟨l, rfl, hcap, hS⟩ := hs (by omega)
        obtain ⟨keep, rfl, hK, hBd⟩ := hk (by omega)
        have hr0 : 0 ≤ cu % ((l.length : Int) + 1) := Int.emod_nonneg _ (by omega)
        have hr1 : cu % ((l.length : Int) + 1) < (l.length : Int) + 1 := Int.emod_lt_of_pos _ (by omega)
        obtain ⟨q, hq⟩ := Int.eq_ofNat_of_zero_le hr0
        cases e1 : mrB m l
        · exact kept_a a1 a2 a3 a ak c1 c2 c3 cap ck cu q l keep w m HB HX (hR.below HB.out) (hS.below HB.out) (hK.below HB.out) hBd hfew h3 hnl hnk h1 hu2.1 hu2.2 hq (by omega) e1
        · exact kept_b a1 a2 a3 a ak c1 c2 c3 cap ck cu q l keep w m HB HX (hR.below HB.out) (hS.below HB.out) (hK.below HB.out) hBd hfew h3 hnl hnk h1 hu2.1 hu2.2 hq (by omega) e1
      · clear hm hs hu hk
        go_enter Try.func5, Try.ntmps5
        go_wp2_with (first
          | (go_at_call 8; refine (awake_any _).mono ?_; rintro e w0 ⟨rfl, hb0⟩; have HX0 : Hid (Bo w0 _ _ _ _) := HX.out.below hb0; obtain ⟨⟨x0, x1, x2⟩, _⟩ := HX0.out.bx; have HB0 : Hid (Below w.heap.size w w0) := bstep HB.out hb0)
          | (go_at_call 9; refine (few_any _ _ _ _ _ _ _ _ _ _).mono ?_; rintro e wf ⟨rfl, hbf⟩))
        go_ret
        exact ⟨rfl, bstep HB0.out hbf⟩
    · clear hm hs hu hk
      go_enter Try.func5, Try.ntmps5
      go_wp2_with (first
        | (go_at_call 8; refine (awake_any _).mono ?_; rintro e w0 ⟨rfl, hb0⟩; have HX0 : Hid (Bo w0 _ _ _ _) := HX.out.below hb0; obtain ⟨⟨x0, x1, x2⟩, _⟩ := HX0.out.bx; have HB0 : Hid (Below w.heap.size w w0) := bstep HB.out hb0)
        | (go_at_call 9; refine (few_any _ _ _ _ _ _ _ _ _ _).mono ?_; rintro e wf ⟨rfl, hbf⟩))
      go_ret
      exact ⟨rfl, bstep HB0.out hbf⟩
  · have hfew : fewB n1 n2 n3 = false := decide_eq_false h
    clear hm hs hu hk
    go_enter Try.func5, Try.ntmps5
    go_wp2_with (first
      | (go_at_call 8; refine (awake_any _).mono ?_; rintro e w0 ⟨rfl, hb0⟩; have HX0 : Hid (Bo w0 _ _ _ _) := HX.out.below hb0; obtain ⟨⟨x0, x1, x2⟩, _⟩ := HX0.out.bx; have HB0 : Hid (Below w.heap.size w w0) := bstep HB.out hb0)
      | (go_at_call 9; refine (few_any _ _ _ _ _ _ _ _ _ _).mono ?_; rintro e wf ⟨rfl, hbf⟩))
    go_ret
    exact ⟨rfl, bstep HB0.out hbf⟩
end Go.Proofs.Ythibgmndgkhfiaa
