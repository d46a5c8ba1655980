/- Walks of layer 6's statements: slots that are unlike; a memory that is laid; a list with one more, and without one. -/
import Derived.Test.YtoboiahknapddaaFaste
import Derived.Test.YtoboiahknapddaaWalks
import Derived.Test.YtoboiahknapddaaFastg
namespace Go.Proofs.Ytoboiahknapddaa
open Go.RowKit Go.Shelf
set_option linter.unusedVariables false

/-- Slots above 0, no two alike, nor one another one. -/
def Unl (l : List Int) (r : Int) : Prop := (∀ x ∈ l, 0 < x ∧ x ≠ r) ∧ l.Nodup
def Unl.dec (l : List Int) (r : Int) : Decidable (Unl l r) := by unfold Unl; exact inferInstance
def unB (l : List Int) (r : Int) : Bool := @decide (Unl l r) (Unl.dec l r)
theorem unl_next {l : List Int} {r : Int} {k : Nat} {x : Int} (h : Unl (l.take k) r) (hx : l[k]? = some x) (h0 : 0 < x) (h1 : x ≠ r) (hn : x ∉ l.take k) : Unl (l.take (k + 1)) r := by
  rw [take_next hx]
  refine ⟨fun y hy => ?_, ?_⟩
  · rcases List.mem_append.1 hy with hy | hy
    · exact h.1 y hy
    · rw [List.mem_singleton.1 hy]; exact ⟨h0, h1⟩
  · rw [List.nodup_append]
    refine ⟨h.2, List.nodup_cons.2 ⟨by simp, List.nodup_nil⟩, ?_⟩
    intro a ha b hb e
    rw [List.mem_singleton.1 hb] at e
    subst e
    exact hn ha
theorem unB_no1 {l : List Int} {r : Int} {k : Nat} {x : Int} (hx : l[k]? = some x) (h : ¬ (0 < x ∧ x ≠ r)) : unB l r = false := @decide_eq_false _ (Unl.dec l r) fun u => h (u.1 x (List.mem_of_getElem? hx))
theorem unB_no2 {l : List Int} {r : Int} {i k : Nat} {x : Int} (hx : l[k]? = some x) (hi : l[i]? = some x) (hik : i < k) : unB l r = false := @decide_eq_false _ (Unl.dec l r) fun u => by
  obtain ⟨hk, e1⟩ := List.getElem?_eq_some_iff.1 hx
  obtain ⟨hi', e2⟩ := List.getElem?_eq_some_iff.1 hi
  exact List.pairwise_iff_getElem.1 u.2 i k hi' hk hik (e2.trans e1.symm)

set_option maxRecDepth 100000 in
set_option maxHeartbeats 4000000 in
theorem unlike_any (v : Value) (l : List Int) (r : Int) (w : World) (hR : Rd w v l) : Calls Try.prog 26 #[v, .int .i64 r] w fun e w' => e = .returned (.bool (unB l r)) ∧ Below w.heap.size w w' := by
  have HR : Hid (Rd w v l) := hR
  obtain ⟨hl, a, cap, rfl⟩ := hR.form
  clear hR
  go_enter Try.func26, Try.ntmps26
  go_wp2
  go_loopw [5] (fun i w1 => ∃ k : Nat, k ≤ l.length ∧ i = .int .i64 k ∧ Unl (l.take k) r ∧ Below w.heap.size w w1) (fun i _ => l.length - (intOf i).toNat)
  case atStart => exact ⟨0, Nat.zero_le _, rfl, ⟨(fun x hx => by cases hx), List.nodup_nil⟩, Below.refl _ _⟩
  case round =>
    obtain ⟨k, hk, rfl, hu, hB⟩ := hrel
    have Hu : Hid (Unl (l.take k) r) := hu
    have HB : Hid (Below w.heap.size w wr) := hB
    clear hu hB
    by_cases hlt : k < l.length
    · have hltI : (k : Int) < (l.length : Int) := by omega
      obtain ⟨x, hx⟩ : ∃ x, l[k]? = some x := ⟨_, List.getElem?_eq_getElem hlt⟩
      obtain ⟨blk, off, rfl, hat⟩ := (HR.out.below HB.out).base (by omega)
      have hc := hat _ _ hx
      have Hx : Hid (l[k]? = some x) := hx
      clear hx hat
      by_cases h0 : x ≤ 0
      · have hd : decide (x ≤ 0) = true := decide_eq_true h0
        have Hn : Hid (unB l r = false) := unB_no1 Hx.out (by omega)
        go_wp2
        go_ret
        exact ⟨ret_bool Hn.out.symm, HB.out⟩
      · have hd : decide (x ≤ 0) = false := decide_eq_false h0
        by_cases h1 : x = r
        · have hd1 : (x == r) = true := by simpa using h1
          have Hn : Hid (unB l r = false) := unB_no1 Hx.out (by omega)
          clear h1
          go_wp2
          go_ret
          exact ⟨ret_bool Hn.out.symm, HB.out⟩
        · have hd1 : (x == r) = false := by simpa using h1
          have H01 : Hid (0 < x ∧ x ≠ r) := ⟨by omega, h1⟩
          clear h1
          go_wp2
          go_loopw [6] (fun i w1 => ∃ i2 : Nat, i2 ≤ k ∧ i = .int .i64 i2 ∧ x ∉ l.take i2 ∧ Below w.heap.size w w1) (fun i _ => k - (intOf i).toNat)
          case atStart => exact ⟨0, Nat.zero_le _, rfl, by simp, HB.out⟩
          case round =>
            clear hc HB
            obtain ⟨i2, hi2, rfl, hn, hB⟩ := hrel
            have Hn2 : Hid (x ∉ l.take i2) := hn
            have HB : Hid (Below w.heap.size w wr) := hB
            clear hn hB
            by_cases hlt2 : i2 < k
            · have hlt2I : (i2 : Int) < (k : Int) := by omega
              have hi2I : (i2 : Int) < (l.length : Int) := by omega
              obtain ⟨y, hy⟩ : ∃ y, l[i2]? = some y := ⟨_, List.getElem?_eq_getElem (by omega)⟩
              obtain ⟨blk2, off2, e, hat⟩ := (HR.out.below HB.out).base (by omega)
              cases e
              have hc := hat _ _ Hx.out
              have hcy := hat _ _ hy
              have Hy : Hid (l[i2]? = some y) := hy
              clear hy hat
              by_cases hyx : y = x
              · have hd2 : (y == x) = true := by simpa using hyx
                have Hn : Hid (unB l r = false) := unB_no2 Hx.out (by rw [← hyx]; exact Hy.out) hlt2
                clear hyx
                go_wp2
                go_quiet (fail)
                go_wp2
                go_ret
                exact ⟨ret_bool Hn.out.symm, below_drewN HB.out _⟩
              · have hd2 : (y == x) = false := by simpa using hyx
                have Hn : Hid (x ∉ l.take (i2 + 1)) := by
                  intro hm
                  rw [take_next Hy.out] at hm
                  rcases List.mem_append.1 hm with hm | hm
                  · exact Hn2.out hm
                  · exact hyx (List.mem_singleton.1 hm).symm
                clear hyx
                go_wp2
                go_quiet (fail)
                go_wp2
                go_roundw
                case rel => exact ⟨i2 + 1, by omega, by go_num, Hn.out, below_drewN HB.out _⟩
                case measure => simp [intOf]; omega
            · have hge : ¬ (i2 : Int) < (k : Int) := by omega
              have Hn : Hid (Unl (l.take (k + 1)) r) := unl_next Hu.out Hx.out H01.out.1 H01.out.2 (by have := Hn2.out; rwa [show i2 = k from by omega] at this)
              go_wp2
              go_roundw
              case rel => exact ⟨k + 1, by omega, by go_num, Hn.out, HB.out⟩
              case measure => simp [intOf]; omega
    · have hge : ¬ (k : Int) < (l.length : Int) := by omega
      have Hn : Hid (unB l r = true) := @decide_eq_true _ (Unl.dec l r) (by have := Hu.out; rwa [List.take_of_length_le (by omega)] at this)
      go_wp2
      go_ret
      exact ⟨ret_bool Hn.out.symm, HB.out⟩
theorem allM_new {L : List Int} (h : L.length = 32) : newM L = allM L ∧ newE L = 0 := by
  have e : mayB L.length = true := by rw [h]; decide
  exact ⟨by unfold newM; rw [e]; rfl, by unfold newE; rw [e]; rfl⟩
def zc32 : Array Value := madeCells (Value.int .i64 0).cells 32
theorem mk32 : ∀ w, (Instr.makeSlice 22 (.int .i64 32) (.int .i64 32)).run Try.prog w = .ok (.slice (some ⟨w.heap.size, 0, none⟩) 32 32) (w.alloc (.cells zc32 3)) := by
  intro w
  obtain ⟨i0, hi, hz0, hz1, hz2⟩ := info_parts Try.info3
  have := run_make (P := Try.prog) w 22 3 i0 (.int .i64 0) Try.underlying22 hi hz0 .i64 .i64 32 32 (by omega) (by omega) (by rw [hz2]; omega) (by omega)
  rw [hz1] at this
  exact this
theorem own_zc32 (W : World) {b : Nat} (hb : b = W.heap.size) : OwnI (W.alloc (.cells zc32 3)) W.heap.size (.slice (some ⟨b, 0, none⟩) 32 32) (laidW []) := by
  subst hb
  have e : zc32.toList = (laidW []).map (Value.int .i64) := by
    show (madeCells (Value.int .i64 0).cells 32).toList = _
    rw [show (madeCells (Value.int .i64 0).cells 32).toList = List.replicate 32 (Value.int .i64 0) from toList_madeCells_one _ _]
    rfl
  have hsz : zc32.size = 32 := by rw [← Array.length_toList, e]; rfl
  have hl : (laidW []).length = 32 := rfl
  unfold OwnI
  rw [hl]
  refine ⟨rfl, .inr ⟨W.heap.size, 32, zc32, rfl, Nat.le_refl _, heap_alloc_new W _, Nat.le_refl _, by decide, by rw [hsz], ?_⟩⟩
  rw [← e]
  rw [show 32 * 1 = 32 from rfl, List.take_of_length_le (by rw [Array.length_toList, hsz]; exact Nat.le_refl _)]

set_option maxRecDepth 100000 in
set_option maxHeartbeats 4000000 in
theorem laid_any (v : Value) (l : List Int) (w : World) (hR : Rd w v l) (h13 : l.length ≤ 13) : Calls Try.prog 29 #[v] w fun e w' => ∃ va vb vc, e = .returned (.agg #[va, vb, vc]) ∧ RdM w' va vb vc (allM (laidW l)) ∧ Below w.heap.size w w' := by
  have HR : Hid (Rd w v l) := hR
  obtain ⟨hl, a, cap, rfl⟩ := hR.form
  clear hR
  have m32 := mk32
  have HW0 : Hid (Below w.heap.size w (w.alloc (.cells #[.slice none 0 0, .slice none 0 0, .slice none 0 0] 41))) := (Below.refl _ _).alloc (Nat.le_refl _) _
  have HY0 : Hid (Bo (w.alloc (.cells #[.slice none 0 0, .slice none 0 0, .slice none 0 0] 41)) w.heap.size (.slice none 0 0) (.slice none 0 0) (.slice none 0 0)) := Bo.new w _ _ _
  have HO0 : Hid (OwnI ((w.alloc (.cells #[.slice none 0 0, .slice none 0 0, .slice none 0 0] 41)).alloc (.cells zc32 3)) (w.alloc (.cells #[.slice none 0 0, .slice none 0 0, .slice none 0 0] 41)).heap.size (.slice (some ⟨w.heap.size + 1, 0, none⟩) 32 32) (laidW [])) := own_zc32 _ (by simp)
  have HB0 : Hid (Below (w.alloc (.cells #[.slice none 0 0, .slice none 0 0, .slice none 0 0] 41)).heap.size (w.alloc (.cells #[.slice none 0 0, .slice none 0 0, .slice none 0 0] 41)) ((w.alloc (.cells #[.slice none 0 0, .slice none 0 0, .slice none 0 0] 41)).alloc (.cells zc32 3))) := (Below.refl _ _).alloc (Nat.le_refl _) _
  have hsz0 : (w.alloc (.cells #[.slice none 0 0, .slice none 0 0, .slice none 0 0] 41)).heap.size = w.heap.size + 1 := by simp
  go_enter Try.func29, Try.ntmps29
  go_wp2
  generalize hw0 : w.alloc (.cells #[.slice none 0 0, .slice none 0 0, .slice none 0 0] 41) = w0 at *
  go_loopw [4] (fun i w1 => ∃ k : Nat, k ≤ l.length ∧ i = .int .i64 k ∧ OwnI w1 w0.heap.size (.slice (some ⟨w.heap.size + 1, 0, none⟩) 32 32) (laidW (l.take k)) ∧ Below w0.heap.size w0 w1) (fun i _ => l.length - (intOf i).toNat)
  case atStart => exact ⟨0, Nat.zero_le _, rfl, HO0.out, HB0.out⟩
  case round =>
    obtain ⟨k, hk, rfl, hO, hB⟩ := hrel
    have HO : Hid (OwnI wr w0.heap.size (.slice (some ⟨w.heap.size + 1, 0, none⟩) 32 32) (laidW (l.take k))) := hO
    have HB : Hid (Below w0.heap.size w0 wr) := hB
    clear hO hB
    by_cases hlt : k < l.length
    · have hltI : (k : Int) < (l.length : Int) := by omega
      have hk13 : (k : Int) < 13 := by omega
      obtain ⟨x, hx⟩ : ∃ x, l[k]? = some x := ⟨_, List.getElem?_eq_getElem hlt⟩
      obtain ⟨blk, off, rfl, hat⟩ := ((HR.out.below HW0.out).below HB.out).base (by omega)
      have hc := hat _ _ hx
      have hlt2 : (l.take k).length = k := by rw [List.length_take]; omega
      have hat19 : (laidW (l.take k))[19 + k]? = some ((l.take k).getD (19 + k - 19) 0) := by rw [laidW_at (by omega), if_neg (by omega), if_pos (by omega)]
      obtain ⟨c1, f1, hset⟩ := HO.out.at hat19
      have hs2 : (laidW (l.take k)).set (19 + k) x = laidW (l.take (k + 1)) := by
        refine laidW_set (by omega) (by rw [List.length_take]; omega) (by omega) fun q hq => ?_
        rw [getD_take, getD_take]
        by_cases h1 : q = k
        · rw [if_pos (by omega), if_pos h1, h1, List.getD_eq_getElem?_getD, hx]; rfl
        · rw [if_neg h1]
          by_cases h2 : q < k
          · rw [if_pos h2, if_pos (by omega)]
          · rw [if_neg h2, if_neg (by omega)]
      have Hset : Hid (OwnI (wr.setCell ⟨w.heap.size + 1, 19 + k, none⟩ (.int .i64 x)) w0.heap.size (.slice (some ⟨w.heap.size + 1, 0, none⟩) 32 32) (laidW (l.take (k + 1)))) := by (rw [← hs2]; exact hset x)
      clear hx hat hat19 hset hs2 hlt2
      go_wp2
      go_roundw
      case rel => exact ⟨k + 1, by omega, by go_num, Hset.out, HB.out.setCell (p := ⟨w.heap.size + 1, 19 + k, none⟩) (by show w0.heap.size ≤ w.heap.size + 1; omega) _⟩
      case measure => simp [intOf]; omega
    · have hge : ¬ (k : Int) < (l.length : Int) := by omega
      have HL : Hid (Rd wr (.slice (some ⟨w.heap.size + 1, 0, none⟩) 32 32) (laidW l)) := by
        have e := HO.out.rd (by rw [laidW_length (by rw [List.length_take]; omega)]; omega)
        rwa [List.take_of_length_le (by omega)] at e
      have HE : Hid (newM (laidW l) = allM (laidW l) ∧ newE (laidW l) = 0) := allM_new (laidW_length h13)
      go_wp2_with (first
        | (go_at_call 46; refine (new_any _ (laidW l) _ HL.out).mono ?_; rintro e w3 ⟨v1, v2, v3, rfl, R3, b3⟩; rw [HE.out.1] at R3; obtain ⟨g1, d1, g2, d2, g3, d3, rfl, rfl, rfl⟩ := R3.forms; have HB3 : Hid (Below w0.heap.size w0 w3) := bstep HB.out b3; have HR3 : Hid (RdM w3 _ _ _ (allM (laidW l))) := R3; have HY4 : Hid (Bo (w3.alloc (.cells #[.slice g1 (allM (laidW l)).vol.length d1, .slice g2 (allM (laidW l)).per.length d2, .slice g3 (allM (laidW l)).pend.length d3] 41)) w.heap.size (.slice none 0 0) (.slice none 0 0) (.slice none 0 0)) := (HY0.out.below HB3.out).below ((Below.refl _ _).alloc (Nat.le_refl _) _); have hlt9 : w.heap.size < w3.heap.size := (HY0.out.below HB3.out).lt; obtain ⟨⟨y0, y1, y2⟩, yf0, yf1, yf2⟩ := (HY0.out.below HB3.out).bx; clear R3 b3))
      obtain ⟨f1, f2, f3⟩ := finishR (w := w) HR3.out (HY0.out.below HB3.out) (bstep HW0.out HB3.out) (Nat.le_refl _)
      have ba := (Below.refl _ (((w3.setCell ⟨w.heap.size, 0, none⟩ (.slice g1 (allM (laidW l)).vol.length d1)).setCell ⟨w.heap.size, 1, none⟩ (.slice g2 (allM (laidW l)).per.length d2)).setCell ⟨w.heap.size, 2, none⟩ (.slice g3 (allM (laidW l)).pend.length d3))).alloc (Nat.le_refl _) (.cells #[.slice g1 (allM (laidW l)).vol.length d1, .slice g2 (allM (laidW l)).per.length d2, .slice g3 (allM (laidW l)).pend.length d3] 41)
      exact bodyPost_ret (ret_cell (p := 2) Try.results29 rfl (f1.below ba)) rfl ⟨_, _, _, rfl, f2.below ba, bstep f3 ba⟩
theorem own_ints {W : World} {base : Nat} {v : Value} {xs zs : List Int} (h : W.ownsRow base 3 1 v (xs.length + zs.length) (xs.map (Value.int .i64) ++ zs.map (Value.int .i64))) : OwnI W base v (xs ++ zs) := by
  unfold OwnI
  rw [List.length_append, List.map_append]
  exact h
/-- A beginning, and an end, of a list that is read. -/
theorem Rd.cap {W : World} {a : Option Addr} {n c : Nat} {zs : List Int} (h : Rd W (.slice a n c) zs) : zs.length ≤ c := by
  obtain ⟨_, _, a', c', e, h3, _⟩ := h
  cases e
  exact h3
theorem Rd.none {W : World} {n c : Nat} {zs : List Int} (h : Rd W (.slice .none n c) zs) : zs = [] ∧ c = 0 := by
  obtain ⟨_, _, a', c', e, h3, h4⟩ := h
  cases e
  rcases h4 with ⟨h5, h6⟩ | ⟨b, off, e, _⟩
  · exact ⟨List.eq_nil_of_length_eq_zero h5, h6 rfl⟩
  · cases e
theorem Rd.spot {W : World} {x : Addr} {n c : Nat} {zs : List Int} (h : Rd W (.slice (some x) n c) zs) (i k d : Nat) (hi : i + k ≤ zs.length) (hd : k ≤ d) : Rd W (.slice (some (x.add i)) k d) ((zs.drop i).take k) := by
  by_cases h0 : zs.length = 0
  · have e : zs = [] := List.eq_nil_of_length_eq_zero h0
    subst e
    have hk : k = 0 := by simp at hi; omega
    subst hk
    exact ⟨by simp, by simp, some (x.add i), d, by simp, by simp, .inl ⟨by simp, fun h => by cases h⟩⟩
  · obtain ⟨b, off, e, _⟩ := h.base (by omega)
    cases e
    rw [Addr.add_lit]
    exact h.part i k d hi hd

set_option maxRecDepth 100000 in
set_option maxHeartbeats 4000000 in
theorem with_any (v : Value) (l : List Int) (p : Nat) (r : Int) (w : World) (hR : Rd w v l) (hp : p ≤ l.length) : Calls Try.prog 27 #[v, .int .i64 (p : Int), .int .i64 r] w fun e w' => ∃ v', e = .returned v' ∧ (l.length ≤ 900 → Rd w' v' (wiL l p r)) ∧ Below w.heap.size w w' := by
  have HR : Hid (Rd w v l) := hR
  obtain ⟨hl, a, cap, rfl⟩ := hR.form
  have hcap := hR.cap
  have hpI : (p : Int) ≤ (l.length : Int) := by omega
  have hpc : (p : Int) ≤ (cap : Int) := by omega
  have HW : Hid (Below w.heap.size w (w.alloc (.cells #[] 3))) := (Below.refl _ _).alloc (Nat.le_refl _) _
  have t0 : Hid (0 = 0) := rfl
  have t1 : Hid (0 = 0) := rfl
  have t2 : Hid (0 = 0) := rfl
  rcases a with _ | x
  · obtain ⟨rfl, rfl⟩ := hR.none
    obtain rfl : p = 0 := by simpa using hp
    have Hwi : Hid (wiL [] 0 r = [] ++ [r] ++ []) := rfl
    have HT : Hid (Rd w (.slice none 0 0) []) := Rd.bare _
    have HD : Hid (Rd w (.slice none 0 0) []) := Rd.bare _
    have hl5 : (([] : List Int) ++ [r]).length ≤ 100000 := by simp
    clear hR
    go_enter Try.func27, Try.ntmps27
    go_wp2_with (first
      | (at_builtin; clear t0; refine append_rdc rfl _ _ 22 rfl w.heap.size 3 1 _ 8 Try.underlying22 Try.info3 rfl (by decide) (by decide) _ 0 [] rfl (World.ownsRow_made (base := w.heap.size) (e := 3) (size := 1) w #[] 0 (Nat.le_refl _) (by omega) rfl) _ (([] : List Int)).length _ rfl (HT.out.below HW.out) (ints_one _) (by omega) (by simp) ?_; intro v2 w2 o2 g2; have HB2 : Hid (Below w.heap.size w w2) := HW.out.grown g2 (by simp) (by intro q hq; cases hq; exact Nat.le_refl _); have O2 : OwnI w2 w.heap.size v2 ([] ++ ([] : List Int)) := own_ints (xs := []) o2; have HO2 : Hid (OwnI w2 w.heap.size v2 (([] : List Int))) := O2; have hs2 : w.heap.size ≤ w2.heap.size := HB2.out.size; clear o2 g2 O2)
      | (at_builtin; clear t1; refine append_i1 rfl _ _ rfl w.heap.size _ (([] : List Int)) r HO2.out (by (first | omega | (simp; done))) hs2 rfl rfl w2.heap.size rfl rfl ?_; intro g5 c5 w5 o5 b5; have HO5 : Hid (OwnI w5 w.heap.size _ (([] : List Int) ++ [r])) := o5; have HB5 : Hid (Below w.heap.size w w5) := HB2.out.trans b5; have hs5 : w.heap.size ≤ w5.heap.size := HB5.out.size; clear o5 b5)
      | (at_builtin; clear t2; refine append_rdc rfl _ _ 22 rfl w.heap.size 3 1 _ 8 Try.underlying22 Try.info3 rfl (by decide) (by decide) _ _ _ rfl HO5.out _ (([] : List Int)).length _ rfl (HD.out.below HB5.out) (ints_one _) hl5 hs5 ?_; intro v6 w6 o6 g6; have HB6 : Hid (Below w.heap.size w w6) := HB5.out.grown g6 hs5 (by intro q hq; exact (World.ownsRow.lt HO5.out q hq).1); have HO6 : Hid (OwnI w6 w.heap.size v6 (([] : List Int) ++ [r] ++ ([] : List Int))) := own_ints o6; clear o6 g6))
    go_ret
    exact ⟨_, rfl, fun h9 => by rw [Hwi.out]; exact HO6.out.rd (by (first | (simp; done) | (simp; omega))), HB6.out⟩
  by_cases hpc2 : p = cap
  · obtain rfl : p = l.length := by omega
    subst hpc2
    have Hwi : Hid (wiL l l.length r = l ++ [r] ++ []) := by (show _ = _; unfold wiL; simp)
    have HT : Hid (Rd w (.slice (some x) l.length l.length) l) := hR
    have HD : Hid (Rd w (.slice (some x) 0 0) []) := by
      have e := hR.spot 0 0 0 (by omega) (by omega)
      exact e
    have hl5 : (l ++ [r]).length ≤ 100000 := by simp; omega
    clear hR
    go_enter Try.func27, Try.ntmps27
    go_wp2_with (first
      | (at_builtin; clear t0; refine append_rdc rfl _ _ 22 rfl w.heap.size 3 1 _ 8 Try.underlying22 Try.info3 rfl (by decide) (by decide) _ 0 [] rfl (World.ownsRow_made (base := w.heap.size) (e := 3) (size := 1) w #[] 0 (Nat.le_refl _) (by omega) rfl) _ (l).length _ rfl (HT.out.below HW.out) (ints_one _) (by omega) (by simp) ?_; intro v2 w2 o2 g2; have HB2 : Hid (Below w.heap.size w w2) := HW.out.grown g2 (by simp) (by intro q hq; cases hq; exact Nat.le_refl _); have O2 : OwnI w2 w.heap.size v2 ([] ++ l) := own_ints (xs := []) o2; have HO2 : Hid (OwnI w2 w.heap.size v2 (l)) := O2; have hs2 : w.heap.size ≤ w2.heap.size := HB2.out.size; clear o2 g2 O2)
      | (at_builtin; clear t1; refine append_i1 rfl _ _ rfl w.heap.size _ (l) r HO2.out (by (first | omega | (simp; done))) hs2 rfl rfl w2.heap.size rfl rfl ?_; intro g5 c5 w5 o5 b5; have HO5 : Hid (OwnI w5 w.heap.size _ (l ++ [r])) := o5; have HB5 : Hid (Below w.heap.size w w5) := HB2.out.trans b5; have hs5 : w.heap.size ≤ w5.heap.size := HB5.out.size; clear o5 b5)
      | (at_builtin; clear t2; refine append_rdc rfl _ _ 22 rfl w.heap.size 3 1 _ 8 Try.underlying22 Try.info3 rfl (by decide) (by decide) _ _ _ rfl HO5.out _ (([] : List Int)).length _ rfl (HD.out.below HB5.out) (ints_one _) hl5 hs5 ?_; intro v6 w6 o6 g6; have HB6 : Hid (Below w.heap.size w w6) := HB5.out.grown g6 hs5 (by intro q hq; exact (World.ownsRow.lt HO5.out q hq).1); have HO6 : Hid (OwnI w6 w.heap.size v6 (l ++ [r] ++ ([] : List Int))) := own_ints o6; clear o6 g6))
    go_ret
    exact ⟨_, rfl, fun h9 => by rw [Hwi.out]; exact HO6.out.rd (by (first | (simp; done) | (simp; omega))), HB6.out⟩
  · have Hwi : Hid (wiL l p r = l.take p ++ [r] ++ l.drop p) := by (show _ = _; unfold wiL; simp)
    have hlt : (l.take p).length = p := by rw [List.length_take]; omega
    have Hlt : Hid ((l.take p).length = p ∧ (l.drop p).length = l.length - p) := ⟨hlt, by simp⟩
    have Hdr : Hid ((l.drop p).take (l.length - p) = l.drop p) := List.take_of_length_le (by simp)
    have HT : Hid (Rd w (.slice (some x) p cap) (l.take p)) := by
      have e := hR.spot 0 p cap (by omega) (by omega)
      exact e
    have HD : Hid (Rd w (.slice (some (x.add p)) (l.length - p) (cap - p)) (l.drop p)) := by
      have e := hR.spot p (l.length - p) (cap - p) (by omega) (by omega)
      rwa [Hdr.out] at e
    have hl5 : (l.take p ++ [r]).length ≤ 100000 := by rw [List.length_append, hlt]; show p + 1 ≤ _; omega
    generalize l.take p = T at *
    generalize l.drop p = D at *
    clear hlt Hdr
    have hpc3 : p < cap := by omega
    have hpc4 : ¬ cap ≤ p := by omega
    clear hR
    go_enter Try.func27, Try.ntmps27
    go_wp2_with (first
      | (at_builtin; clear t0; refine append_rdc rfl _ _ 22 rfl w.heap.size 3 1 _ 8 Try.underlying22 Try.info3 rfl (by decide) (by decide) _ 0 [] rfl (World.ownsRow_made (base := w.heap.size) (e := 3) (size := 1) w #[] 0 (Nat.le_refl _) (by omega) rfl) _ (T).length _ rfl (HT.out.below HW.out) (ints_one _) (by omega) (by simp) ?_; intro v2 w2 o2 g2; have HB2 : Hid (Below w.heap.size w w2) := HW.out.grown g2 (by simp) (by intro q hq; cases hq; exact Nat.le_refl _); have O2 : OwnI w2 w.heap.size v2 ([] ++ T) := own_ints (xs := []) o2; have HO2 : Hid (OwnI w2 w.heap.size v2 (T)) := O2; have hs2 : w.heap.size ≤ w2.heap.size := HB2.out.size; clear o2 g2 O2)
      | (at_builtin; clear t1; refine append_i1 rfl _ _ rfl w.heap.size _ (T) r HO2.out (by rw [Hlt.out.1]; omega) hs2 rfl rfl w2.heap.size rfl rfl ?_; intro g5 c5 w5 o5 b5; have HO5 : Hid (OwnI w5 w.heap.size _ (T ++ [r])) := o5; have HB5 : Hid (Below w.heap.size w w5) := HB2.out.trans b5; have hs5 : w.heap.size ≤ w5.heap.size := HB5.out.size; clear o5 b5)
      | (at_builtin; clear t2; refine append_rdc rfl _ _ 22 rfl w.heap.size 3 1 _ 8 Try.underlying22 Try.info3 rfl (by decide) (by decide) _ _ _ rfl HO5.out _ (D).length _ rfl (HD.out.below HB5.out) (ints_one _) hl5 hs5 ?_; intro v6 w6 o6 g6; have HB6 : Hid (Below w.heap.size w w6) := HB5.out.grown g6 hs5 (by intro q hq; exact (World.ownsRow.lt HO5.out q hq).1); have HO6 : Hid (OwnI w6 w.heap.size v6 (T ++ [r] ++ D)) := own_ints o6; clear o6 g6))
    go_ret
    exact ⟨_, rfl, fun h9 => by rw [Hwi.out]; exact HO6.out.rd (by rw [List.length_append, List.length_append, Hlt.out.1, Hlt.out.2]; show p + 1 + (l.length - p) ≤ _; omega), HB6.out⟩
theorem own_mtI {W : World} {b : Nat} (h : W.heap[b]? = some (.cells #[] 3)) : OwnI W b (.slice (some ⟨b, 0, none⟩) 0 0) [] := by
  refine ⟨rfl, .inr ⟨b, 0, #[], rfl, Nat.le_refl _, h, Nat.le_refl _, by simp, by simp, rfl⟩⟩
/-- Numbers that came in are appended to own ones, in a region that draws. -/
theorem step_ints1 {ops : Array Oper} {o : Oper} {a : Act} {W : World} {K : Act → World → Prop} {Q : Exit → Act → World → Prop} {E : Prop} (hgd : o.guard = none) (s x : Operand)
    (ho : o.op = .call { callee := .builtin .append, args := #[s, x], argTypes := #[22, 22] }) (base g c : Nat) (l1 : List Int) (hs : a.eval s = .slice (some ⟨g, 0, none⟩) l1.length c) (hown : OwnI W base (.slice (some ⟨g, 0, none⟩) l1.length c) l1) (hn : l1.length ≤ 2000) (vx : Value) (l2 : List Int) (hx : a.eval x = vx) (hR : Rd W vx l2)
    (h : ∀ g' cap w', OwnI w' base (.slice (some ⟨g', 0, none⟩) (l1.length + l2.length) cap) (l1 ++ l2) → W.grownBy w' (some g) → K (a.put o.dst (.slice (some ⟨g', 0, none⟩) (l1.length + l2.length) cap)) w') :
    if Region.wanted o (yielded ops a.tmps) = true then Oper.wp Try.prog o a W K Q else E := by
  obtain ⟨i0, hi, hz0, hz1, hz2⟩ := info_parts Try.info3
  have hlt := (World.ownsRow.lt hown g rfl)
  obtain ⟨hl, hk, ad, cap, rfl, -, h3⟩ := hR
  have hw : Region.wanted o (yielded ops a.tmps) = true := by simp [Region.wanted, hgd]
  by_cases h0 : l2.length = 0
  · have : l2 = [] := List.eq_nil_of_length_eq_zero h0
    subst this
    have hown' : OwnI W base (.slice (some ⟨g, 0, none⟩) (l1.length + ([] : List Int).length) c) (l1 ++ []) := by rw [List.append_nil]; exact hown
    cases ad with
    | none =>
      have hc0 : cap = 0 := by
        rcases h3 with ⟨_, h⟩ | ⟨b', off, e, _⟩
        · exact h rfl
        · cases e
      subst hc0
      rw [if_pos hw]
      have hrun := run_append_owned_none (P := Try.prog) (w := W) base 22 o.type 3 i0 1 Try.underlying22 hi _ _ _ hown
      unfold Oper.wp
      have hx' : a.eval x = .slice none 0 0 := hx
      simp [execOp, ho, resolve, invoke, builtin, hs, hx', hrun, Result.andThen]
      exact h g c W hown' (World.grownBy.refl W _)
    | some p =>
      have hroom : l1.length + 0 ≤ c := by
        rcases hown.2 with ⟨e, _⟩ | ⟨g', cap', cur, e, _, _, hnc, _⟩
        · cases e
        · cases e; exact hnc
      refine step_append_room hgd s x 22 ho 3 i0 1 Try.underlying22 hi hz1 g 0 l1.length c hs p 0 cap [] hx (by simp) (by intro j u hu; simp at hu) (by simp) hroom (by intro j hj; simp at hj) ?_
      exact h g c W hown' (World.grownBy.refl W _)
  · rcases h3 with ⟨h4, _⟩ | ⟨b', off, rfl, hlt', hc⟩
    · exact absurd h4 h0
    · refine step_append_lies _ hgd s x 22 ho base 3 i0 _ 1 8 Try.underlying22 hi hz0 hz1 hz2 rfl (by decide) _ l1.length (l1.map (Value.int .i64)) hs hown ⟨b', off, none⟩ l2.length cap (l2.map (Value.int .i64)) hx hl (by intro j u hu; rw [Addr.add_lit]; exact hc j u hu) (ints_one l2) (by omega) (by unfold maxLen; omega) (by omega) (by omega) W.heap.size rfl ?_
      intro g' cap' w' r1 r2 r3 r4
      refine h g' cap' w' ?_ r2
      unfold OwnI
      rw [List.length_append, List.map_append]
      exact r1
theorem step_ints0 {ops : Array Oper} {o : Oper} {a : Act} {W : World} {K : Act → World → Prop} {Q : Exit → Act → World → Prop} {E : Prop} (hgd : o.guard = none) (s x : Operand)
    (ho : o.op = .call { callee := .builtin .append, args := #[s, x], argTypes := #[22, 22] }) (b : Nat) (vx : Value) (l : List Int) (hs : a.eval s = .slice (some ⟨b, 0, none⟩) 0 0) (hx : a.eval x = vx) (hE : W.heap[b]? = some (.cells #[] 3)) (hR : Rd W vx l)
    (h : ∀ g cap w', OwnI w' b (.slice (some ⟨g, 0, none⟩) l.length cap) l → W.grownBy w' (some b) → (g = b ∨ g = W.heap.size) → K (a.put o.dst (.slice (some ⟨g, 0, none⟩) l.length cap)) w') :
    if Region.wanted o (yielded ops a.tmps) = true then Oper.wp Try.prog o a W K Q else E := by
  obtain ⟨i0, hi, hz0, hz1, hz2⟩ := info_parts Try.info3
  have hown := own_mtI hE
  have hlt : b < W.heap.size := (Array.getElem?_eq_some_iff.1 hE).1
  obtain ⟨hl, hk, ad, cap, rfl, -, h3⟩ := hR
  have hw : Region.wanted o (yielded ops a.tmps) = true := by simp [Region.wanted, hgd]
  by_cases h0 : l.length = 0
  · have : l = [] := List.eq_nil_of_length_eq_zero h0
    subst this
    cases ad with
    | none =>
      have hc0 : cap = 0 := by
        rcases h3 with ⟨_, h⟩ | ⟨b', off, e, _⟩
        · exact h rfl
        · cases e
      subst hc0
      rw [if_pos hw]
      have hrun := run_append_owned_none (P := Try.prog) (w := W) b 22 o.type 3 i0 1 Try.underlying22 hi _ 0 _ hown
      unfold Oper.wp
      have hx' : a.eval x = .slice none 0 0 := hx
      simp [execOp, ho, resolve, invoke, builtin, hs, hx', hrun, Result.andThen]
      exact h b 0 W hown (World.grownBy.refl W _) (.inl rfl)
    | some p =>
      refine step_append_room hgd s x 22 ho 3 i0 1 Try.underlying22 hi hz1 b 0 0 0 hs p 0 cap [] hx (by simp) (by intro j u hu; simp at hu) (by simp) (by omega) (by intro j hj; simp at hj) ?_
      exact h b 0 W hown (World.grownBy.refl W _) (.inl rfl)
  · rcases h3 with ⟨h4, _⟩ | ⟨b', off, rfl, hlt', hc⟩
    · exact absurd h4 h0
    · refine step_append_lies _ hgd s x 22 ho b 3 i0 _ 1 8 Try.underlying22 hi hz0 hz1 hz2 rfl (by decide) _ 0 [] hs hown ⟨b', off, none⟩ l.length cap (l.map (Value.int .i64)) hx hl (by intro j u hu; rw [Addr.add_lit]; exact hc j u hu) (ints_one l) (by omega) (by unfold maxLen; omega) (by omega) (by omega) W.heap.size rfl ?_
      intro g cap' w' r1 r2 r3 r4
      rw [Nat.zero_add] at r1 ⊢
      exact h g cap' w' r1 r2 (r3.imp (fun e => by simpa [Value.ownBlock] using e.symm) id)

set_option maxRecDepth 100000 in
set_option maxHeartbeats 4000000 in
theorem without_any (v : Value) (l : List Int) (p : Nat) (w : World) (hR : Rd w v l) (hp : p < l.length) : Calls Try.prog 31 #[v, .int .i64 (p : Int)] w fun e w' => ∃ v', e = .returned v' ∧ (l.length ≤ 900 → Rd w' v' (woL l p)) ∧ Below w.heap.size w w' := by
  obtain ⟨hl, a, cap, rfl⟩ := hR.form
  have hcap := hR.cap
  obtain ⟨b, off, rfl, _⟩ := hR.base (by omega)
  have Hwo : Hid (woL l p = l.take p ++ l.drop (p + 1)) := rfl
  have Hlt : Hid ((l.take p).length = p ∧ (l.drop (p + 1)).length = l.length - (p + 1)) := ⟨by rw [List.length_take]; omega, by simp⟩
  have HT : Hid (Rd w (.slice (some ⟨b, off, none⟩) p cap) (l.take p)) := by
    have e := hR.part 0 p cap (by omega) (by omega)
    exact e
  have hwp : wrap64 ((p : Int) + 1) = (p : Int) + 1 := by unfold wrap64; omega
  have hwp2 : IntKind.i64.wrap ((p : Int) + 1) = (p : Int) + 1 := by rw [IntKind.wrap_i64]; omega
  have hp0 : (0 : Int) ≤ (p : Int) := by omega
  have hpc : (p : Int) ≤ (cap : Int) := by omega
  have hp1 : (0 : Int) ≤ (p : Int) + 1 := by omega
  have hpl : (p : Int) + 1 ≤ (l.length : Int) := by omega
  have hlc : (l.length : Int) ≤ (cap : Int) := by omega
  have hpc1 : (p : Int) + 1 ≤ (cap : Int) := by omega
  have HD : Hid (Rd w (.slice (if cap = p + 1 then some ⟨b, off, none⟩ else some ⟨b, off + (p + 1), none⟩) (l.length - (p + 1)) (cap - (p + 1))) (l.drop (p + 1))) := by
    by_cases hc2 : cap = p + 1
    · rw [if_pos hc2]
      have e := hR.part 0 0 0 (by omega) (by omega)
      rw [List.drop_of_length_le (by omega), show l.length - (p + 1) = 0 from by omega, show cap - (p + 1) = 0 from by omega]
      exact e
    · rw [if_neg hc2]
      have e := hR.part (p + 1) (l.length - (p + 1)) (cap - (p + 1)) (by omega) (by omega)
      rwa [List.take_of_length_le (by simp)] at e
  have hl1 : (l.take p).length ≤ 2000 := by rw [Hlt.out.1]; omega
  generalize l.take p = T at *
  generalize l.drop (p + 1) = D at *
  clear hR
  go_enter Try.func31, Try.ntmps31
  go_wp2
  go_region_held3 (fun _ => True) (exact trivial)
    (first
    | (refine step_ints0 rfl (.tmp 5) (.tmp 8) rfl _ _ T rfl rfl (by ((repeat (first | (with_reducible refine hp_drew ?_) | (with_reducible exact hp_new rfl) | (with_reducible refine hp_new ?_; simp; done) | (with_reducible refine hp_old ?_) | (with_reducible refine hp_grown' HgB.out (by omega) ?_))); all_goals fail)) (HT.out.below (by ((repeat (first | exact Below.refl _ _ | exact HTc.out | exact HTb.out | with_reducible refine Below.dr ?_ | with_reducible refine Below.al _ ?_)); all_goals fail))) ?_; intro gb db wb ob gb' at5; have HTb : Hid (Below w.heap.size w wb) := Below.gr (by ((repeat (first | exact Below.refl _ _ | exact HTc.out | exact HTb.out | with_reducible refine Below.dr ?_ | with_reducible refine Below.al _ ?_)); all_goals fail)) gb' (by (first | omega | (simp; done))); have HOB : Hid (OwnI wb _ (.slice (some ⟨gb, 0, none⟩) T.length db) T) := ob; have hgb : w.heap.size ≤ gb := (World.ownsRow.lt ob gb rfl).1; clear ob gb' at5)
    | (refine step_ints1 rfl (.tmp 9) (.tmp 13) rfl _ gb db T rfl (HOB.out.below (by ((repeat (first | exact Below.refl _ _ | with_reducible refine Below.dr ?_ | with_reducible refine Below.al _ ?_)); all_goals fail))) hl1 _ D rfl (HD.out.below (by ((repeat (first | exact Below.refl _ _ | exact HTc.out | exact HTb.out | with_reducible refine Below.dr ?_ | with_reducible refine Below.al _ ?_)); all_goals fail))) ?_; intro gc dc wc oc gc'; have HTc : Hid (Below w.heap.size w wc) := Below.gr (by ((repeat (first | exact Below.refl _ _ | exact HTc.out | exact HTb.out | with_reducible refine Below.dr ?_ | with_reducible refine Below.al _ ?_)); all_goals fail)) gc' (by omega); have HOC : Hid (OwnI wc _ (.slice (some ⟨gc, 0, none⟩) (T.length + D.length) dc) (T ++ D)) := oc; clear oc gc'))
  all_goals
    go_wp2
    all_goals
      go_ret
      exact ⟨_, rfl, fun h9 => by rw [Hwo.out]; exact HOC.out.rd (by rw [List.length_append, Hlt.out.1, Hlt.out.2]; omega), HTc.out⟩
end Go.Proofs.Ytoboiahknapddaa
