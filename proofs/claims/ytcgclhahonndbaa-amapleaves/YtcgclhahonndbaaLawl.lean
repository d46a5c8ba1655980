/- Layer 12: the walk of AmapLeaves. -/
import Derived.Test.YtcgclhahonndbaaLawr
namespace Go.Proofs.Ytcgclhahonndbaa
open Go.RowKit Go.Shelf Classical
set_option linter.unusedVariables false

/-- The leaf picked among the first k: the last one whose low key is not behind the key. -/
def AtI (zs L : List Int) (key : ByteArray) (k : Nat) (x : Int) : Prop :=
  k = 0 ∨ ∃ j, j < k ∧ L[j]? = some x ∧ tL key (loS zs x) = false ∧ ∀ (i : Nat) c, j < i → i < k → L[i]? = some c → tL key (loS zs c) = true
theorem AtI.hit {zs L : List Int} {key : ByteArray} {k : Nat} {b : Int} (hb : L[k]? = some b) (h : tL key (loS zs b) = false) : AtI zs L key (k + 1) b :=
  .inr ⟨k, Nat.lt_succ_self _, hb, h, fun i c h1 h2 _ => by omega⟩
theorem AtI.miss {zs L : List Int} {key : ByteArray} {k : Nat} {b x : Int} (hL : lvA zs = some L) (hs : sndB zs = true) (ha : AtI zs L key k x) (hb : L[k]? = some b) (h : tL key (loS zs b) = true) : AtI zs L key (k + 1) x := by
  rcases ha with rfl | ⟨j, h1, h2, h3, h4⟩
  · exfalso
    have := ((low_get hL hs hb).2.1).2 rfl
    unfold tL at h
    rw [this] at h
    cases hk : key.toList <;> rw [hk] at h <;> cases h
  · refine .inr ⟨j, by omega, h2, h3, fun i c q1 q2 q3 => ?_⟩
    by_cases e : i = k
    · subst e
      rw [hb] at q3
      cases q3
      exact h
    · exact h4 i c q1 (by omega) q3
theorem AtI.done {zs L : List Int} {key : ByteArray} {x : Int} (hL : lvA zs = some L) (hs : sndB zs = true) (ha : AtI zs L key L.length x) : x ∈ L ∧ geP (L.flatMap (ownL zs)) key = geP (ownL zs x) key := by
  rcases ha with h0 | ⟨j, h1, h2, h3, h4⟩
  · have := (lvA_out hL).2.2.2
    rw [List.length_eq_zero_iff.1 h0] at this
    cases this
  · exact ⟨List.mem_of_getElem? h2, get_leaf hL hs h2 h3 fun i c q1 q2 => h4 i c q1 (List.getElem?_eq_some_iff.1 q2).1 q2⟩

set_option maxRecDepth 100000 in
set_option maxHeartbeats 4000000 in
theorem walk_AmapLeaves (a1 : Option Addr) (len1 cap1 : Nat) (key : ByteArray) (w : World) (h1 : RowIn w a1 len1 cap1) (h2 : key.size ≤ maxLen) : Calls Try.prog 6 #[.slice a1 len1 cap1, .string key] w fun e w' => e = .returned (.bool true) ∧ Below w.heap.size w w' := by
  by_cases g1 : (len1 : Int) > 1000
  · clear h1
    go_enter Try.func6, Try.ntmps6
    go_wp2_with (go_at_call 7; refine (awake_any _).mono ?_; rintro e w1 ⟨rfl, hb1⟩)
    go_ret
    exact ⟨ret_bool rfl, hb1⟩
  by_cases g2 : (key.size : Int) > 100
  · clear h1
    go_enter Try.func6, Try.ntmps6
    go_wp2_with (go_at_call 7; refine (awake_any _).mono ?_; rintro e w1 ⟨rfl, hb1⟩)
    go_ret
    exact ⟨ret_bool rfl, hb1⟩
  obtain ⟨zs, rfl, R1, F1⟩ := h1 (by omega)
  have F1 : Fits zs := F1
  have HR : Hid (Rl w (.slice a1 zs.length cap1) zs) := R1
  clear h1 R1
  clear h2
  have K8 : Hid (∀ v W, Rl W v zs → Calls Try.prog 8 #[v] W fun e w' => ∃ v', e = .returned (.tuple #[v', .int .i64 (chE zs)]) ∧ OwnP w' W.heap.size v' ((slL zs).flatMap (ownL zs)) ∧ Below W.heap.size W w') := fun v W h => pairs_any v zs W h F1
  cases hs : sndB zs with
  | false =>
    have Hc : Hid (chE zs = 110) := by (show _ = _; unfold chE; rw [hs]; rfl)
    have hn : (slL zs).flatMap (ownL zs) = [] := by unfold slL; rw [hs]; rfl
    rw [Hc.out] at K8
    rw [hn] at K8
    clear hn hs F1
    go_enter Try.func6, Try.ntmps6
    go_wp2_with (first
      | (go_at_call 7; refine (awake_any _).mono ?_; rintro e w1 ⟨rfl, hb1⟩; have B1 : Hid (Below w.heap.size w w1) := hb1; clear hb1)
      | (go_at_call 8; refine (K8.out _ _ (HR.out.below B1.out)).mono ?_; rintro e w2 ⟨v2, rfl, o2, hb2⟩; obtain ⟨a2, c2, rfl⟩ := o2.some'; have B2 : Hid (Below w.heap.size w w2) := bstep B1.out hb2; clear o2 hb2))
    go_ret
    exact ⟨ret_bool rfl, B2.out⟩
  | true =>
    obtain ⟨L, hL⟩ := snd_leaves hs
    have hLv : lvL zs = L := by unfold lvL; rw [hL]; rfl
    have hsl : slL zs = L := by unfold slL; rw [hs, hLv]; rfl
    have Hc : Hid (chE zs = 0) := by (show _ = _; unfold chE; rw [hs]; rfl)
    have hl62 := lv_few hL (by omega)
    have hfl := flat_len zs L
    have K10 : Hid (∀ v W, Rl W v zs → Calls Try.prog 10 #[v] W fun e w' => ∃ v', e = .returned (.tuple #[v', .int .i64 0]) ∧ Rd w' v' L ∧ Below W.heap.size W w') := fun v W h => by
      have k := leaves_any v zs W h
      rw [hLv, show lvE zs = 0 by unfold lvE; rw [hL]] at k
      exact k.mono fun e w' ⟨v', h1, h2, h3⟩ => ⟨v', h1, h2.rd (by omega), h3⟩
    have K11 : Hid (∀ b v W, b ∈ L → Rl W v zs → Calls Try.prog 11 #[v, .int .i64 b] W fun e w' => ∃ v', e = .returned (.tuple #[v', .int .i64 0]) ∧ RdP w' v' (ownL zs b) ∧ Below W.heap.size W w') := fun b v W hb h => by
      have k := owns_any v zs b W h F1
      rw [show owE zs b = 0 by unfold owE; rw [hs, hLv, if_pos rfl, if_pos hb], show owL zs b = ownL zs b by unfold owL; rw [hs, hLv, if_pos ⟨rfl, hb⟩]] at k
      exact k.mono fun e w' ⟨v', h1, h2, h3⟩ => ⟨v', h1, h2.rd (by have := ownL_len zs b; omega), h3⟩
    have K12 : Hid (∀ b v W, Rl W v zs → Calls Try.prog 12 #[v, .int .i64 b] W fun e w' => e = .returned (.tuple #[.string (loS zs b), .int .i64 (loE zs b)]) ∧ Below W.heap.size W w') := fun b v W h => low_any v zs b W h F1
    rw [Hc.out, hsl] at K8
    obtain ⟨A, hA⟩ : ∃ A, A = L.flatMap (ownL zs) := ⟨_, rfl⟩
    have HIT : Hid (∀ k b, L[k]? = some b → tL key (loS zs b) = false → AtI zs L key (k + 1) b) := fun k b hb h => AtI.hit hb h
    have MISS : Hid (∀ k b x, AtI zs L key k x → L[k]? = some b → tL key (loS zs b) = true → AtI zs L key (k + 1) x) := fun k b x ha hb h => AtI.miss hL hs ha hb h
    have DONE : Hid (∀ x, AtI zs L key L.length x → x ∈ L ∧ geP A key = geP (ownL zs x) key) := fun x ha => by rw [hA]; exact AtI.done hL hs ha
    rw [← hA] at K8 hfl
    have hA9 : A.length ≤ 806 := by omega
    clear hs hL hLv hsl F1 hA hfl
    go_enter Try.func6, Try.ntmps6
    go_wp2_with (first
      | (go_at_call 7; refine (awake_any _).mono ?_; rintro e w1 ⟨rfl, hb1⟩; have B1 : Hid (Below w.heap.size w w1) := hb1; clear hb1)
      | (go_at_call 8; refine (K8.out _ _ (HR.out.below B1.out)).mono ?_; rintro e w2 ⟨v2, rfl, o2, hb2⟩; have r2 := o2.rd (by omega); obtain ⟨_, a2, c2, rfl, _⟩ := r2.form; have R2 : Hid (RdP w2 (.slice a2 A.length c2) A) := r2; have B2 : Hid (Below w.heap.size w w2) := bstep B1.out hb2; clear o2 hb2 r2)
      | (go_at_call 10; refine (K10.out _ _ (HR.out.below B2.out)).mono ?_; rintro e w3 ⟨v3, rfl, r3, hb3⟩; obtain ⟨_, a3, c3, rfl⟩ := r3.form; have R3 : Hid (Rd w3 (.slice a3 L.length c3) L) := r3; have H3 : Hid (Below w2.heap.size w2 w3) := hb3; have B3 : Hid (Below w.heap.size w w3) := bstep B2.out hb3; clear r3 hb3))
    go_loopw [10, 11] (fun u i wr => ∃ (k : Nat) (x : Int), k ≤ L.length ∧ u = .int .i64 x ∧ i = .int .i64 k ∧ AtI zs L key k x ∧ Below w3.heap.size w3 wr) (fun _ i _ => L.length - (Go.RowKit.intOf i).toNat)
    case atStart => exact ⟨0, 1, Nat.zero_le _, rfl, rfl, .inl rfl, Below.refl _ _⟩
    case round =>
      obtain ⟨k, x, hk, rfl, rfl, hat, hbel⟩ := hrel
      have HA : Hid (AtI zs L key k x) := hat
      have HB : Hid (Below w3.heap.size w3 wr) := hbel
      clear hat hbel
      by_cases hlt : k < L.length
      · have hltI : (k : Int) < (L.length : Int) := by omega
        obtain ⟨b, hb⟩ : ∃ b, L[k]? = some b := ⟨_, List.getElem?_eq_getElem hlt⟩
        obtain ⟨bb, off, e2, hcell⟩ := (R3.out.below HB.out).at k hlt
        have hs2 : L[k] = b := by rw [List.getElem?_eq_getElem hlt] at hb; exact Option.some.inj hb
        rw [hs2] at hcell
        cases e2
        have C12 : Hid (∀ v W, Rl W v zs → Calls Try.prog 12 #[v, .int .i64 b] W fun e w' => e = .returned (.tuple #[.string (loS zs b), .int .i64 (loE zs b)]) ∧ Below W.heap.size W w') := fun v W h => K12.out b v W h
        have HRr : Hid (Rl wr (.slice a1 zs.length cap1) zs) := HR.out.below (bstep B3.out HB.out)
        have HIb : Hid (tL key (loS zs b) = false → AtI zs L key (k + 1) b) := HIT.out k b hb
        have MIb : Hid (tL key (loS zs b) = true → AtI zs L key (k + 1) x) := MISS.out k b x HA.out hb
        clear hb hs2
        generalize hle : loE zs b = le at *
        generalize hlo : loS zs b = lo at *
        clear hle hlo
        cases htl : tL key lo with
        | true =>
          obtain ⟨e7, e8⟩ := tL_le htl
          have NEW : Hid (AtI zs L key (k + 1) x) := MIb.out htl
          clear htl HIb MIb
          go_wp2_with (first
            | (go_at_call 12; refine (C12.out _ _ HRr.out).mono ?_; rintro e w5 ⟨rfl, hb5⟩; have H5 : Hid (Below wr.heap.size wr w5) := hb5; clear hb5))
          go_roundw
          case rel => exact ⟨k + 1, x, by omega, rfl, by go_num, NEW.out, bstep HB.out H5.out⟩
          case measure => simp [Go.RowKit.intOf]; omega
        | false =>
          have NEW : Hid (AtI zs L key (k + 1) b) := HIb.out htl
          rcases tL_ge htl with ⟨e7, e8⟩ | ⟨e7, e8⟩
          all_goals
            clear htl HIb MIb
            go_wp2_with (first
              | (go_at_call 12; refine (C12.out _ _ HRr.out).mono ?_; rintro e w5 ⟨rfl, hb5⟩; have H5 : Hid (Below wr.heap.size wr w5) := hb5; have hcell5 := (hb5.cell (p := ⟨bb, off + k, none⟩) (World.block_lt_of_cell? _ _ hcell)).trans hcell; clear hb5))
            go_roundw
            case rel => exact ⟨k + 1, b, by omega, rfl, by go_num, NEW.out, bstep HB.out H5.out⟩
            case measure => simp [Go.RowKit.intOf]; omega
      · have hge : ¬ (k : Int) < (L.length : Int) := by omega
        obtain rfl : k = L.length := by omega
        obtain ⟨hx, hg⟩ := DONE.out x HA.out
        have C11 : Hid (∀ v W, Rl W v zs → Calls Try.prog 11 #[v, .int .i64 x] W fun e w' => ∃ v', e = .returned (.tuple #[v', .int .i64 0]) ∧ RdP w' v' (ownL zs x) ∧ Below W.heap.size W w') := fun v W h => K11.out x v W hx h
        have GA : Hid (∀ v W, RdP W v A → Calls Try.prog 17 #[v, .string key] W fun e w' => e = .returned (.tuple #[.string (gvP A key), .bool (gbP A key)]) ∧ Below W.heap.size W w') := fun v W h => get_any v A key W h
        have GB : Hid (∀ v W, RdP W v (ownL zs x) → Calls Try.prog 17 #[v, .string key] W fun e w' => e = .returned (.tuple #[.string (gvP A key), .bool (gbP A key)]) ∧ Below W.heap.size W w') := fun v W h => by
          have k := get_any v (ownL zs x) key W h
          rwa [show gvP (ownL zs x) key = gvP A key by unfold gvP; rw [hg], show gbP (ownL zs x) key = gbP A key by unfold gbP; rw [hg]] at k
        generalize gvP A key = gv at *
        generalize gbP A key = gb at *
        generalize ownL zs x = D at *
        have HRr : Hid (Rl wr (.slice a1 zs.length cap1) zs) := HR.out.below (bstep B3.out HB.out)
        have RA : Hid (RdP wr (.slice a2 A.length c2) A) := R2.out.below (bstep H3.out HB.out)
        have Bw : Hid (Below w.heap.size w wr) := bstep B3.out HB.out
        have e5 : (gv.toList == gv.toList) = true := by simp
        have e6 : (gb == gb) = true := by simp
        clear hx hg HA
        go_wp2_with (first
          | (go_at_call 11; refine (C11.out _ _ HRr.out).mono ?_; rintro e w4 ⟨v4, rfl, r4, hb4⟩; have R4 : Hid (RdP w4 v4 D) := r4; have H4 : Hid (Below wr.heap.size wr w4) := hb4; clear r4 hb4)
          | (go_at_call 17; refine (GA.out _ _ (RA.out.below H4.out)).mono ?_; rintro e w5 ⟨rfl, hb5⟩; have H5 : Hid (Below w4.heap.size w4 w5) := hb5; clear hb5 RA)
          | (go_at_call 17; refine (GB.out _ _ (R4.out.below H5.out)).mono ?_; rintro e w6 ⟨rfl, hb6⟩; have H6 : Hid (Below w5.heap.size w5 w6) := hb6; clear hb6))
        go_ret
        exact ⟨ret_bool rfl, bstep Bw.out (bstep H4.out (bstep H5.out H6.out))⟩
end Go.Proofs.Ytcgclhahonndbaa
