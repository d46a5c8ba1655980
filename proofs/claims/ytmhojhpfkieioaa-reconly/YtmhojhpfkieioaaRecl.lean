/- Layer 7: RecOnly, walked. -/
import Derived.Test.YtmhojhpfkieioaaRecj
namespace Go.Proofs.Ytmhojhpfkieioaa
open Go.RowKit Go.Shelf Classical
set_option linter.unusedVariables false

theorem wf_u32 {z : Int} (h : (Lit.int .u32 z).wf = true) : ∃ n : Nat, z = (n : Int) ∧ n < 4294967296 := by
  simp [Lit.wf, IntKind.min, IntKind.max, IntKind.bits, IntKind.signed] at h
  exact ⟨z.toNat, by omega, by omega⟩
theorem wf_u8 {z : Int} (h : (Lit.int .u8 z).wf = true) : ∃ n : Nat, z = (n : Int) ∧ n < 256 := by
  simp [Lit.wf, IntKind.min, IntKind.max, IntKind.bits, IntKind.signed] at h
  exact ⟨z.toNat, by omega, by omega⟩
/-- A call's own row that is written at one place. -/
theorem own_set {W : World} {base : Nat} {v : Value} {n : Nat} {zs : List Int} (h : W.ownsRow base 3 1 v n (zs.map (Value.int .i64))) (hl : zs.length ≤ 1000) (k : Nat) (hk : k < zs.length) :
    ∃ g cap, v = .slice (some ⟨g, 0, none⟩) zs.length cap ∧ base ≤ g ∧ W.cell? ⟨g, k, none⟩ = some (.int .i64 zs[k]) ∧ W.frozen? ⟨g, k, none⟩ = false ∧
      ∀ y : Int, Rd (W.setCell ⟨g, k, none⟩ (.int .i64 y)) v (zs.set k y) := by
  have hc := h
  have hn : zs.length = n := by simpa using h.1
  subst hn
  rcases h.2 with ⟨rfl, h0⟩ | ⟨g, cap, cur, rfl, hbg, hg, hcap, _⟩
  · omega
  · have cell : ∀ j, j < zs.length → W.cell? ⟨g, j, none⟩ = some (.int .i64 (zs[j]?.getD 0)) := by
      intro j hj
      have := hc.cells rfl j (.int .i64 (zs[j]?.getD 0)) (by simp [List.getElem?_eq_getElem hj])
      rwa [Addr.add_lit, Nat.zero_add] at this
    have hck := cell k hk
    rw [List.getElem?_eq_getElem hk] at hck
    refine ⟨g, cap, rfl, hbg, hck, by simp [World.frozen?, hg], ?_⟩
    intro y
    unfold Rd
    rw [List.length_set]
    refine ⟨by simp, hl, some ⟨g, 0, none⟩, cap, rfl, hcap, .inr ⟨g, 0, rfl, by rw [Go.Deep.nblk_setCell]; exact (Array.getElem?_eq_some_iff.1 hg).1, ?_⟩⟩
    intro j u hu
    rw [List.getElem?_map] at hu
    obtain ⟨z, hz, rfl⟩ := Option.map_eq_some_iff.1 hu
    have hj : j < zs.length := by have := (List.getElem?_eq_some_iff.1 hz).1; simpa using this
    rw [Nat.zero_add]
    by_cases e : k = j
    · subst e
      rw [World.cell?_setCell_same _ _ _ hck]
      rw [List.getElem?_set_self hk] at hz
      cases hz
      rfl
    · rw [World.cell?_setCell_other _ _ _ _ (by simp), cell j hj]
      rw [List.getElem?_set_ne e] at hz
      simp [hz]
theorem blk_set {zs : List Int} {n j : Nat} (hn : 16 * n + 16 ≤ zs.length) (hj : j < 16) (y : Int) : blk (zs.set (16 * n + j) y) n = (blk zs n).set j y := by
  unfold blk
  rw [List.drop_set, if_neg (by omega), List.take_set, show 16 * n + j - 16 * n = j by omega]
theorem blk_at {zs : List Int} {n j : Nat} (hn : 16 * n + 16 ≤ zs.length) (hj : j < 16) : (blk zs n)[j]'(by rw [blk_length hn]; exact hj) = zs[16 * n + j]'(by omega) := by
  simp [blk]
theorem blk_bad {zs : List Int} {n j : Nat} (hn : 16 * n + 16 ≤ zs.length) (hj : j < 16) (d : Int) (hd : Sm.wd 0 (Sm.u64 d) ≠ 0) (h : isR (blk zs n) = true) :
    rdX (zs.set (16 * n + j) (bits .xor .i64 (zs[16 * n + j]'(by omega)) d)) (n : Int) = rc0 ∧ rdE (zs.set (16 * n + j) (bits .xor .i64 (zs[16 * n + j]'(by omega)) d)) (n : Int) = 70 := by
  have hi : inB (zs.set (16 * n + j) (bits .xor .i64 (zs[16 * n + j]'(by omega)) d)).length (n : Int) = true := decide_eq_true (by rw [List.length_set]; omega)
  have h2 := only_half (blk zs n) (blk_length hn) j hj d hd h
  rw [blk_at hn hj, ← blk_set hn hj] at h2
  have e : isR (blk (zs.set (16 * n + j) (bits .xor .i64 (zs[16 * n + j]'(by omega)) d)) (n : Int).toNat) = false := h2
  unfold rdX rdE
  rw [hi, e]
  exact ⟨rfl, rfl⟩
theorem wLs_ok' {x : Rc} (h : OkR x) : wLs x = imL x := by unfold wLs; rw [rcB_iff.2 h]; rfl
theorem only_nums {n j N cap : Nat} (hn9 : n < 256) (hj9 : j < 16) (hn : 16 * n + 16 ≤ N) (hcap : N ≤ cap) :
    ((0 : Int) ≤ 16 * (n : Int)) ∧ (16 * (n : Int) ≤ (N : Int)) ∧ ((16 * (n : Int)).toNat = 16 * n) ∧ (IntKind.i64.wrap (16 * (n : Int)) = 16 * (n : Int)) ∧ (16 * (n : Int) + 16 ≤ (cap : Int)) ∧ (¬ cap = 16 * n) ∧ ((16 * (n : Int) + 16).toNat = 16 * n + 16) ∧ (wrap64 (16 * (n : Int)) = 16 * (n : Int)) ∧ (wrap64 (16 * (n : Int) + 16) = 16 * (n : Int) + 16) ∧ (wrap64 (16 * (n : Int) + (j : Int)) = 16 * (n : Int) + (j : Int)) ∧ ((16 * (n : Int) + (j : Int)).toNat = 16 * n + j) ∧ ((0 : Int) ≤ 16 * (n : Int) + (j : Int)) ∧ (16 * (n : Int) + (j : Int) < (N : Int)) ∧ (16 * (n : Int) ≤ 16 * (n : Int) + 16) ∧ ((0 : Int) ≤ 16 * (n : Int) + 16) :=
  ⟨by omega, by omega, by omega, by rw [IntKind.wrap_i64]; omega, by omega, by omega, by omega, by unfold wrap64; omega, by unfold wrap64; omega, by unfold wrap64; omega, by omega, by omega, by omega, by omega, by omega⟩
theorem own_none {base : Nat} (w : World) (h : base ≤ w.heap.size) : (w.alloc (.cells #[] 3)).ownsRow base 3 1 (.slice (some ⟨w.heap.size, 0, none⟩) 0 0) 0 [] := World.ownsRow_made (base := base) (e := 3) (size := 1) w #[] 0 h (by unfold maxLen; omega) rfl
theorem own_plus {W : World} {base n : Nat} {v : Value} {zs : List Int} (h : W.ownsRow base 3 1 v (0 + n) ([] ++ zs.map (Value.int .i64))) : W.ownsRow base 3 1 v (0 + n) (zs.map (Value.int .i64)) := h
theorem rem_nums (m : Nat) (h : m < 256) : ∃ j : Nat, (m : Int) % 16 = (j : Int) ∧ j < 16 ∧ (m : Int).tmod 16 = (j : Int) ∧ IntKind.u8.wrap (j : Int) = (j : Int) ∧ IntKind.i64.wrap (j : Int) = (j : Int) ∧ m % 16 = j ∧ IntKind.u8.wrap 16 = 16 := by
  refine ⟨m % 16, by omega, by omega, ?_, ?_, ?_, rfl, by rfl⟩
  · rw [Int.tmod_eq_emod_of_nonneg (by omega)]; omega
  · simp [IntKind.wrap, IntKind.bits, IntKind.signed]; omega
  · rw [IntKind.wrap_i64]; omega
/-- The walk stands at the operation that writes slot n: facts can be laid there. -/
theorem stop_at {P : Program} {ops : Array Oper} {Q : Exit → Act → World → Prop} {rest : List Oper} {a : Act} {w : World} (n : Nat) {o : Oper} (hd : o.dst = some n) (h : wpList P ops Q (o :: rest) a w) : wpList P ops Q (o :: rest) a w := h
theorem rd_case {zs : List Int} {n : Nat} (hn : 16 * n + 16 ≤ zs.length) : (isR (blk zs n) = true ∧ rdX zs (n : Int) = gsR (blk zs n) ∧ rdE zs (n : Int) = 0) ∨ (isR (blk zs n) = false ∧ rdX zs (n : Int) = rc0 ∧ rdE zs (n : Int) = 70) := by
  have hi : inB zs.length (n : Int) = true := decide_eq_true (by omega)
  unfold rdX rdE
  rw [hi]
  show (isR (blk zs n) = true ∧ (if isR (blk zs n) = true then _ else _) = _ ∧ (if isR (blk zs n) = true then _ else _) = _) ∨ _
  cases h : isR (blk zs n)
  · exact .inr ⟨rfl, by simp [h], by simp [h]⟩
  · exact .inl ⟨rfl, by simp, by simp⟩
theorem Rd.take {W : World} {b off n c : Nat} {zs : List Int} (h : Rd W (.slice (some ⟨b, off, none⟩) n c) zs) (k : Nat) (hk : k ≤ zs.length) : Rd W (.slice (some ⟨b, off, none⟩) k c) (zs.take k) := by
  obtain ⟨h1, h2, a, cap, e, h0, h3⟩ := h
  cases e
  have hlen : (zs.take k).length = k := by simp; omega
  unfold Rd
  rw [hlen]
  rcases h3 with ⟨hz, h⟩ | ⟨b', off', e, hlt, hc⟩
  · exact ⟨by simp; omega, by omega, some ⟨b, off, none⟩, c, rfl, by omega, .inl ⟨by omega, fun h => by cases h⟩⟩
  · cases e
    refine ⟨by simp; omega, by omega, some ⟨b, off, none⟩, c, rfl, by omega, .inr ⟨b, off, rfl, hlt, ?_⟩⟩
    intro j u hu
    refine hc j u ?_
    rw [List.map_take, List.getElem?_take] at hu
    split at hu
    · exact hu
    · cases hu
theorem Rd.blk {W : World} {b off n c : Nat} {zs : List Int} (h : Rd W (.slice (some ⟨b, off, none⟩) n c) zs) (k : Nat) (hk : 16 * k + 16 ≤ zs.length) : Rd W (.slice (some ⟨b, off + 16 * k, none⟩) 16 (c - 16 * k)) (blk zs k) := by
  have := (h.drop (16 * k) (by omega)).take 16 (by simp; omega)
  exact this
theorem fits_set {zs : List Int} (h : Fits zs) (k : Nat) (y : Int) (hy : -9223372036854775808 ≤ y ∧ y < 9223372036854775808) : Fits (zs.set k y) := by
  intro z hz
  rcases List.mem_or_eq_of_mem_set hz with hz | rfl
  · exact h z hz
  · exact hy

set_option maxRecDepth 100000 in
set_option maxHeartbeats 4000000 in
theorem walk_RecOnly (a : Option Addr) (len cap : Nat) (b t by' : Int) (high : Bool) (w : World) (hK : KeepIn w a len cap) (fb : (Lit.int .u8 b).wf = true) (ft : (Lit.int .u8 t).wf = true) (fd : (Lit.int .u32 by').wf = true) :
    Calls Try.prog 5 #[.slice a len cap, .int .u8 b, .int .u8 t, .int .u32 by', .bool high] w fun e w' => e = .returned (.bool true) ∧ Below w.heap.size w w' := by
  obtain ⟨n, rfl, hn9⟩ := wf_u8 fb
  obtain ⟨m, rfl, hm9⟩ := wf_u8 ft
  obtain ⟨d, rfl, hd9⟩ := wf_u32 fd
  clear fb ft fd
  by_cases h1 : (len : Int) > 300
  · go_enter Try.func5, Try.ntmps5
    go_wp2_with (go_at_call 8; refine (awake_any _).mono ?_; rintro e w1 ⟨rfl, hb1⟩)
    go_ret
    exact ⟨rfl, hb1⟩
  · obtain ⟨zs, rfl, R0, F0⟩ := hK (by omega)
    have F0 : Fits zs := F0
    by_cases h2 : (n : Int) ≥ (zs.length : Int) / 16
    · go_enter Try.func5, Try.ntmps5
      go_wp2_with (go_at_call 8; refine (awake_any _).mono ?_; rintro e w1 ⟨rfl, hb1⟩)
      go_ret
      exact ⟨rfl, hb1⟩
    · by_cases h3 : ((d : Int) == 0) = true
      · go_enter Try.func5, Try.ntmps5
        go_wp2_with (go_at_call 8; refine (awake_any _).mono ?_; rintro e w1 ⟨rfl, hb1⟩)
        go_ret
        exact ⟨rfl, hb1⟩
      · have h3 : ((d : Int) == 0) = false := by simpa using h3
        have hd0 : d ≠ 0 := by simp at h3; omega
        have hn : 16 * n + 16 ≤ zs.length := by omega
        have hz : -9223372036854775808 ≤ (n : Int) ∧ (n : Int) < 9223372036854775808 := by omega
        have HR0 : Hid (Rd w (.slice a zs.length cap) zs) := R0
        clear R0 hK
        rcases rd_case hn with ⟨hi, hX, hE⟩ | ⟨hi, hX, hE⟩
        · obtain ⟨x, hx⟩ : ∃ x, x = gsR (blk zs n) := ⟨_, rfl⟩
          obtain ⟨hok, him⟩ := isR_iff.1 hi
          rw [← hx] at hX hok him
          have HX : Hid (rdX zs n = x) := hX
          have HI : Hid (isR (blk zs n) = true) := hi
          have HL : Hid (wLs x = blk zs n) := show _ = _ by rw [wLs_ok' hok, him]
          have HE : Hid (wEs x = 0) := show _ = _ by unfold wEs; rw [rcB_iff.2 hok]; rfl
          clear hX hi hx hok him
          obtain ⟨g0, off, rfl, _⟩ := HR0.out.base (by omega)
          have hcap : zs.length ≤ cap := by
            obtain ⟨_, _, _, _, e, h, _⟩ := HR0.out
            cases e
            exact h
          obtain ⟨j, hj, hj9, g1, g2, g3, g4, g5⟩ := rem_nums m hm9
          have hk9 : 16 * n + j < zs.length := by omega
          have h9 : zs.length ≤ 1000 := by omega
          have lB : (blk zs n).length = 16 := blk_length hn
          obtain ⟨e1, e2, e3, e4, e5, e6, e7, e8, e9, f1, f2, f3, f4, f5, f6⟩ := only_nums hn9 hj9 hn hcap
          have H2 : Hid ((16 * (n : Int) + (j : Int)).toNat = 16 * n + j) := f2
          have H3 : Hid ((16 * (n : Int)).toNat = 16 * n ∧ (16 * (n : Int) + 16).toNat = 16 * n + 16) := ⟨e3, e7⟩
          clear f2 e3 e7 f1 e8 e9 e4
          have t2 : Hid (0 = 0) := rfl
          have t3 : Hid (0 = 0) := rfl
          have t1 : Hid (0 = 0) := rfl
          cases high
          · have hw0 : Sm.wd 0 (Sm.u64 (d : Int)) ≠ 0 := by rw [Sm.u64_nat _ (by omega)]; exact fun e => hd0 (Sm.wd_low hd9 e)
            have HB : Hid (rdX (zs.set (16 * n + j) (bits .xor .i64 (zs[16 * n + j]'hk9) (d : Int))) (n : Int) = aO ∧ rdE (zs.set (16 * n + j) (bits .xor .i64 (zs[16 * n + j]'hk9) (d : Int))) (n : Int) = 70) := blk_bad hn hj9 (d : Int) hw0 HI.out
            clear hw0
            go_enter Try.func5, Try.ntmps5
            go_wp2_with (first
              | (go_at_call 8; refine (awake_any _).mono ?_; rintro e w1 ⟨rfl, hb1⟩)
              | (go_at_call 11; clear t1; refine (read_any _ zs (n : Int) _ (HR0.out.below hb1) F0 hz).mono ?_; rintro e w2 ⟨rfl, hb2⟩; rw [HX.out, hE]; have hb2 := (bstep hb1 hb2).alloc (Nat.le_trans hb1.size hb2.size) (.cells #[.int .i64 x.k, .string x.key, .string x.val, .int .i64 x.ch] 23); obtain ⟨x0, x1, x2, x3⟩ := (rc_new w2 x).c)
              | (go_at_call 9; refine (wordsr_any x _).mono ?_; rintro e w3 ⟨v3, rfl, R3, hb3⟩; rw [HL.out] at R3; rw [HE.out]; obtain ⟨_, a3, k3, rfl⟩ := R3.form; rw [lB] at R3; have HR3 : Hid (Rd w3 (.slice a3 16 k3) (blk zs n)) := R3; have HB3 : Hid (Below w.heap.size w w3) := bstep hb2 hb3; have HC3 : Hid (Below w3.heap.size w3 (w3.alloc (.cells #[] 3))) := (Below.refl _ _).alloc (Nat.le_refl _) _; clear R3 hb3)
              | (at_builtin; refine append_rdc rfl (.tmp 61) (.tmp 62) 24 rfl w3.heap.size 3 1 (.int .i64 0) 8 Try.underlying24 Try.info3 rfl (by decide) (by decide) (.slice (some ⟨w3.heap.size, 0, none⟩) 0 0) 0 [] rfl (own_none w3 (Nat.le_refl _)) (.slice (some ⟨g0, off, none⟩) zs.length cap) zs.length (zs.map (Value.int .i64)) rfl (HR0.out.below (bstep HB3.out HC3.out)) (ints_one zs) (Nat.zero_le _) HC3.out.size ?_; intro v4 w4 o4 g4; have B4 : Below w3.heap.size w3 w4 := HC3.out.grown g4 HC3.out.size (by intro q hq; cases hq; exact Nat.le_refl _); obtain ⟨g, c4, rfl, hbg, hcell, hfr, hset⟩ := own_set (own_plus o4) h9 (16 * n + j) hk9; have HR5 : Hid (Rd _ _ _) := hset (bits .xor .i64 (zs[16 * n + j]'hk9) (d : Int)); have HB5 : Hid (Below w3.heap.size w3 _) := B4.setCell (p := ⟨g, 16 * n + j, none⟩) hbg (.int .i64 (bits .xor .i64 (zs[16 * n + j]'hk9) (d : Int))); clear hset o4 g4 B4)
              | (go_at_call 11; refine (read_any _ (zs.set (16 * n + j) (bits .xor .i64 (zs[16 * n + j]'hk9) (d : Int))) (n : Int) _ HR5.out (fits_set F0 _ _ (Sm.xor_bd _ _)) hz).mono ?_; rintro e w6 ⟨rfl, hb6⟩; rw [HB.out.1, HB.out.2]; dsimp only [aO]; have B6 := bstep HB5.out hb6; have B7 := B6.alloc B6.size (.cells #[.int .i64 0, .string ⟨#[]⟩, .string ⟨#[]⟩, .int .i64 0] 23); have HB7 : Hid (Below w.heap.size w _) := bstep HB3.out B7; have HR8 : Hid (Rd _ (.slice a3 16 k3) (blk zs n)) := HR3.out.below B7; have HR7 : Hid (Rd _ (.slice (some ⟨g0, off + 16 * n, none⟩) 16 (cap - 16 * n)) (blk zs n)) := (HR0.out.below HB7.out).blk n hn; clear B6 B7)
              | (clear t3; refine stop_at 108 rfl ?_; have e3 := H3.out.1; have e7 := H3.out.2)
              | (go_at_call 17; refine (numbers_any _ _ (blk zs n) (blk zs n) _ HR8.out HR7.out).mono ?_; rintro e w8 ⟨rfl, hb8⟩; rw [decide_eq_true rfl]; have B8 := bstep HB7.out hb8))
            go_ret
            exact ⟨rfl, B8⟩
          · have hw0 : Sm.wd 0 (Sm.u64 (wrap64 ((d : Int) * 4294967296))) ≠ 0 := by rw [Sm.u64_high d hd9]; exact fun e => hd0 (Sm.wd_high hd9 e)
            have HB : Hid (rdX (zs.set (16 * n + j) (bits .xor .i64 (zs[16 * n + j]'hk9) (wrap64 ((d : Int) * 4294967296)))) (n : Int) = aO ∧ rdE (zs.set (16 * n + j) (bits .xor .i64 (zs[16 * n + j]'hk9) (wrap64 ((d : Int) * 4294967296)))) (n : Int) = 70) := blk_bad hn hj9 (wrap64 ((d : Int) * 4294967296)) hw0 HI.out
            clear hw0
            go_enter Try.func5, Try.ntmps5
            go_wp2_with (first
              | (go_at_call 8; refine (awake_any _).mono ?_; rintro e w1 ⟨rfl, hb1⟩)
              | (go_at_call 11; clear t1; refine (read_any _ zs (n : Int) _ (HR0.out.below hb1) F0 hz).mono ?_; rintro e w2 ⟨rfl, hb2⟩; rw [HX.out, hE]; have hb2 := (bstep hb1 hb2).alloc (Nat.le_trans hb1.size hb2.size) (.cells #[.int .i64 x.k, .string x.key, .string x.val, .int .i64 x.ch] 23); obtain ⟨x0, x1, x2, x3⟩ := (rc_new w2 x).c)
              | (go_at_call 9; refine (wordsr_any x _).mono ?_; rintro e w3 ⟨v3, rfl, R3, hb3⟩; rw [HL.out] at R3; rw [HE.out]; obtain ⟨_, a3, k3, rfl⟩ := R3.form; rw [lB] at R3; have HR3 : Hid (Rd w3 (.slice a3 16 k3) (blk zs n)) := R3; have HB3 : Hid (Below w.heap.size w w3) := bstep hb2 hb3; have HC3 : Hid (Below w3.heap.size w3 (w3.alloc (.cells #[] 3))) := (Below.refl _ _).alloc (Nat.le_refl _) _; clear R3 hb3)
              | (at_builtin; refine append_rdc rfl (.tmp 61) (.tmp 62) 24 rfl w3.heap.size 3 1 (.int .i64 0) 8 Try.underlying24 Try.info3 rfl (by decide) (by decide) (.slice (some ⟨w3.heap.size, 0, none⟩) 0 0) 0 [] rfl (own_none w3 (Nat.le_refl _)) (.slice (some ⟨g0, off, none⟩) zs.length cap) zs.length (zs.map (Value.int .i64)) rfl (HR0.out.below (bstep HB3.out HC3.out)) (ints_one zs) (Nat.zero_le _) HC3.out.size ?_; intro v4 w4 o4 g4; have B4 : Below w3.heap.size w3 w4 := HC3.out.grown g4 HC3.out.size (by intro q hq; cases hq; exact Nat.le_refl _); obtain ⟨g, c4, rfl, hbg, hcell, hfr, hset⟩ := own_set (own_plus o4) h9 (16 * n + j) hk9; have HR5 : Hid (Rd _ _ _) := hset (bits .xor .i64 (zs[16 * n + j]'hk9) (wrap64 ((d : Int) * 4294967296))); have HB5 : Hid (Below w3.heap.size w3 _) := B4.setCell (p := ⟨g, 16 * n + j, none⟩) hbg (.int .i64 (bits .xor .i64 (zs[16 * n + j]'hk9) (wrap64 ((d : Int) * 4294967296)))); clear hset o4 g4 B4)
              | (go_at_call 11; refine (read_any _ (zs.set (16 * n + j) (bits .xor .i64 (zs[16 * n + j]'hk9) (wrap64 ((d : Int) * 4294967296)))) (n : Int) _ HR5.out (fits_set F0 _ _ (Sm.xor_bd _ _)) hz).mono ?_; rintro e w6 ⟨rfl, hb6⟩; rw [HB.out.1, HB.out.2]; dsimp only [aO]; have B6 := bstep HB5.out hb6; have B7 := B6.alloc B6.size (.cells #[.int .i64 0, .string ⟨#[]⟩, .string ⟨#[]⟩, .int .i64 0] 23); have HB7 : Hid (Below w.heap.size w _) := bstep HB3.out B7; have HR8 : Hid (Rd _ (.slice a3 16 k3) (blk zs n)) := HR3.out.below B7; have HR7 : Hid (Rd _ (.slice (some ⟨g0, off + 16 * n, none⟩) 16 (cap - 16 * n)) (blk zs n)) := (HR0.out.below HB7.out).blk n hn; clear B6 B7)
              | (clear t3; refine stop_at 108 rfl ?_; have e3 := H3.out.1; have e7 := H3.out.2)
              | (go_at_call 17; refine (numbers_any _ _ (blk zs n) (blk zs n) _ HR8.out HR7.out).mono ?_; rintro e w8 ⟨rfl, hb8⟩; rw [decide_eq_true rfl]; have B8 := bstep HB7.out hb8))
            go_ret
            exact ⟨rfl, B8⟩
        · have HX : Hid (rdX zs n = aO) := hX
          have q0 : ∀ w, (binOp .eql 23 (.agg #[.int .i64 0, .string ⟨#[]⟩, .string ⟨#[]⟩, .int .i64 0]) (.agg #[.int .i64 0, .string ⟨#[]⟩, .string ⟨#[]⟩, .int .i64 0])).run Try.prog w = .ok (.bool true) w := fun w => by
            have := eq23 aO aO w
            rw [decide_eq_true rfl] at this
            exact this
          clear hX hi
          go_enter Try.func5, Try.ntmps5
          go_wp2_with (first
            | (go_at_call 8; refine (awake_any _).mono ?_; rintro e w1 ⟨rfl, hb1⟩)
            | (go_at_call 11; refine (read_any _ zs (n : Int) _ (HR0.out.below hb1) F0 hz).mono ?_; rintro e w2 ⟨rfl, hb2⟩; rw [HX.out, hE]; dsimp only [aO]))
          go_ret
          exact ⟨rfl, (bstep hb1 hb2).alloc (Nat.le_trans hb1.size hb2.size) _⟩
end Go.Proofs.Ytmhojhpfkieioaa
