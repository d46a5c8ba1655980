/- Layer 12: slices.DeleteFunc at pairs; Without. -/
import Derived.Test.YtcgclhahonndbaaGreatPae
namespace Go.Proofs.YtcgclhahonndbaaGreat
open Go.RowKit Go.Shelf
set_option linter.unusedVariables false

set_option maxRecDepth 100000 in
set_option maxHeartbeats 2000000 in
theorem deleteP_any (v : Value) (l : List Pa) (base kb : Nat) (key : ByteArray) (w : World) (hO : OwnP w base v l) (hl : l.length ≤ 1000) (hkb : w.cell? ⟨kb, 0, none⟩ = some (.string key)) (hne : kb < base) (hbase : base ≤ w.heap.size) :
    Calls Tryz.prog 32 #[v, .func (.func 34) #[] #[.pointer (some ⟨kb, 0, none⟩)]] w fun e w' => ∃ v', e = .returned v' ∧ OwnP w' base v' (woP l key) ∧ Below base w w' := by
  have hix := indexP_any 34 #[.pointer (some ⟨kb, 0, none⟩)] (fun p => tE p.k key) (enters_of Tryz.func34 (by kernel_rfl) rfl) v l w (hO.rd hl) (fun p W hb => eq40_any p key kb W ((hb.cell (p := ⟨kb, 0, none⟩) (Nat.lt_of_lt_of_le hne hbase)).trans hkb))
  have HIX := hix
  clear hix
  by_cases hf : fiG (fun p => tE p.k key) l < l.length
  · rcases hO.form with ⟨_, rfl⟩ | ⟨g, cap, rfl, hg, hB⟩
    · simp at hf
    obtain ⟨q, hq, hq2⟩ := fiG_at hf
    have e1 : ixP (fun p => tE p.k key) l = (fiG (fun p => tE p.k key) l : Int) := if_pos hf
    have hno : ∀ j p, j < fiG (fun p => tE p.k key) l → l[j]? = some p → tE p.k key = false := by
      intro j p hj hp
      cases e : tE p.k key with
      | false => rfl
      | true =>
        exfalso
        have hsm : ∀ (m : List Pa) (j : Nat) (p : Pa), m[j]? = some p → tE p.k key = true → fiG (fun p => tE p.k key) m ≤ j := by
          intro m
          induction m with
          | nil => intro j p h; simp at h
          | cons a r ih =>
            intro j p h h2
            unfold fiG
            split
            · exact Nat.zero_le _
            · rename_i h3
              cases j with
              | zero => cases h; exact absurd h2 h3
              | succ j => exact Nat.succ_le_succ (ih j p (by simpa using h) h2)
        have := hsm l j p hp e
        omega
    rw [e1] at HIX
    obtain ⟨k0, hk0⟩ : ∃ k0, k0 = fiG (fun p => tE p.k key) l := ⟨_, rfl⟩
    rw [← hk0] at HIX hf hq hno
    clear hk0 e1
    have hst : (l.take (k0 + 1)).filter (fun p => !tE p.k key) = l.take k0 := by
      rw [filter_next hq, woP_keep hno (by omega), if_neg (by simp [hq2]), List.append_nil]
    have H0 : Hid (∃ D : List Pa, D.length = l.length ∧ BkP w g cap D ∧ D.take k0 = (l.take (k0 + 1)).filter (fun p => !tE p.k key) ∧ D.drop (k0 + 1) = l.drop (k0 + 1)) := ⟨l, rfl, hB, hst.symm, rfl⟩
    have HG : Hid (base ≤ g) := hg
    have HC : Hid (w.cell? ⟨kb, 0, none⟩ = some (.string key)) := hkb
    have hlt2 : (k0 : Int) + 1 ≤ (l.length : Int) := by omega
    have hne1 : ((k0 : Int) == -1) = false := beq_eq_false_iff_ne.2 (by omega)
    have hcapI : (l.length : Int) ≤ (cap : Int) := by have := hB.len; omega
    have hcap9 : (cap : Int) ≤ 9223372036854775807 := by have := hB.mx; unfold maxLen at this; omega
    clear hst hno hq hq2 q hB hO hkb hg
    have eg : ∀ args w, (callFunc 34 args).run Tryz.prog w = .ok (.enter 34 args) w := enters_of Tryz.func34 (by kernel_rfl) rfl
    go_enter Tryz.func32, Tryz.ntmps32
    go_wp2_with (go_at_call 51; refine HIX.mono ?_; rintro e w1 ⟨rfl, hb1⟩; have B1 : Hid (Below w.heap.size w w1) := hb1; clear hb1)
    go_loopw [5, 6] (fun s5 s6 wr => ∃ (i j : Nat) (D : List Pa), s5 = .int .i64 i ∧ s6 = .int .i64 j ∧ i < j ∧ j ≤ l.length ∧ D.length = l.length ∧ BkP wr g cap D ∧ D.take i = (l.take j).filter (fun p => !tE p.k key) ∧ D.drop j = l.drop j ∧ Below base w wr) (fun _ s6 _ => l.length - (Go.RowKit.intOf s6).toNat)
    case atStart =>
      obtain ⟨D, d1, d2, d3, d4⟩ := H0.out
      exact ⟨k0, k0 + 1, D, rfl, congrArg (Value.int .i64) (by omega), by omega, by omega, d1, d2.below B1.out, d3, d4, B1.out.mono hbase⟩
    case round =>
      obtain ⟨i, j, D, rfl, rfl, hij, hjn, hD, hBk, ht, hd, hbel⟩ := hrel
      have HD : Hid (D.length = l.length) := hD
      have HK : Hid (BkP wr g cap D) := hBk
      have HT : Hid (D.take i = (l.take j).filter (fun p => !tE p.k key)) := ht
      have Hd : Hid (D.drop j = l.drop j) := hd
      have HB : Hid (Below base w wr) := hbel
      clear hD hBk ht hd hbel H0
      by_cases hlt : j < l.length
      · have hltI : (j : Int) < (l.length : Int) := by omega
        have hiI : (i : Int) < (l.length : Int) := by omega
        obtain ⟨x, hx⟩ : ∃ x, l[j]? = some x := ⟨_, List.getElem?_eq_getElem hlt⟩
        have Hx : Hid (l[j]? = some x) := hx
        have hxD : D[j]? = some x := by
          have := congrArg (fun m => m[0]?) Hd.out
          simpa [List.getElem?_drop, hx] using this
        obtain ⟨x0, x1⟩ := HK.out.at' j x hxD
        have hck : (wr.alloc (.cells #[.string x.k, .string x.v] 45)).cell? ⟨kb, 0, none⟩ = some (.string key) := by
          have h1 := (HB.out.cell (p := ⟨kb, 0, none⟩) hne).trans HC.out
          have hlt := World.block_lt_of_cell? _ _ h1
          exact ((Below.refl wr.heap.size wr).alloc (Nat.le_refl _) _).cell (p := ⟨kb, 0, none⟩) hlt |>.trans h1
        have C := eq40_any x key kb (wr.alloc (.cells #[.string x.k, .string x.v] 45)) hck
        have hn0 : (wr.alloc (.cells #[.string x.k, .string x.v] 45)).cell? ⟨wr.heap.size, 0, none⟩ = some (.string x.k) := World.cell?_alloc_at _ _ _ _ rfl
        have hn1 : (wr.alloc (.cells #[.string x.k, .string x.v] 45)).cell? ⟨wr.heap.size, 1, none⟩ = some (.string x.v) := World.cell?_alloc_at _ _ _ _ rfl
        have N0 : Hid ((wr.alloc (.cells #[.string x.k, .string x.v] 45)).cell? ⟨wr.heap.size, 0, none⟩ = some (.string x.k)) := hn0
        have N1 : Hid ((wr.alloc (.cells #[.string x.k, .string x.v] 45)).cell? ⟨wr.heap.size, 1, none⟩ = some (.string x.v)) := hn1
        have HKa : Hid (BkP (wr.alloc (.cells #[.string x.k, .string x.v] 45)) g cap D) := HK.out.below ((Below.refl _ _).alloc (Nat.le_refl _) _)
        have HBa : Hid (Below base w (wr.alloc (.cells #[.string x.k, .string x.v] 45))) := HB.out.alloc (Nat.le_trans hbase HB.out.size) _
        have hszI : base ≤ (wr.alloc (.cells #[.string x.k, .string x.v] 45)).heap.size := Nat.le_trans hbase HBa.out.size
        have HS : Hid (base ≤ (wr.alloc (.cells #[.string x.k, .string x.v] 45)).heap.size) := hszI
        have Hfn : Hid ((l.take (j + 1)).filter (fun p => !tE p.k key) = (l.take j).filter (fun p => !tE p.k key) ++ if (!tE x.k key) = true then [x] else []) := filter_next hx
        have Hdn : Hid (D.drop (j + 1) = l.drop (j + 1)) := drop_next Hd.out
        clear hx hxD hck hn0 hn1 hszI
        cases ht : tE x.k key with
        | true =>
          rw [ht] at C
          have HCc : Calls Tryz.prog 34 #[.agg #[.string x.k, .string x.v], .pointer (some ⟨kb, 0, none⟩)] (wr.alloc (.cells #[.string x.k, .string x.v] 45)) _ := C
          have Hf2 : Hid (D.take i = (l.take (j + 1)).filter (fun p => !tE p.k key)) := by
            show _ = _
            rw [Hfn.out, ht, HT.out]
            simp
          clear C ht Hfn
          go_wp2_with (go_at_fn 34; refine HCc.mono ?_; rintro e w2 ⟨rfl, hb2⟩)
          go_roundw
          case rel => exact ⟨i, j + 1, D, rfl, by go_num, by omega, by omega, HD.out, HKa.out.below hb2, Hf2.out, Hdn.out, HBa.out.trans (hb2.mono HS.out)⟩
          case measure => simp [Go.RowKit.intOf]; omega
        | false =>
          rw [ht] at C
          have HCc : Calls Tryz.prog 34 #[.agg #[.string x.k, .string x.v], .pointer (some ⟨kb, 0, none⟩)] (wr.alloc (.cells #[.string x.k, .string x.v] 45)) _ := C
          have Hf2 : Hid ((D.set i x).take (i + 1) = (l.take (j + 1)).filter (fun p => !tE p.k key)) := by
            show _ = _
            rw [set_take (by have := HD.out; omega), Hfn.out, ht, HT.out]
            simp
          obtain ⟨y, hy⟩ : ∃ y, D[i]? = some y := ⟨_, List.getElem?_eq_getElem (by have := HD.out; omega)⟩
          have HY : Hid (D[i]? = some y) := hy
          clear C ht Hfn hy
          go_wp2_with (go_at_fn 34; refine HCc.mono ?_; rintro e w2 ⟨rfl, hb2⟩; have HK2 : Hid (BkP w2 g cap D) := HKa.out.below hb2; have HB2 : Hid (Below base w w2) := HBa.out.trans (hb2.mono HS.out); have z0 := (hb2.cell (p := ⟨wr.heap.size, 0, none⟩) (by simp)).trans N0.out; have z1 := (hb2.cell (p := ⟨wr.heap.size, 1, none⟩) (by simp)).trans N1.out; obtain ⟨y0, y1⟩ := HK2.out.at' i y HY.out; have f0 := HK2.out.frozen (i * 2); have f1 := HK2.out.frozen (i * 2 + 1))
          go_roundw
          case rel => exact ⟨i + 1, j + 1, D.set i x, by go_num, by go_num, by omega, by omega, by rw [List.length_set]; exact HD.out, HK2.out.set (by have := HD.out; omega) x, Hf2.out, by rw [set_drop (by omega)]; exact Hdn.out, (HB2.out.setCell (p := ⟨g, i * 2, none⟩) HG.out _).setCell (p := ⟨g, i * 2 + 1, none⟩) HG.out _⟩
          case measure => simp [Go.RowKit.intOf]; omega
      · obtain rfl : j = l.length := by omega
        have hltI : ¬ (l.length : Int) < (l.length : Int) := by omega
        have Hf : Hid (D.take i = woP l key) := by
          have := HT.out
          rwa [List.take_of_length_le (Nat.le_refl _)] at this
        have hli : i = (woP l key).length := by rw [← Hf.out, List.length_take, HD.out]; omega
        obtain ⟨vs, hcl⟩ := run_clearP wr g (i * 2) (l.length - i) (cap - i) (by omega) (fun t ht => HK.out.sm _ (by have := HK.out.len; have := HD.out; omega)) (fun t ht => HK.out.frozen _)
        have hci : ¬ (cap = i) := by have := HK.out.len; have := HD.out; omega
        have hi1 : (i : Int) ≤ (l.length : Int) := by omega
        have hi2 : (i : Int) ≤ (cap : Int) := by omega
        have Hres : Hid (OwnP (wr.setCells g (i * 2) vs) base (.slice (some ⟨g, 0, none⟩) i cap) (woP l key) ∧ Below base w (wr.setCells g (i * 2) vs)) := by
          have h1 := (HK.out.sets (i := i) (by have := HD.out; omega) (Nat.le_refl _) vs).own HG.out
          rw [Hf.out, ← hli] at h1
          exact ⟨h1, below_sets HG.out vs _ HB.out⟩
        clear HT Hd Hf hli
        go_wp2
        go_ret
        exact ⟨_, rfl, Hres.out.1, Hres.out.2⟩
  · have e1 : ixP (fun p => tE p.k key) l = -1 := if_neg hf
    have e2 : fiG (fun p => tE p.k key) l = l.length := by have := fiG_le (t := fun p => tE p.k key) l; omega
    have Hw : Hid (woP l key = l) := by
      show _ = _
      unfold woP
      rw [List.filter_eq_self]
      intro p hp
      have := fiG_all e2 p hp
      rw [show tE p.k key = false from this]
      rfl
    rw [e1] at HIX
    have HO : Hid (OwnP w base v l) := hO
    clear e1 e2 hf hO
    go_enter Tryz.func32, Tryz.ntmps32
    go_wp2_with (go_at_call 51; refine HIX.mono ?_; rintro e w1 ⟨rfl, hb1⟩)
    go_ret
    exact ⟨_, rfl, by rw [Hw.out]; exact HO.out.below hb1, hb1.mono hbase⟩
end Go.Proofs.YtcgclhahonndbaaGreat
