/- Set over from a lower layer: Reck. · Set over from a lower layer: Recw. · Set over from a lower layer: Numm. · Set over from a lower layer: Recj. -/
import Derived.Test.YtcgclhahonndbaaGreatRReca
import Derived.Test.YtcgclhahonndbaaGreatBase
import Derived.Test.YtcgclhahonndbaaGreatXRRecr
import Derived.Test.YtcgclhahonndbaaGreatXRWalko
import Derived.WalkKit
import Derived.WalkSpells
import Derived.WalkLawsBesides
import Derived.LoopN
import Derived.Laws.BytesArg
import Derived.Laws.AppendOwnNone
import Derived.Deep.QuietTactic
import Derived.BigQuiet
import Derived.WalkSmall
import Derived.Deep.MidRow
import Derived.Deep.OwnRows
import Derived.Maps.OwnOps
import Derived.Laws.StructEq
import Derived.Deep.Strs
import Derived.Deep.Slices
import Derived.Deep.RegionLaw
import Derived.Deep.RegionHeld3
import Derived.Deep.RegionWith
import Derived.Test.YtcgclhahonndbaaGreatRKeywalka
import Derived.Test.YtcgclhahonndbaaGreatRRecg
import Derived.Test.YtcgclhahonndbaaGreatRRech
import Derived.Test.YtcgclhahonndbaaGreatRRecz
import Derived.Test.YtcgclhahonndbaaGreatSSumz
import Derived.Test.YtcgclhahonndbaaGreatXRRecu
import Derived.Test.YtcgclhahonndbaaGreatXRRecv
import Derived.Test.YtcgclhahonndbaaGreatNNumz
namespace Go.Proofs.YtcgclhahonndbaaGreat
open Go.RowKit Go.Shelf Classical
set_option linter.unusedVariables false
theorem wEs_01 (x : Rc) : (rcB x = true ∧ wEs x = 0) ∨ (rcB x = false ∧ wEs x = 70) := by
  unfold wEs
  cases rcB x
  · exact .inr ⟨rfl, rfl⟩
  · exact .inl ⟨rfl, rfl⟩
end Go.Proofs.YtcgclhahonndbaaGreat
namespace Go.Proofs.YtcgclhahonndbaaGreat
open Go.RowKit Go.Shelf Classical
set_option linter.unusedVariables false
theorem bne_cases (a : Int) : (a != 0) = true ∧ a ≠ 0 ∨ (a != 0) = false ∧ a = 0 := by
  by_cases h : a = 0
  · exact .inr ⟨by simp [h], h⟩
  · exact .inl ⟨by simpa using h, h⟩
theorem wEs_ne {x : Rc} (h : wEs x ≠ 0) : rcB x = false := by
  rcases wEs_01 x with ⟨_, e⟩ | ⟨e, _⟩
  · exact absurd e h
  · exact e
theorem wEs_eq {x : Rc} (h : wEs x = 0) : rcB x = true := by
  rcases wEs_01 x with ⟨e, _⟩ | ⟨_, e⟩
  · exact e
  · rw [h] at e; cases e
theorem Rrd_no {zs : List Int} {n : Nat} (hn : 16 * n + 16 ≤ zs.length) (h : isR (blk zs n) = false) : rdX zs (n : Int) = rc0 ∧ RrdE zs (n : Int) = 70 := by
  rcases rd_case hn with ⟨e, _⟩ | ⟨_, h2, h3⟩
  · rw [h] at e; cases e
  · exact ⟨h2, h3⟩
theorem Rrd_yes {zs : List Int} {n : Nat} (hn : 16 * n + 16 ≤ zs.length) (h : isR (blk zs n) = true) : rdX zs (n : Int) = rX (blk zs n) ∧ RrdE zs (n : Int) = 0 := by
  rcases rd_case hn with ⟨_, h2, h3⟩ | ⟨e, _⟩
  · exact ⟨by rw [h2, rX_gs h], h3⟩
  · rw [h] at e; cases e
theorem to_no {zs : List Int} {n : Nat} {v : Value} {w : World} (hn : 16 * n + 16 ≤ zs.length) (h : isR (blk zs n) = false) (c : Calls Tryz.prog 48 #[v, .int .i64 (n : Int)] w fun e w' => e = .returned (.tuple #[.agg (rcs rc0).toArray, .int .i64 70]) ∧ Below w.heap.size w w') :
    Calls Tryz.prog 48 #[v, .int .i64 (n : Int)] w fun e w' => e = .returned (.tuple #[.agg #[.int .i64 (rdX zs n).k, .string (rdX zs n).key, .string (rdX zs n).val, .int .i64 (rdX zs n).ch], .int .i64 (RrdE zs n)]) ∧ Below w.heap.size w w' := by
  obtain ⟨h1, h2⟩ := Rrd_no hn h
  rw [h1, h2]
  exact c
theorem to_yes {zs : List Int} {n : Nat} {v : Value} {w : World} {X : Rc} (hn : 16 * n + 16 ≤ zs.length) (h : isR (blk zs n) = true) (hX : rX (blk zs n) = X) (c : Calls Tryz.prog 48 #[v, .int .i64 (n : Int)] w fun e w' => e = .returned (.tuple #[.agg (rcs X).toArray, .int .i64 0]) ∧ Below w.heap.size w w') :
    Calls Tryz.prog 48 #[v, .int .i64 (n : Int)] w fun e w' => e = .returned (.tuple #[.agg #[.int .i64 (rdX zs n).k, .string (rdX zs n).key, .string (rdX zs n).val, .int .i64 (rdX zs n).ch], .int .i64 (RrdE zs n)]) ∧ Below w.heap.size w w' := by
  obtain ⟨h1, h2⟩ := Rrd_yes hn h
  rw [h1, h2, hX]
  exact c
theorem not_isR {M : List Int} (h : ¬ (Ky.txE (rKl M) (rKn M : Int) = 0 ∧ rF M = 0 ∧ rcB (rX M) = true ∧ wLs (rX M) = M)) : isR M = false := by
  cases e : isR M
  · rfl
  · exact absurd ((rX_iff M).1 e) h
set_option maxRecDepth 100000 in
set_option maxHeartbeats 4000000 in
theorem RreadR_any (v : Value) (zs : List Int) (z : Int) (w : World) (hR : Rd w v zs) (hF : Fits zs) (hl : zs.length ≤ 1000) : Calls Tryz.prog 48 #[v, .int .i64 z] w fun e w' => e = .returned (.tuple #[.agg #[.int .i64 (rdX zs z).k, .string (rdX zs z).key, .string (rdX zs z).val, .int .i64 (rdX zs z).ch], .int .i64 (RrdE zs z)]) ∧ Below w.heap.size w w' := by
  obtain ⟨_, a, cap, rfl⟩ := hR.form
  cases hi : inB zs.length z with
  | false =>
    have H : Hid (rdX zs z = rc0 ∧ RrdE zs z = 1) := show _ ∧ _ by
      unfold rdX RrdE
      rw [hi]
      exact ⟨rfl, rfl⟩
    have k25 : Hid (∀ w', Below w.heap.size w w' → Calls Tryz.prog 74 #[.slice a zs.length cap, .int .i64 z] w' fun e w'' => e = .returned (.bool false) ∧ Below w'.heap.size w' w'') := fun w' hb => by
      have := whole_any _ zs z w' (hR.below hb) hl
      rw [hi] at this
      exact this
    have H0 : Hid (Below w.heap.size w (w.alloc (.cells #[.int .i64 0, .string ⟨#[]⟩, .string ⟨#[]⟩, .int .i64 0] 40))) := (Below.refl _ _).alloc (Nat.le_refl _) _
    have R0 : Hid (RcAt (w.alloc (.cells #[.int .i64 0, .string ⟨#[]⟩, .string ⟨#[]⟩, .int .i64 0] 40)) w.heap.size rc0) := rc0_new w
    clear hi
    go_enter Tryz.func48, Tryz.ntmps48
    go_wp2_with (first
      | (go_at_call 74; refine (k25.out _ H0.out).mono ?_; rintro e w1 ⟨rfl, b1⟩; have H1 : Hid (Below w.heap.size w w1) := bstep H0.out b1; have R1 := R0.out.below b1; have ht := R1.there; have hla := R1.laid rc0; clear b1)
      | (refine wpList_store_mid rfl 40 _ _ rfl w.heap.size 0 (rcs rc0).toArray rfl rfl ht (rcs_size rc0) (rcs_one rc0) ?_))
    refine bodyPost_ret (v := .tuple #[.agg (rcs rc0).toArray, .int .i64 1]) ?_ rfl ⟨by rw [H.out.1, H.out.2]; rfl, Sm.below_setCells _ _ _ (Nat.le_refl _) H1.out⟩
    have := run_loadVar_mid (P := Tryz.prog) _ w.heap.size 0 40 (rcs rc0) _ hla Tryz.underlying40 rfl (rcs_sizeL rc0)
    simp [results, Tryz.results48, asAddr, this]
  | true =>
    have hz := of_decide_eq_true hi
    obtain ⟨n, rfl⟩ : ∃ n : Nat, z = (n : Int) := ⟨z.toNat, by omega⟩
    have hn : 16 * n + 16 ≤ zs.length := by omega
    have hcap : zs.length ≤ cap := by
      obtain ⟨_, _, _, _, e, h, _⟩ := hR
      cases e
      exact h
    obtain ⟨b, off, rfl, _⟩ := hR.base (by omega)
    have hM := hR.blk n hn
    have lM := blk_length hn
    have fM : Fits (blk zs n) := fun y hy => hF y (List.mem_of_mem_drop (List.mem_of_mem_take hy))
    obtain ⟨k, hk⟩ : ∃ k, (blk zs n)[0]? = some k := ⟨_, List.getElem?_eq_getElem (by omega)⟩
    obtain ⟨sz, hsz⟩ : ∃ k, (blk zs n)[1]? = some k := ⟨_, List.getElem?_eq_getElem (by omega)⟩
    obtain ⟨ch, hch⟩ : ∃ k, (blk zs n)[6]? = some k := ⟨_, List.getElem?_eq_getElem (by omega)⟩
    by_cases hs : 0 ≤ sz ∧ sz ≤ 693
    · obtain ⟨s, rfl⟩ : ∃ s : Nat, sz = (s : Int) := ⟨sz.toNat, by omega⟩
      have eK : rKn (blk zs n) = s / 32 := by unfold rKn; rw [hsz]; show ((s : Int) / 32).toNat = _; omega
      have eV : rVn (blk zs n) = s % 32 := by unfold rVn; rw [hsz]; show ((s : Int) % 32).toNat = _; omega
      have eKl : rKl (blk zs n) = ((blk zs n).drop 3).take ((s / 32 + 6) / 7) := by unfold rKl; rw [eK]; rfl
      have eVl : rVl (blk zs n) = ((blk zs n).drop 6).take ((s % 32 + 6) / 7) := by unfold rVl; rw [eV]; rfl
      have e0 : (blk zs n)[0]?.getD 0 = k := by rw [hk]; rfl
      have e6 : (blk zs n)[6]?.getD 0 = ch := by rw [hch]; rfl
      by_cases hk1 : k = 1
      · subst hk1
        have eX : rX (blk zs n) = ⟨1, Ky.txS (((blk zs n).drop 3).take ((s / 32 + 6) / 7)) ((s / 32 : Nat) : Int), Ky.txS (((blk zs n).drop 6).take ((s % 32 + 6) / 7)) ((s % 32 : Nat) : Int), 0⟩ := by
          unfold rX
          rw [e0, eK, eV, eKl, eVl, if_pos rfl, if_pos rfl]
        have eF : rF (blk zs n) = Ky.txE (((blk zs n).drop 6).take ((s % 32 + 6) / 7)) ((s % 32 : Nat) : Int) := by
          unfold rF
          rw [e0, eV, eVl, if_pos rfl]
        have base := rX_iff (blk zs n)
        have nb := not_isR (M := blk zs n)
        rw [eF, eX, eK, eKl] at base nb
        rcases bne_cases (Ky.txE (((blk zs n).drop 3).take ((s / 32 + 6) / 7)) ((s / 32 : Nat) : Int)) with ⟨d1, c1⟩ | ⟨d1, c1⟩
        · exact to_no hn (nb (fun h => c1 h.1)) (readR_1_e w b off cap n zs.length (by omega) hn hcap (blk zs n) hM lM fM s (s / 32) (s % 32) ((s / 32 + 6) / 7) ((s % 32 + 6) / 7) 0 ch hk hsz hch (by omega) (by omega) (by omega) (by omega) (by omega) (by omega) (by omega) (by omega) (by omega) (Ky.txS (((blk zs n).drop 3).take ((s / 32 + 6) / 7)) ((s / 32 : Nat) : Int)) (Ky.txS (((blk zs n).drop 6).take ((s % 32 + 6) / 7)) ((s % 32 : Nat) : Int)) (Ky.txE (((blk zs n).drop 3).take ((s / 32 + 6) / 7)) ((s / 32 : Nat) : Int)) (Ky.txE (((blk zs n).drop 6).take ((s % 32 + 6) / 7)) ((s % 32 : Nat) : Int)) rfl rfl rfl rfl _ rfl d1 zs hR rfl hl)
        · rcases bne_cases (Ky.txE (((blk zs n).drop 6).take ((s % 32 + 6) / 7)) ((s % 32 : Nat) : Int)) with ⟨d2, c2⟩ | ⟨d2, c2⟩
          · exact to_no hn (nb (fun h => c2 h.2.1)) (readR_1_f w b off cap n zs.length (by omega) hn hcap (blk zs n) hM lM fM s (s / 32) (s % 32) ((s / 32 + 6) / 7) ((s % 32 + 6) / 7) 0 ch hk hsz hch (by omega) (by omega) (by omega) (by omega) (by omega) (by omega) (by omega) (by omega) (by omega) (Ky.txS (((blk zs n).drop 3).take ((s / 32 + 6) / 7)) ((s / 32 : Nat) : Int)) (Ky.txS (((blk zs n).drop 6).take ((s % 32 + 6) / 7)) ((s % 32 : Nat) : Int)) (Ky.txE (((blk zs n).drop 3).take ((s / 32 + 6) / 7)) ((s / 32 : Nat) : Int)) (Ky.txE (((blk zs n).drop 6).take ((s % 32 + 6) / 7)) ((s % 32 : Nat) : Int)) rfl rfl rfl rfl _ rfl d1 d2 zs hR rfl hl)
          · rcases bne_cases (wEs (⟨1, Ky.txS (((blk zs n).drop 3).take ((s / 32 + 6) / 7)) ((s / 32 : Nat) : Int), Ky.txS (((blk zs n).drop 6).take ((s % 32 + 6) / 7)) ((s % 32 : Nat) : Int), 0⟩ : Rc)) with ⟨d3, c3⟩ | ⟨d3, c3⟩
            · exact to_no hn (nb (fun h => by rw [wEs_ne c3] at h; exact absurd h.2.2.1 (by simp))) (readR_1_g w b off cap n zs.length (by omega) hn hcap (blk zs n) hM lM fM s (s / 32) (s % 32) ((s / 32 + 6) / 7) ((s % 32 + 6) / 7) 0 ch hk hsz hch (by omega) (by omega) (by omega) (by omega) (by omega) (by omega) (by omega) (by omega) (by omega) (Ky.txS (((blk zs n).drop 3).take ((s / 32 + 6) / 7)) ((s / 32 : Nat) : Int)) (Ky.txS (((blk zs n).drop 6).take ((s % 32 + 6) / 7)) ((s % 32 : Nat) : Int)) (Ky.txE (((blk zs n).drop 3).take ((s / 32 + 6) / 7)) ((s / 32 : Nat) : Int)) (Ky.txE (((blk zs n).drop 6).take ((s % 32 + 6) / 7)) ((s % 32 : Nat) : Int)) rfl rfl rfl rfl _ rfl d1 d2 d3 zs hR rfl hl)
            · by_cases c4 : wLs (⟨1, Ky.txS (((blk zs n).drop 3).take ((s / 32 + 6) / 7)) ((s / 32 : Nat) : Int), Ky.txS (((blk zs n).drop 6).take ((s % 32 + 6) / 7)) ((s % 32 : Nat) : Int), 0⟩ : Rc) = blk zs n
              · exact to_yes hn (base.2 ⟨c1, c2, wEs_eq c3, c4⟩) eX (readR_1_ok w b off cap n zs.length (by omega) hn hcap (blk zs n) hM lM fM s (s / 32) (s % 32) ((s / 32 + 6) / 7) ((s % 32 + 6) / 7) 0 ch hk hsz hch (by omega) (by omega) (by omega) (by omega) (by omega) (by omega) (by omega) (by omega) (by omega) (Ky.txS (((blk zs n).drop 3).take ((s / 32 + 6) / 7)) ((s / 32 : Nat) : Int)) (Ky.txS (((blk zs n).drop 6).take ((s % 32 + 6) / 7)) ((s % 32 : Nat) : Int)) (Ky.txE (((blk zs n).drop 3).take ((s / 32 + 6) / 7)) ((s / 32 : Nat) : Int)) (Ky.txE (((blk zs n).drop 6).take ((s % 32 + 6) / 7)) ((s % 32 : Nat) : Int)) rfl rfl rfl rfl _ rfl d1 d2 d3 (decide_eq_true c4) zs hR rfl hl)
              · exact to_no hn (nb (fun h => c4 h.2.2.2)) (readR_1_n w b off cap n zs.length (by omega) hn hcap (blk zs n) hM lM fM s (s / 32) (s % 32) ((s / 32 + 6) / 7) ((s % 32 + 6) / 7) 0 ch hk hsz hch (by omega) (by omega) (by omega) (by omega) (by omega) (by omega) (by omega) (by omega) (by omega) (Ky.txS (((blk zs n).drop 3).take ((s / 32 + 6) / 7)) ((s / 32 : Nat) : Int)) (Ky.txS (((blk zs n).drop 6).take ((s % 32 + 6) / 7)) ((s % 32 : Nat) : Int)) (Ky.txE (((blk zs n).drop 3).take ((s / 32 + 6) / 7)) ((s / 32 : Nat) : Int)) (Ky.txE (((blk zs n).drop 6).take ((s % 32 + 6) / 7)) ((s % 32 : Nat) : Int)) rfl rfl rfl rfl _ rfl d1 d2 d3 (decide_eq_false c4) zs hR rfl hl)
      · have hkb : (k == 1) = false := by simpa using hk1
        have eX : rX (blk zs n) = (⟨k, Ky.txS (((blk zs n).drop 3).take ((s / 32 + 6) / 7)) ((s / 32 : Nat) : Int), ⟨#[]⟩, ch⟩ : Rc) := by
          unfold rX
          rw [e0, e6, eK, eKl, if_neg hk1, if_neg hk1]
          exact Eq.refl _
        have eF : rF (blk zs n) = 0 := by
          unfold rF
          rw [e0, if_neg hk1]
        have base := rX_iff (blk zs n)
        have nb := not_isR (M := blk zs n)
        rw [eF, eX, eK, eKl] at base nb
        rcases bne_cases (Ky.txE (((blk zs n).drop 3).take ((s / 32 + 6) / 7)) ((s / 32 : Nat) : Int)) with ⟨d1, c1⟩ | ⟨d1, c1⟩
        · exact to_no hn (nb (fun h => c1 h.1)) (readR_2_e w b off cap n zs.length (by omega) hn hcap (blk zs n) hM lM fM s (s / 32) (s % 32) ((s / 32 + 6) / 7) ((s % 32 + 6) / 7) k ch hk hsz hch (by omega) (by omega) (by omega) (by omega) (by omega) (by omega) (by omega) (by omega) (by omega) hkb (Ky.txS (((blk zs n).drop 3).take ((s / 32 + 6) / 7)) ((s / 32 : Nat) : Int)) ByteArray.empty (Ky.txE (((blk zs n).drop 3).take ((s / 32 + 6) / 7)) ((s / 32 : Nat) : Int)) 0 rfl rfl _ rfl d1 zs hR rfl hl)
        · rcases bne_cases (wEs (⟨k, Ky.txS (((blk zs n).drop 3).take ((s / 32 + 6) / 7)) ((s / 32 : Nat) : Int), ⟨#[]⟩, ch⟩ : Rc)) with ⟨d3, c3⟩ | ⟨d3, c3⟩
          · exact to_no hn (nb (fun h => by rw [wEs_ne c3] at h; exact absurd h.2.2.1 (by simp))) (readR_2_g w b off cap n zs.length (by omega) hn hcap (blk zs n) hM lM fM s (s / 32) (s % 32) ((s / 32 + 6) / 7) ((s % 32 + 6) / 7) k ch hk hsz hch (by omega) (by omega) (by omega) (by omega) (by omega) (by omega) (by omega) (by omega) (by omega) hkb (Ky.txS (((blk zs n).drop 3).take ((s / 32 + 6) / 7)) ((s / 32 : Nat) : Int)) ByteArray.empty (Ky.txE (((blk zs n).drop 3).take ((s / 32 + 6) / 7)) ((s / 32 : Nat) : Int)) 0 rfl rfl _ rfl d1 d3 zs hR rfl hl)
          · by_cases c4 : wLs (⟨k, Ky.txS (((blk zs n).drop 3).take ((s / 32 + 6) / 7)) ((s / 32 : Nat) : Int), ⟨#[]⟩, ch⟩ : Rc) = blk zs n
            · exact to_yes hn (base.2 ⟨c1, rfl, wEs_eq c3, c4⟩) eX (readR_2_ok w b off cap n zs.length (by omega) hn hcap (blk zs n) hM lM fM s (s / 32) (s % 32) ((s / 32 + 6) / 7) ((s % 32 + 6) / 7) k ch hk hsz hch (by omega) (by omega) (by omega) (by omega) (by omega) (by omega) (by omega) (by omega) (by omega) hkb (Ky.txS (((blk zs n).drop 3).take ((s / 32 + 6) / 7)) ((s / 32 : Nat) : Int)) ByteArray.empty (Ky.txE (((blk zs n).drop 3).take ((s / 32 + 6) / 7)) ((s / 32 : Nat) : Int)) 0 rfl rfl _ rfl d1 d3 (decide_eq_true c4) zs hR rfl hl)
            · exact to_no hn (nb (fun h => c4 h.2.2.2)) (readR_2_n w b off cap n zs.length (by omega) hn hcap (blk zs n) hM lM fM s (s / 32) (s % 32) ((s / 32 + 6) / 7) ((s % 32 + 6) / 7) k ch hk hsz hch (by omega) (by omega) (by omega) (by omega) (by omega) (by omega) (by omega) (by omega) (by omega) hkb (Ky.txS (((blk zs n).drop 3).take ((s / 32 + 6) / 7)) ((s / 32 : Nat) : Int)) ByteArray.empty (Ky.txE (((blk zs n).drop 3).take ((s / 32 + 6) / 7)) ((s / 32 : Nat) : Int)) 0 rfl rfl _ rfl d1 d3 (decide_eq_false c4) zs hR rfl hl)
    · have hno : isR (blk zs n) = false := by
        cases e : isR (blk zs n)
        · rfl
        · have := isR_size e
          rw [hsz] at this
          exact absurd this hs
      refine to_no hn hno ?_
      have k25 : Hid (∀ w', Below w.heap.size w w' → Calls Tryz.prog 74 #[.slice (some ⟨b, off, none⟩) zs.length cap, .int .i64 (n : Int)] w' fun e w'' => e = .returned (.bool true) ∧ Below w'.heap.size w' w'') := fun w' hb => by
        have := whole_any _ zs (n : Int) w' (hR.below hb) hl
        rw [hi] at this
        exact this
      have H0 : Hid (Below w.heap.size w (w.alloc (.cells #[.int .i64 0, .string ⟨#[]⟩, .string ⟨#[]⟩, .int .i64 0] 40))) := (Below.refl _ _).alloc (Nat.le_refl _) _
      have R0 : Hid (RcAt (w.alloc (.cells #[.int .i64 0, .string ⟨#[]⟩, .string ⟨#[]⟩, .int .i64 0] 40)) w.heap.size rc0) := rc0_new w
      obtain ⟨e1, e2, e3, e5, e6, e7, f5, f6⟩ := rd_nums (n := n) (by omega) hn hcap
      have HM : Hid (Rd w (.slice (some ⟨b, off + 16 * n, none⟩) 16 (cap - 16 * n)) (blk zs n)) := hM
      have hor : sz < 0 ∨ sz > 693 := by omega
      clear hi hM hR hz hno hs lM
      rcases hor with ho | ho
      all_goals
        go_enter Tryz.func48, Tryz.ntmps48
        go_wp2_with (first
          | (go_at_call 74; refine (k25.out _ H0.out).mono ?_; rintro e w1 ⟨rfl, b1⟩; have H1 : Hid (Below w.heap.size w w1) := bstep H0.out b1; have R1 := R0.out.below b1; have ht := R1.there; have hla := R1.laid rc0; have m1 := (HM.out.below H1.out).cell hsz; clear b1)
          | (refine wpList_store_mid rfl 40 _ _ rfl w.heap.size 0 (rcs rc0).toArray rfl rfl ht (rcs_size rc0) (rcs_one rc0) ?_))
        refine bodyPost_ret (v := .tuple #[.agg (rcs rc0).toArray, .int .i64 70]) ?_ rfl ⟨rfl, Sm.below_setCells _ _ _ (Nat.le_refl _) H1.out⟩
        have := run_loadVar_mid (P := Tryz.prog) _ w.heap.size 0 40 (rcs rc0) _ hla Tryz.underlying40 rfl (rcs_sizeL rc0)
        simp [results, Tryz.results48, asAddr, this]
end Go.Proofs.YtcgclhahonndbaaGreat
namespace Go.Proofs.YtcgclhahonndbaaGreat
theorem plN_length (l : List Int) : (plN l).length ≤ l.length := by
  induction l with
  | nil => exact Nat.le_refl _
  | cons x r ih =>
    rw [plN_cons]
    split
    · exact Nat.le_trans ih (Nat.le_succ _)
    · exact Nat.succ_le_succ ih
end Go.Proofs.YtcgclhahonndbaaGreat
namespace Go.Proofs.YtcgclhahonndbaaGreat
open Go.RowKit Go.Shelf Classical
set_option linter.unusedVariables false
def aX : Rc := ⟨1, ⟨#[97]⟩, ⟨#[98]⟩, 0⟩
theorem aX_ok : OkR aX := .inl ⟨rfl, by decide, by decide, by decide, rfl⟩
def aL : List Int := imL aX
theorem i0 : (-9223372036854775808 : Int) ≤ 0 ∧ (0 : Int) < 9223372036854775808 := by omega
/-- The calls of awake. -/
theorem aw_words (w : World) : Calls Tryz.prog 18 #[.agg #[.int .i64 1, .string ⟨#[97]⟩, .string ⟨#[98]⟩, .int .i64 0]] w fun e w' => ∃ v, e = .returned (.tuple #[v, .int .i64 0]) ∧ Rd w' v aL ∧ Below w.heap.size w w' := by
  have h : rcB aX = true := rcB_iff.2 aX_ok
  have h1 : wLs aX = aL := by unfold wLs; rw [h]; rfl
  have h2 : wEs aX = 0 := by unfold wEs; rw [h]; rfl
  have := wordsr_any aX w
  rw [h1, h2] at this
  exact this
end Go.Proofs.YtcgclhahonndbaaGreat
