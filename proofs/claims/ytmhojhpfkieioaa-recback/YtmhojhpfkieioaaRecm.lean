/- What the steps of a record leave in a memory: no program. -/
import Derived.Test.YtmhojhpfkieioaaRecl
import Derived.Test.YtmhojhpfkieioaaNuml
namespace Go.Proofs.Ytmhojhpfkieioaa
open Go.RowKit Go.Shelf Classical
set_option linter.unusedVariables false

/-- Words with a block's words laid. -/
def layW (W : List Int) (b : Nat) (L : List Int) : List Int := W.take (16 * b) ++ (L ++ W.drop (16 * b + 16))
theorem layW_length {W L : List Int} {b : Nat} (hb : 16 * b + 16 ≤ W.length) (hL : L.length = 16) : (layW W b L).length = W.length := by
  simp [layW]
  omega
theorem layW_in {W L : List Int} {b : Nat} (hb : 16 * b + 16 ≤ W.length) (hL : L.length = 16) {i : Nat} (h : 16 * b ≤ i) (h' : i < 16 * b + 16) : (layW W b L)[i]? = L[i - 16 * b]? := by
  unfold layW
  rw [List.getElem?_append_right (by simp; omega), List.getElem?_append_left (by simp; omega)]
  congr 1
  simp
  omega
theorem layW_out {W L : List Int} {b : Nat} (hb : 16 * b + 16 ≤ W.length) (hL : L.length = 16) {i : Nat} (h : i < 16 * b ∨ 16 * b + 16 ≤ i) : (layW W b L)[i]? = W[i]? := by
  unfold layW
  rcases h with h | h
  · rw [List.getElem?_append_left (by simp; omega), List.getElem?_take, if_pos h]
  · rw [List.getElem?_append_right (by simp; omega), List.getElem?_append_right (by simp; omega), List.getElem?_drop]
    congr 1
    simp
    omega
theorem layW_blk {W L : List Int} {b : Nat} (hb : 16 * b + 16 ≤ W.length) (hL : L.length = 16) : blk (layW W b L) b = L := by
  unfold blk layW
  rw [List.drop_append_of_le_length (by simp; omega), List.drop_of_length_le (by simp; omega), List.nil_append, List.take_append_of_le_length (by omega), List.take_of_length_le (by omega)]
theorem blk_get {W : List Int} {b i : Nat} : (blk W b)[i]? = if i < 16 then W[16 * b + i]? else none := by
  unfold blk
  rw [List.getElem?_take]
  split
  · rw [List.getElem?_drop]
  · rfl
theorem layW_other {W L : List Int} {a b : Nat} (ha : 16 * a + 16 ≤ W.length) (hL : L.length = 16) (hn : a ≠ b) : blk (layW W a L) b = blk W b := by
  refine List.ext_getElem? fun i => ?_
  rw [blk_get, blk_get]
  split
  · exact layW_out ha hL (by omega)
  · rfl
theorem layW_comm {W L M : List Int} {a b : Nat} (ha : 16 * a + 16 ≤ W.length) (hb : 16 * b + 16 ≤ W.length) (hL : L.length = 16) (hM : M.length = 16) (hn : a ≠ b) : layW (layW W a L) b M = layW (layW W b M) a L := by
  have l1 := layW_length (W := W) ha hL
  have l2 := layW_length (W := W) hb hM
  refine List.ext_getElem? fun i => ?_
  by_cases h1 : 16 * a ≤ i ∧ i < 16 * a + 16
  · rw [layW_out (by omega) hM (by omega), layW_in ha hL h1.1 h1.2, layW_in (by omega) hL h1.1 h1.2]
  · by_cases h2 : 16 * b ≤ i ∧ i < 16 * b + 16
    · rw [layW_in (by omega) hM h2.1 h2.2, layW_out (by omega) hL (by omega), layW_in hb hM h2.1 h2.2]
    · rw [layW_out (by omega) hM (by omega), layW_out ha hL (by omega), layW_out (by omega) hL (by omega), layW_out hb hM (by omega)]
theorem layW_twice {W L M : List Int} {b : Nat} (hb : 16 * b + 16 ≤ W.length) (hL : L.length = 16) (hM : M.length = 16) : layW (layW W b L) b M = layW W b M := by
  have l1 := layW_length (W := W) hb hL
  refine List.ext_getElem? fun i => ?_
  by_cases h1 : 16 * b ≤ i ∧ i < 16 * b + 16
  · rw [layW_in (by omega) hM h1.1 h1.2, layW_in hb hM h1.1 h1.2]
  · rw [layW_out (by omega) hM (by omega), layW_out hb hL (by omega), layW_out hb hM (by omega)]
/-- Stores that were begun. -/
theorem sto_vol {W L : List Int} {b : Nat} {m : Mm} (hm : Ok m) (hv : m.vol = W) (hp : m.pend = []) (hb : 16 * b + 16 ≤ W.length) (hL : L.length = 16) (k : Nat) (hk : k ≤ 16) :
    (∀ i, (runM m (stoL b (L.take k))).vol[i]? = if 16 * b ≤ i ∧ i < 16 * b + k then L[i - 16 * b]? else W[i]?) ∧ (∀ p ∈ (runM m (stoL b (L.take k))).pend, p.a / 8 = ((2 * b : Nat) : Int) ∨ p.a / 8 = ((2 * b + 1 : Nat) : Int)) := by
  induction k with
  | zero =>
    refine ⟨fun i => ?_, fun p h => ?_⟩
    · rw [if_neg (by omega)]
      show m.vol[i]? = _
      rw [hv]
    · have h : p ∈ m.pend := h
      rw [hp] at h
      cases h
  | succ k ih =>
    obtain ⟨h1, h2⟩ := ih (by omega)
    obtain ⟨x, hx⟩ : ∃ x, L[k]? = some x := ⟨_, List.getElem?_eq_getElem (by omega)⟩
    have ho := ok_run hm (stoL b (L.take k))
    have hl : (runM m (stoL b (L.take k))).vol.length = W.length := by rw [(run_len m _).1, hv]
    rw [stoL_next hx, runM_append]
    show (∀ i, (doM (runM m (stoL b (L.take k))) ⟨1, _, x⟩).vol[i]? = _) ∧ (∀ p ∈ (doM (runM m (stoL b (L.take k))) ⟨1, _, x⟩).pend, _)
    rw [doM_one rfl]
    generalize runM m (stoL b (L.take k)) = m1 at h1 h2 ho hl
    have hB : putB m1 ((16 * b + k : Nat) : Int) = true := putB_yes (ok_true ho) (by omega) (by omega)
    rw [putM_yes hB]
    refine ⟨fun i => ?_, fun p hp => ?_⟩
    · show (m1.vol.set _ x)[i]? = _
      by_cases e : i = 16 * b + k
      · subst e
        rw [if_pos (by omega), Int.toNat_natCast, List.getElem?_set_self (by omega), show 16 * b + k - 16 * b = k by omega, hx]
      · rw [Int.toNat_natCast, List.getElem?_set_ne (by omega), h1 i]
        by_cases h : 16 * b ≤ i ∧ i < 16 * b + k
        · rw [if_pos h, if_pos (by omega)]
        · rw [if_neg h, if_neg (by omega)]
    · rcases List.mem_append.1 hp with h | h
      · exact h2 p h
      · rw [List.mem_singleton.1 h]
        show ((16 * b + k : Nat) : Int) / 8 = _ ∨ ((16 * b + k : Nat) : Int) / 8 = _
        omega
theorem ff_from {m : Mm} {n : Int} {q : Pd} (h : q ∈ (fenM (fluM m n)).pend) (hk : Ok m) : ∃ p ∈ m.pend, p.a = q.a := by
  have ho := ok_flu hk n
  unfold fenM at h
  rw [ok_true ho] at h
  have h : q ∈ kPend ((fluM m n).pend.zip ((fluM m n).pend.map (·.f))) := h
  rw [zip_map_filter] at h
  have h := (List.mem_filter.1 h).1
  unfold fluM at h
  split at h
  · obtain ⟨p, hp, rfl⟩ := List.mem_map.1 h
    exact ⟨p, hp, (fluP_a n p).symm⟩
  · exact ⟨q, h, rfl⟩
/-- A block's words are laid and kept. -/
theorem lay_run {W L : List Int} {b : Nat} (hW : W.length ≤ 4096) (h8 : W.length % 8 = 0) (hb : 16 * b + 16 ≤ W.length) (hL : L.length = 16) : runM (allM W) (stoL b L ++ perL b) = allM (layW W b L) := by
  have h0 := ok_allM hW h8
  obtain ⟨h1, h2⟩ := sto_vol h0 (W := W) (L := L) (b := b) rfl rfl hb hL 16 (Nat.le_refl _)
  rw [List.take_of_length_le (by omega)] at h1 h2
  have ho := ok_run h0 (stoL b L)
  have hl : (runM (allM W) (stoL b L)).vol.length = W.length := (run_len _ _).1
  rw [runM_append]
  generalize runM (allM W) (stoL b L) = m1 at h1 h2 ho hl
  show doM (doM m1 ⟨2, _, 0⟩) ⟨2, _, 0⟩ = _
  rw [doM_two rfl, doM_two rfl]
  have a1 : lnB m1 ((2 * b : Nat) : Int) = true := lnB_yes (ok_true ho) (decide_eq_true (by omega))
  have n1 := ff_none a1 ho (t := 2 * b) rfl
  have o1 : Ok (fenM (fluM m1 ((2 * b : Nat) : Int))) := ok_fen (ok_flu ho _)
  have f1 : ∀ q ∈ (fenM (fluM m1 ((2 * b : Nat) : Int))).pend, q.a / 8 = ((2 * b + 1 : Nat) : Int) := by
    intro q hq
    have h3 := n1 q hq
    obtain ⟨p, hp, e⟩ := ff_from hq ho
    have h4 := h2 p hp
    rw [e] at h4
    rcases h4 with h4 | h4
    · exfalso
      apply h3
      show (q.a / 8).toNat = 2 * b
      omega
    · exact h4
  have v1 : (fenM (fluM m1 ((2 * b : Nat) : Int))).vol = m1.vol := by rw [vol_fen, vol_flu]
  generalize fenM (fluM m1 ((2 * b : Nat) : Int)) = m2 at o1 f1 v1
  have a2 : lnB m2 ((2 * b + 1 : Nat) : Int) = true := lnB_yes (ok_true o1) (decide_eq_true (by rw [v1]; omega))
  rw [pers_all o1 a2 f1, o1.2.2.2.2.2, v1]
  have e : m1.vol = layW W b L := by
    refine List.ext_getElem? fun i => ?_
    rw [h1 i]
    by_cases h : 16 * b ≤ i ∧ i < 16 * b + 16
    · rw [if_pos h, layW_in hb hL h.1 h.2]
    · rw [if_neg h, layW_out hb hL (by omega)]
  rw [e]
  rfl
theorem lay_ch {n : Nat} {L : List Int} {b : Nat} (hW : n ≤ 4096) (h8 : n % 8 = 0) (hb : 16 * b + 16 ≤ n) (hL : L.length = 16) : chB (stoL b L ++ perL b) (n : Int) = true := by
  unfold chB
  have hw : woB (n : Int) = true := decide_eq_true (by omega)
  rw [hw, Bool.true_and, List.all_append, Bool.and_eq_true]
  constructor
  · rw [List.all_eq_true]
    intro x hx
    unfold stoL at hx
    obtain ⟨i, hi, rfl⟩ := List.mem_mapIdx.1 hx
    rw [miB_one rfl]
    exact decide_eq_true (by show 0 ≤ ((16 * b + i : Nat) : Int) ∧ ((16 * b + i : Nat) : Int) < (n : Int); omega)
  · unfold perL
    rw [List.all_cons, List.all_cons, List.all_nil, miB_two rfl, miB_two rfl]
    simp [peB]
    omega
theorem lay_ru {W L : List Int} {b : Nat} (hW : W.length ≤ 4096) (h8 : W.length % 8 = 0) (hb : 16 * b + 16 ≤ W.length) (hL : L.length = 16) : ruM (allM W) (stoL b L ++ perL b) = allM (layW W b L) ∧ ruE (allM W) (stoL b L ++ perL b) = 0 := by
  have h : mrB (allM W) (stoL b L ++ perL b) = true := by
    unfold mrB
    rw [ok_true (ok_allM hW h8)]
    exact lay_ch hW h8 hb hL
  rw [ruM_yes h, ruE_yes h, lay_run hW h8 hb hL]
  exact ⟨rfl, rfl⟩
theorem lay_ru2 {W L M : List Int} {a b : Nat} (hW : W.length ≤ 4096) (h8 : W.length % 8 = 0) (ha : 16 * a + 16 ≤ W.length) (hb : 16 * b + 16 ≤ W.length) (hL : L.length = 16) (hM : M.length = 16) :
    ruM (allM W) ((stoL a L ++ perL a) ++ (stoL b M ++ perL b)) = allM (layW (layW W a L) b M) ∧ ruE (allM W) ((stoL a L ++ perL a) ++ (stoL b M ++ perL b)) = 0 := by
  have l1 := layW_length (W := W) ha hL
  have h : mrB (allM W) ((stoL a L ++ perL a) ++ (stoL b M ++ perL b)) = true := by
    have h1 := lay_ch (n := W.length) hW h8 ha hL
    have h2 := lay_ch (n := W.length) hW h8 hb hM
    unfold mrB
    rw [ok_true (ok_allM hW h8), Bool.true_and]
    show chB _ ((W.length : Nat) : Int) = true
    unfold chB at *
    rw [Bool.and_eq_true] at *
    rw [List.all_append, h1.2, h2.2]
    exact ⟨h1.1, rfl⟩
  rw [ruM_yes h, ruE_yes h, runM_append, lay_run hW h8 ha hL, lay_run (by omega) (by omega) (by omega) hM]
  exact ⟨rfl, rfl⟩
end Go.Proofs.Ytmhojhpfkieioaa
