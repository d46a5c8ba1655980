/- Walks of layer 7: the document's own answers: three, Words. -/
import Derived.Test.YtmhojhpfkieioaaRecq
namespace Go.Proofs.Ytmhojhpfkieioaa
open Go.RowKit Go.Shelf Classical
set_option linter.unusedVariables false

/-- What is read is appended to a row of the call's own. -/
theorem append_own_rd {w : World} {ops : Array Oper} {rest : List Oper} {o : Oper} {a : Act} {Q : Exit → Act → World → Prop} (hgd : o.guard = none) (s x : Operand)
    (ho : o.op = .call { callee := .builtin .append, args := #[s, x], argTypes := #[24, 24] }) (base : Nat) (v : Value) (zs : List Int) (hs : a.eval s = v) (hown : OwnI w base v zs)
    (v2 : Value) (ys : List Int) (hx : a.eval x = v2) (hR : Rd w v2 ys) (hn : zs.length ≤ 1000) (hbase : base ≤ w.heap.size) (M : List Int) (hM : zs ++ ys = M)
    (h : ∀ a' c' w', OwnI w' base (.slice a' M.length c') M → Below base w w' → wpList Try.prog ops Q rest (a.put o.dst (.slice a' M.length c')) w') : wpList Try.prog ops Q (o :: rest) a w := by
  refine append_rdc hgd s x 24 ho base 3 1 (.int .i64 0) 8 Try.underlying24 Try.info3 rfl (by decide) (by decide) v zs.length (zs.map (Value.int .i64)) hs hown v2 ys.length (ys.map (Value.int .i64)) hx hR (ints_one ys) (by omega) hbase ?_
  intro v' w' o' g'
  have o2 : OwnI w' base v' M := by
    unfold OwnI
    rw [← hM, List.length_append, List.map_append]
    exact o'
  obtain ⟨a', c', rfl⟩ := o2.form
  exact h a' c' w' o2 ((Below.refl base w).grown g' hbase (fun k hk => (World.ownsRow.lt hown k hk).1))
theorem own_lit {W : World} {base b : Nat} (zs : List Int) (hb : b = W.heap.size) (h : base ≤ W.heap.size) (hl : zs.length ≤ 1000) : OwnI (W.alloc (.cells (zs.map (Value.int .i64)).toArray 3)) base (.slice (some ⟨b, 0, none⟩) zs.length zs.length) zs := by
  subst hb
  refine ⟨by simp, .inr ⟨W.heap.size, zs.length, (zs.map (Value.int .i64)).toArray, rfl, h, heap_alloc_new W _, Nat.le_refl _, ?_, ?_, ?_⟩⟩
  · unfold maxLen; omega
  · simp
  · rw [Nat.mul_one, List.take_of_length_le (by simp)]
theorem rd_lit {W : World} {b : Nat} (zs : List Int) (hb : b = W.heap.size) (hl : zs.length ≤ 1000) : Rd (W.alloc (.cells (zs.map (Value.int .i64)).toArray 3)) (.slice (some ⟨b, 0, none⟩) zs.length zs.length) zs := (own_lit zs hb (Nat.le_refl _) hl).rd hl
def slLen : Value → Nat
  | .slice _ n _ => n
  | _ => 0
theorem ownI_below {W W' : World} {base : Nat} {v : Value} {zs : List Int} (h : OwnI W base v zs) (hb : Below W.heap.size W W') : OwnI W' base v zs := own_below h hb
set_option maxRecDepth 100000 in
set_option maxHeartbeats 2000000 in
theorem three_any (s : ByteArray) (w : World) (hs : s.size ≤ 21) : Calls Try.prog 22 #[.string s] w fun e w' => ∃ a c, e = .returned (.slice a 3 c) ∧ OwnI w' w.heap.size (.slice a 3 c) (p3 (Ky.wsl s.data.toList)) ∧ Below w.heap.size w w' := by
  have hL := wsl_small s hs
  have HP : Hid (p3 (Ky.wsl s.data.toList) = Ky.wsl s.data.toList ++ List.replicate (3 - (Ky.wsl s.data.toList).length) 0) := rfl
  have k39 : Hid (∀ w, Calls Try.prog 39 #[.string s] w fun e w' => ∃ v, e = .returned v ∧ w'.ownsRow w.heap.size 3 1 v (Ky.nW s.size) ((Ky.wsl s.data.toList).map (Value.int .i64)) ∧ Below w.heap.size w w') := fun w => Ky.wordsR_own s w (by omega)
  have hl3 : (p3 (Ky.wsl s.data.toList)).length = 3 := p3_length hL
  generalize hT : p3 (Ky.wsl s.data.toList) = T at *
  generalize Ky.wsl s.data.toList = L at *
  have H0 : Hid (Below w.heap.size w (w.alloc (.cells #[] 3))) := (Below.refl _ _).alloc (Nat.le_refl _) _
  have O0 : Hid (OwnI (w.alloc (.cells #[] 3)) w.heap.size (.slice (some ⟨w.heap.size, 0, none⟩) 0 0) []) := own_none w (Nat.le_refl _)
  clear hT
  go_enter Try.func22, Try.ntmps22
  go_wp2_with (first
    | (go_at_call 39; refine (k39.out _).mono ?_; rintro e w1 ⟨v1, rfl, o1, b1⟩; have R1 : Hid (Rd w1 v1 L) := Rd.own o1 (by omega); have H1 : Hid (Below w.heap.size w w1) := bstep H0.out b1; have O1 : Hid (OwnI w1 w.heap.size (.slice (some ⟨w.heap.size, 0, none⟩) 0 0) []) := ownI_below O0.out b1; have s1 : w.heap.size ≤ w1.heap.size := H1.out.size; clear o1 b1)
    | (at_builtin; refine append_own_rd rfl (.tmp 4) (.tmp 6) rfl w.heap.size (.slice (some ⟨w.heap.size, 0, none⟩) 0 0) [] rfl O1.out v1 L rfl R1.out (by simp) s1 L rfl ?_; intro a2 c2 w2 o2 b2; have O2 : Hid (OwnI w2 w.heap.size (.slice a2 L.length c2) L) := o2; have H2 : Hid (Below w.heap.size w w2) := H1.out.trans b2; clear o2 b2))
  go_loopw [3] (fun o w1 => ∃ (j : Nat) (a : Option Addr) (c : Nat), L.length + j ≤ 3 ∧ o = .slice a (L.length + j) c ∧ OwnI w1 w.heap.size o (L ++ List.replicate j 0) ∧ Below w.heap.size w w1) (fun o _ => 3 - slLen o)
  case atStart => exact ⟨0, a2, c2, hL, rfl, by simpa using O2.out, H2.out⟩
  case round =>
    obtain ⟨j, a3, c3, hj, rfl, hO, hB⟩ := hrel
    have HO : Hid (OwnI wr w.heap.size (.slice a3 (L.length + j) c3) (L ++ List.replicate j 0)) := hO
    have HB : Hid (Below w.heap.size w wr) := hB
    have hsz : w.heap.size ≤ wr.heap.size := hB.size
    clear hO hB
    by_cases hlt : L.length + j < 3
    · have hI : (L.length : Int) + (j : Int) < 3 := by omega
      have HN : Hid (L ++ List.replicate j 0 ++ [0] = L ++ List.replicate (j + 1) 0) := show _ = _ by rw [List.append_assoc, List.replicate_succ']
      have HLn : Hid ((L ++ List.replicate (j + 1) (0 : Int)).length = L.length + (j + 1)) := show _ = _ by simp
      have O4 : Hid (OwnI (wr.alloc (.cells #[.int .i64 0] 3)) w.heap.size (.slice a3 (L.length + j) c3) (L ++ List.replicate j 0)) := ownI_below HO.out ((Below.refl _ _).alloc (Nat.le_refl _) _)
      have H4 : Hid (Below w.heap.size w (wr.alloc (.cells #[.int .i64 0] 3))) := HB.out.alloc hsz _
      go_wp2_with (first
        | (at_builtin; refine append_own_rd rfl (.tmp 11) (.tmp 12) rfl w.heap.size (.slice a3 (L.length + j) c3) (L ++ List.replicate j 0) rfl O4.out (.slice (some ⟨wr.heap.size, 0, none⟩) 1 1) [0] rfl (rd_one _ 0 rfl) (by simp; omega) H4.out.size (L ++ List.replicate (j + 1) 0) HN.out ?_; intro a5 c5 w5 o5 b5; rw [HLn.out] at o5 ⊢; have O5 : Hid (OwnI w5 w.heap.size (.slice a5 (L.length + (j + 1)) c5) (L ++ List.replicate (j + 1) 0)) := o5; have H5 : Hid (Below w.heap.size w w5) := H4.out.trans b5; clear o5 b5))
      go_roundw
      case rel => exact ⟨j + 1, a5, c5, by omega, rfl, O5.out, H5.out⟩
      case measure => simp [slLen]; omega
    · have hj3 : j = 3 - L.length := by omega
      have e3 : L.length + j = 3 := by omega
      rw [e3] at HO
      have HO' : Hid (OwnI wr w.heap.size (.slice a3 3 c3) T) := show OwnI _ _ _ _ by rw [HP.out, ← hj3]; exact HO.out
      rw [e3]
      go_wp2
      go_ret
      exact ⟨a3, c3, rfl, HO'.out, HB.out⟩
end Go.Proofs.Ytmhojhpfkieioaa
