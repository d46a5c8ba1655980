/- Set over from a lower layer: Quietb. -/
import Derived.Test.YtgcdhenbpkcmgaaBase
import Derived.Deep.QuietTactic
namespace Go.Proofs.Ytgcdhenbpkcmgaa
open Go.RowKit
/-- A world in which all that was there in W is as it was. -/
structure BW (W : World) where
  w : World
  b : Below W.heap.size W w
theorem bw_some (W : World) : Nonempty (BW W) := ⟨⟨W, Below.refl _ _⟩⟩
/-- The walk in the order of the text, as a thing of its own: nothing unfolds it unasked. -/
structure QW (P : Program) (ops : Array Oper) (W : World) (Q : Exit → Act → World → Prop) (rest : List Oper) (a : Act) : Prop where
  out : wpQuiet P ops (fun w' => ∃ p : BW W, w' = p.w) (fun a' => ∀ w', (∃ p : BW W, w' = p.w) → Q .normal a' w') rest a
theorem wp_region_bw {P : Program} {id : Nat} {Q : Exit → Act → World → Prop} {a : Act} {w : World} {l : List Oper} (hm : P.follows .mixedOrders = true) (hB : Region.lexB .any l.toArray = true)
    (h : Nonempty (BW w) → QW P l.toArray w Q l a) : (Code.region id l.toArray true).wp P Q a w :=
  wp_region_quiet (C := fun w' => ∃ p : BW w, w' = p.w) hm hB ⟨⟨w.drew, (Below.refl _ _).drew⟩, rfl⟩ (by simpa using (h (bw_some w)).out)
theorem QW.step {P : Program} {ops : Array Oper} {W : World} {Q : Exit → Act → World → Prop} {o : Oper} {rest : List Oper} {a : Act}
    (h : ∀ K : Act → Prop, (∀ a, QW P ops W Q rest a → K a) → if Region.wanted o (yielded ops a.tmps) then o.quiet P a (fun w' => ∃ p : BW W, w' = p.w) K else K (a.put o.dst undef)) : QW P ops W Q (o :: rest) a :=
  ⟨wpQuiet_step fun K hK => h K (fun a h => hK a h.out)⟩
theorem QW.nil {P : Program} {ops : Array Oper} {W : World} {Q : Exit → Act → World → Prop} {a : Act} (h : ∀ p : BW W, Q .normal a p.w) : QW P ops W Q [] a :=
  ⟨wpQuiet_nil fun _ ⟨p, hp⟩ => hp ▸ h p⟩
theorem Calls.bw_of {P : Program} {f : FuncId} {args : Array Value} {W : World} {p : BW W} {v : Value}
    (h : Calls P f args p.w fun e w' => e = .returned v ∧ Below p.w.heap.size p.w w') : Calls P f args p.w fun e w'' => e = .returned v ∧ ∃ p' : BW W, w'' = p'.w :=
  h.mono fun _ _ ⟨he, hb⟩ => ⟨he, ⟨_, bstep p.b hb⟩, rfl⟩
theorem Calls.bw_same {P : Program} {f : FuncId} {args : Array Value} {W : World} {p : BW W} {v : Value}
    (h : Calls P f args p.w fun e w' => e = .returned v ∧ w' = p.w) : Calls P f args p.w fun e w'' => e = .returned v ∧ ∃ p' : BW W, w'' = p'.w :=
  h.mono fun _ _ ⟨he, hb⟩ => ⟨he, p, hb⟩
/-- The load of a long array, in a region of this kind. -/
theorem QW.load {P : Program} {ops : Array Oper} {W : World} {Q : Exit → Act → World → Prop} {rest : List Oper} {o : Oper} {a : Act} (ty : TypeId) (x : Operand) (ho : o.op = .load ty x) (hw : Region.wanted o (yielded ops a.tmps) = true)
    (b off : Nat) (hx : a.eval x = .pointer (some ⟨b, off, none⟩)) (cs : List Value) (d : TypeDesc) (hS : ∀ p : BW W, p.w.rangeAt b off cs)
    (hu : P.underlying ty = some d) (hd : d.isRow = true) (hi : (P.info? ty).map (·.size) = some cs.length)
    (h : QW P ops W Q rest (a.put o.dst (.agg cs.toArray))) : QW P ops W Q (o :: rest) a := by
  refine ⟨?_⟩
  unfold wpQuiet
  rw [if_pos hw]
  refine ⟨_, ?_, h.out⟩
  rintro w ⟨p, rfl⟩
  unfold Oper.quietAt execOp
  simp only [ho, hx, Instr.loadAt, Instr.sureAddr, Sem.run_bind, Sem.run_pure, Result.andThen_ok, run_loadVar_mid p.w b off ty cs d (hS p) hu hd hi]
  exact ⟨rfl, rfl⟩
end Go.Proofs.Ytgcdhenbpkcmgaa
