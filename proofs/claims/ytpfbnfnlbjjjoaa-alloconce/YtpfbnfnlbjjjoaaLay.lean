/- Layer 10: the library's contract for slices.Insert, laid over this program. -/
import Derived.Test.YtpfbnfnlbjjjoaaChecked
import Derived.Shelf.Spec.SlicesInsert
import Derived.Shelf.Spec.SlicesInsertGrow
namespace Go.Proofs.Ytpfbnfnlbjjjoaa
open Go.Shelf

def insRen : Ren := ⟨fun | 21 => 22 | 27 => 25 | 28 => 26 | 35 => 28 | 39 => 29 | n => n, fun n => n, fun n => n⟩
theorem insLay : Lays2.n21 Try.prog insRen := {
  mixed := by kernel_rfl
  f21 := Try.func22.trans (congrArg some (by kernel_rfl))
  f27 := Try.func25.trans (congrArg some (by kernel_rfl))
  f28 := Try.func26.trans (congrArg some (by kernel_rfl))
  f35 := Try.func28.trans (congrArg some (by kernel_rfl))
  f39 := Try.func29.trans (congrArg some (by kernel_rfl))
  t0 := Try.underlying0
  a0 := Try.isAgg0
  z0 := Try.sizeOf0
  v0 := Try.zeroValue0
  t3 := Try.underlying3
  a3 := Try.isAgg3
  z3 := Try.sizeOf3
  v3 := Try.zeroValue3
  t4 := Try.underlying4
  a4 := Try.isAgg4
  z4 := Try.sizeOf4
  v4 := Try.zeroValue4
  t22 := Try.underlying22
  a22 := Try.isAgg22
  z22 := Try.sizeOf22
  v22 := Try.zeroValue22
  i3 := by kernel_rfl }
end Go.Proofs.Ytpfbnfnlbjjjoaa
