/- Set over from a lower layer: Numq. -/
import Derived.Test.YtgcdhenbpkcmgaaQuietb
import Derived.Test.YtgcdhenbpkcmgaaNNuma
namespace Go.Proofs.Ytgcdhenbpkcmgaa
end Go.Proofs.Ytgcdhenbpkcmgaa
namespace Go.Proofs.Ytgcdhenbpkcmgaa
end Go.Proofs.Ytgcdhenbpkcmgaa
namespace Go.Proofs.Ytgcdhenbpkcmgaa
/-- A small step: its kind, where, what. -/
structure Mi where
  k : Int
  a : Int
  v : Int
end Go.Proofs.Ytgcdhenbpkcmgaa
