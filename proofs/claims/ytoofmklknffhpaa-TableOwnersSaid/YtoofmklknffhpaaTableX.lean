/-
  The program's contracts, brought together. No condition.
-/
import Derived.Test.YtoofmklknffhpaaTablePG
import Derived.Test.YtoofmklknffhpaaTablePI
namespace Go.Proofs.Ytoofmklknffhpaa
end Go.Proofs.Ytoofmklknffhpaa
