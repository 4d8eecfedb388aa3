/-
  What strings.Clone answers: the same bytes; the memory that was there stays. For texts of up to a billion bytes.
-/
import Derived.Shelf.Pu.Clone
import Derived.Shelf.Abstract
import Derived.Test.YtofnokikjfmfgaaBas
namespace Go.Proofs.Ytofnokikjfmfgaa
open Go.RowKit Go.Shelf Gf
set_option maxRecDepth 100000
end Go.Proofs.Ytofnokikjfmfgaa
