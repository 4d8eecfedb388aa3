/-
  What package packet's calls answer: Check, Encode, Empty, Decode, Find, Cut, as PkA to PkD tell them, where the table of widths lies as the program's text lays it (Wd).
-/
import Derived.Test.YtikknojhoejciaaDoorPkB
import Derived.Test.YtikknojhoejciaaDoorPkC
import Derived.Test.YtikknojhoejciaaDoorPkD
namespace Go.Proofs.YtikknojhoejciaaDoor
open Pk
end Go.Proofs.YtikknojhoejciaaDoor
