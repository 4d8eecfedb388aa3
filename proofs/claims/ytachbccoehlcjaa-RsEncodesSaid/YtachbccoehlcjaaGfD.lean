/-
  What the functions of package gf answer that ask a new field (Inv, Div, Exp, Log, Pow), for all bytes and numbers; and the document's Inv, Pow, Log.
-/
import Derived.Test.YtachbccoehlcjaaGfC
namespace Go.Proofs.Ytachbccoehlcjaa
open Go.RowKit Gf

/-- A byte that is not 0, n times by itself. -/
def gp (a n : Int) : Int := ge (gl a * (n % 255))
end Go.Proofs.Ytachbccoehlcjaa
