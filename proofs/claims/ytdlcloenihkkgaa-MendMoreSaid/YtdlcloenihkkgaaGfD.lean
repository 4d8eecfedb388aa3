/-
  What the functions of package gf answer that ask a new field (Inv, Div, Exp, Log, Pow), for all bytes and numbers; and the document's Inv, Pow, Log.
-/
import Derived.Test.YtdlcloenihkkgaaGfC
namespace Go.Proofs.Ytdlcloenihkkgaa
open Go.RowKit Gf
set_option maxRecDepth 100000

/-- A byte that is not 0, n times by itself. -/
def gp (a n : Int) : Int := ge (gl a * (n % 255))
end Go.Proofs.Ytdlcloenihkkgaa
