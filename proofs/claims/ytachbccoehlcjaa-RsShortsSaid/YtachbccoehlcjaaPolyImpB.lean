/-
  What Clone and Trim answer: the same bytes, and those without the bytes 0 at the end; the memory that was there stays.
-/
import Derived.Shelf.Pu.Clone
import Derived.Test.YtachbccoehlcjaaPolyImpA
namespace Go.Proofs.Ytachbccoehlcjaa
open Go.RowKit Go.Shelf Gf
theorem trim_take (p : List UInt8) : p.take (trim p).length = trim p := by
  refine List.ext_getElem ?_ fun i h1 h2 => ?_
  · rw [List.length_take]; have := trim_le p; omega
  · rw [List.getElem_take]
    have h3 : i < p.length := by have := trim_le p; omega
    rw [← cf_lt h2, cf_trim, cf_lt h3]
theorem ls_cut (p : ByteArray) : p.extract 0 (trim (ls p)).length = st (trim (ls p)) := by
  have : ls (p.extract 0 (trim (ls p)).length) = trim (ls p) := by rw [ls_extract, trim_take]
  have h2 := congrArg st this
  rw [st_ls] at h2; exact h2
end Go.Proofs.Ytachbccoehlcjaa
