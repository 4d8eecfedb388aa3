/-
  What the laws of layer 5 share: the chapter's examples.
-/
import Derived.Test.YtofnokikjfmfgaaCrcRef
import Derived.Test.YtofnokikjfmfgaaArgs
import Derived.Test.YtofnokikjfmfgaaDrawH
namespace Go.Proofs.Ytofnokikjfmfgaa
open Go.RowKit Gf Crc
set_option maxRecDepth 100000
theorem ex_sum : ru (mo ones [[49, 50, 51, 52], [53, 54, 55, 56, 57]].flatten) = 58124007 := by kernel_rfl
theorem ex_abc : opn (ls { data := #[97, 98, 99] }) = ([], 10) := by kernel_rfl
theorem cf_take_lt (l : List UInt8) (n i : Nat) (h : i < n) : cf (l.take n) i = cf l i := by
  unfold cf; rw [List.getD_eq_getElem?_getD, List.getD_eq_getElem?_getD, List.getElem?_take_of_lt h]
theorem cf_drop (l : List UInt8) (n i : Nat) : cf (l.drop n) i = cf l (n + i) := by
  unfold cf; rw [List.getD_eq_getElem?_getD, List.getD_eq_getElem?_getD, List.getElem?_drop]
/-- Two texts of one register that are unlike in four bytes in a row at the most are the same. -/
theorem mo_near (r : Reg) (a b : List UInt8) (hl : a.length = b.length) (f : Nat) (h : ∀ i, i < a.length → cf a i ≠ cf b i → f ≤ i ∧ i < f + 4) (he : mo r a = mo r b) : a = b := by
  have h1 : a.take f = b.take f := list_ext_cf (by rw [List.length_take, List.length_take, hl]) (fun i hi => by
    rw [List.length_take] at hi
    rw [cf_take_lt _ _ _ (by omega), cf_take_lt _ _ _ (by omega)]
    refine Decidable.byContradiction fun hn => ?_
    have := h i (by omega) hn
    omega)
  have h2 : a.drop (f + 4) = b.drop (f + 4) := list_ext_cf (by rw [List.length_drop, List.length_drop, hl]) (fun i hi => by
    rw [List.length_drop] at hi
    rw [cf_drop, cf_drop]
    refine Decidable.byContradiction fun hn => ?_
    have := h (f + 4 + i) (by omega) hn
    omega)
  have ea : a = a.take f ++ (a.drop f).take 4 ++ a.drop (f + 4) := by
    rw [List.append_assoc, ← List.drop_drop, List.take_append_drop, List.take_append_drop]
  have eb : b = b.take f ++ (b.drop f).take 4 ++ b.drop (f + 4) := by
    rw [List.append_assoc, ← List.drop_drop, List.take_append_drop, List.take_append_drop]
  rw [ea, eb, h1, h2] at he
  have := mo_same r (b.take f) ((a.drop f).take 4) ((b.drop f).take 4) (b.drop (f + 4)) (by simp [hl]) (by rw [List.length_take]; omega) he
  rw [ea, h1, h2, this, ← eb]
theorem mo_sld (l : List UInt8) : mo ones (sld l) = 0#32 := by unfold sld; rw [mo_append]; exact mo_four _
end Go.Proofs.Ytofnokikjfmfgaa
