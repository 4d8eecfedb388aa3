/-
  strings.Builder of the library: what it answers, and what stays above it, too. The memory that was there stays.
-/
import Derived.Shelf.Strings.BuilderK
import Derived.Test.YtlghkdkaifcliaaDoorShelf
import Derived.Test.YtlghkdkaifcliaaDoorPrLib
import Derived.Test.YtlghkdkaifcliaaDoorCell
namespace Go.Proofs.YtlghkdkaifcliaaDoor
open Go.RowKit Go.Shelf Gf
set_option maxRecDepth 100000
def IsBk (base b : Nat) (l : List UInt8) (w : World) : Prop := Lib.IsBuilderF 98 5 base b (Lib.byteCells l) w
theorem IsBk.new (w : World) : IsBk w.heap.size w.heap.size [] (w.alloc (.cells #[.pointer none, .slice none 0 0] 98)) := Lib.IsBuilderF.of (IsBd.new w)
theorem ownsRowF_keeps {w w' : World} {base : Nat} {e : TypeId} {size : Nat} {v : Value} {n : Nat} {xs : List Value} (h : w.ownsRowF base e size v n xs) (k : Keeps w w') : w'.ownsRowF base e size v n xs := by
  obtain ⟨hl, h⟩ := h
  refine ⟨hl, ?_⟩
  rcases h with h | ⟨g, cap, cur, fz, hv, hb, hh, h5⟩
  · exact .inl h
  · exact .inr ⟨g, cap, cur, fz, hv, hb, (Below.block k g (Array.getElem?_eq_some_iff.1 hh).1).trans hh, h5⟩
theorem IsBk.keeps {base b : Nat} {l : List UInt8} {w w' : World} (h : IsBk base b l w) (k : Keeps w w') : IsBk base b l w' := by
  rcases h with ⟨hB, v, hb, ho, hn⟩ | ⟨hB, v, hb, ho, hn⟩
  · exact .inl ⟨hB, v, (Below.block k b (Array.getElem?_eq_some_iff.1 hb).1).trans hb, ownsRowF_keeps ho k, hn⟩
  · exact .inr ⟨hB, v, (Below.block k b (Array.getElem?_eq_some_iff.1 hb).1).trans hb, ownsRowF_keeps ho k, hn⟩
theorem IsBk.old {base b : Nat} {l : List UInt8} {w : World} (h : IsBk base b l w) : b < w.heap.size := by
  rcases h with ⟨_, v, hb, _⟩ | ⟨_, v, hb, _⟩ <;> exact (Array.getElem?_eq_some_iff.1 hb).1
/-- What is no row of bytes, and not the builder, stays. -/
abbrev Oth (b : Nat) (w w' : World) : Prop := Lib.OthersKept 5 (some b) w w'
theorem wstrk_any (base b : Nat) (l : List UInt8) (s : ByteArray) (w : World) (h : IsBk base b l w) (hl : l.length + s.size ≤ 1000000000) (hb : base ≤ w.heap.size) :
    Calls Tryd.prog 40 #[.pointer (some ⟨b, 0, none⟩), .string s] w fun e w' => e = .returned (.tuple #[.int .i64 (s.size : Int), .nilIface]) ∧ IsBk base b (l ++ ls s) w' ∧ Below base w w' ∧ Oth b w w' := by
  have h1 := Any.Builder_WriteString_k laysWs extraBld base b (Lib.byteCells l) s w h (by rw [show (Lib.byteCells l).length = l.length from List.length_map _]; omega) hb
  refine Calls.mono h1 fun e w' ⟨he, hA, hB, hC⟩ => ⟨he, .inr ?_, hB, hC⟩
  rw [byteCells_append, ← strCells_ls]; exact hA
theorem wbytek_any (base b : Nat) (l : List UInt8) (c : UInt8) (w : World) (h : IsBk base b l w) (hl : l.length ≤ 1000000000) (hb : base ≤ w.heap.size) :
    Calls Tryd.prog 39 #[.pointer (some ⟨b, 0, none⟩), .int .u8 (c.toNat : Int)] w fun e w' => e = .returned .nilIface ∧ IsBk base b (l ++ [c]) w' ∧ Below base w w' ∧ Oth b w w' := by
  have h1 := Any.Builder_WriteByte_k laysWb extraWb base b (Lib.byteCells l) (c.toNat : Int) w h (by rw [show (Lib.byteCells l).length = l.length from List.length_map _]; omega) hb
  refine Calls.mono h1 fun e w' ⟨he, hA, hB, hC⟩ => ⟨he, .inr ?_, hB, hC⟩
  rw [byteCells_append]; exact hA
theorem bstrk_any (base b : Nat) (l : List UInt8) (w : World) (h : IsBk base b l w) (hb : base ≤ w.heap.size) :
    Calls Tryd.prog 41 #[.pointer (some ⟨b, 0, none⟩)] w fun e w' => e = .returned (.string (st l)) ∧ Below base w w' :=
  (Any.Builder_String_any_f laysSt extraBld base b l w h hb).mono fun _ _ ⟨he, _, k⟩ => ⟨he, k⟩
theorem Oth.box {b c : Nat} {w w' : World} {arr : Array Value} {T : TypeId} {fz : Nat × Nat} (h : Oth b w w') (hc : w.heap[c]? = some (.cells arr T fz)) (hT : T ≠ 5) (hn : c ≠ b) : w'.heap[c]? = some (.cells arr T fz) :=
  h c _ hc (fun e => hn (Option.some.inj e)) fun _ _ e => hT (by injection e)
theorem Oth.cs {b c : Nat} {w w' : World} {arr : Array Value} {T : TypeId} {fz : Nat × Nat} {cs : List Value} (h : Oth b w w') (hc : w.heap[c]? = some (.cells arr T fz)) (hT : T ≠ 5) (hn : c ≠ b) (k : CsAt c cs w) : CsAt c cs w' :=
  k.block ((h.box hc hT hn).trans hc.symm)
end Go.Proofs.YtlghkdkaifcliaaDoor
