/-
  The shelf's strings.Clone and strings.Builder, laid for this program. Of all values.
-/
import Derived.Shelf.Pu.Clone
import Derived.Shelf.Abstract
import Derived.Shelf.Strings.Builder1
import Derived.Test.YtlghkdkaifcliaaDoorBase
namespace Go.Proofs.YtlghkdkaifcliaaDoor
open Go.RowKit Go.Shelf Gf
set_option maxRecDepth 100000
def renC : Ren where
  f := fun n => if n = 25 then 58 else 0
  t := fun n => if n = 0 then 0 else if n = 3 then 3 else if n = 4 then 4 else if n = 5 then 5 else if n = 9 then 9 else if n = 37 then 74 else if n = 47 then 123 else 0
  g := fun _ => 0
theorem laysC : LaysPu.n25 Tryd.prog renC where
  mixed := by kernel_rfl
  f25 := by kernel_rfl
  t0 := by kernel_rfl
  a0 := fun w => by exact Tryd.isAgg0 w
  z0 := fun w => by exact Tryd.sizeOf0 w
  v0 := fun w => by exact Tryd.zeroValue0 w
  i0 := by kernel_rfl
  t3 := by kernel_rfl
  a3 := fun w => by exact Tryd.isAgg3 w
  z3 := fun w => by exact Tryd.sizeOf3 w
  v3 := fun w => by exact Tryd.zeroValue3 w
  i3 := by kernel_rfl
  t4 := by kernel_rfl
  a4 := fun w => by exact Tryd.isAgg4 w
  z4 := fun w => by exact Tryd.sizeOf4 w
  v4 := fun w => by exact Tryd.zeroValue4 w
  i4 := by kernel_rfl
  t5 := by kernel_rfl
  a5 := fun w => by exact Tryd.isAgg5 w
  z5 := fun w => by exact Tryd.sizeOf5 w
  v5 := fun w => by exact Tryd.zeroValue5 w
  i5 := by kernel_rfl
  t9 := by kernel_rfl
  a9 := fun w => by exact Tryd.isAgg9 w
  z9 := fun w => by exact Tryd.sizeOf9 w
  v9 := fun w => by exact Tryd.zeroValue9 w
  i9 := by kernel_rfl
  t37 := by kernel_rfl
  a37 := fun w => by exact Tryd.isAgg74 w
  z37 := fun w => by exact Tryd.sizeOf74 w
  v37 := fun w => by exact Tryd.zeroValue74 w
  i37 := by kernel_rfl
  t47 := by kernel_rfl
  a47 := fun w => by exact Tryd.isAgg123 w
  z47 := fun w => by exact Tryd.sizeOf123 w
  v47 := fun w => by exact Tryd.zeroValue123 w
  i47 := by kernel_rfl
theorem lclone_any (s : ByteArray) (w : World) (hlim : s.size ≤ 1000000000) :
    Calls Tryd.prog 58 #[.string s] w fun e w' => e = .returned (.string s) ∧ Below w.heap.size w w' := AnyPu.stringslite_Clone laysC s w (by omega)
set_option maxHeartbeats 400000 in
theorem clone_any (s : ByteArray) (w : World) (hlim : s.size ≤ 1000000000) :
    Calls Tryd.prog 45 #[.string s] w fun e w' => e = .returned (.string s) ∧ Below w.heap.size w w' := by
  go_enter Tryd.func45, Tryd.ntmps45
  go_wp2_with fail
  refine (lclone_any s w hlim).mono ?_
  rintro e w1 ⟨rfl, hb⟩
  go_wp2
  go_ret
  exact ⟨rfl, hb⟩
end Go.Proofs.YtlghkdkaifcliaaDoor
namespace Go.Proofs.YtlghkdkaifcliaaDoor
open Go.RowKit Go.Shelf Gf
set_option maxRecDepth 100000
def renBld : Ren where
  f := fun n => if n = 166 then 40 else if n = 169 then 41 else if n = 240 then 57 else if n = 276 then 62 else 0
  t := fun n => if n = 0 then 0 else if n = 3 then 3 else if n = 4 then 4 else if n = 5 then 5 else if n = 9 then 9 else if n = 20 then 20 else if n = 37 then 74 else if n = 70 then 96 else if n = 72 then 98 else if n = 75 then 100 else if n = 80 then 104 else if n = 127 then 123 else if n = 164 then 129 else 0
  g := fun _ => 0
theorem laysWs : Lays.n166 Tryd.prog renBld where
  mixed := by kernel_rfl
  f166 := by kernel_rfl
  f240 := by kernel_rfl
  f276 := by kernel_rfl
  t0 := by kernel_rfl
  a0 := fun w => by exact Tryd.isAgg0 w
  z0 := fun w => by exact Tryd.sizeOf0 w
  v0 := fun w => by exact Tryd.zeroValue0 w
  t3 := by kernel_rfl
  a3 := fun w => by exact Tryd.isAgg3 w
  z3 := fun w => by exact Tryd.sizeOf3 w
  v3 := fun w => by exact Tryd.zeroValue3 w
  t4 := by kernel_rfl
  a4 := fun w => by exact Tryd.isAgg4 w
  z4 := fun w => by exact Tryd.sizeOf4 w
  v4 := fun w => by exact Tryd.zeroValue4 w
  t9 := by kernel_rfl
  a9 := fun w => by exact Tryd.isAgg9 w
  z9 := fun w => by exact Tryd.sizeOf9 w
  v9 := fun w => by exact Tryd.zeroValue9 w
  t20 := by kernel_rfl
  a20 := fun w => by exact Tryd.isAgg20 w
  z20 := fun w => by exact Tryd.sizeOf20 w
  v20 := fun w => by exact Tryd.zeroValue20 w
  t37 := by kernel_rfl
  a37 := fun w => by exact Tryd.isAgg74 w
  z37 := fun w => by exact Tryd.sizeOf74 w
  v37 := fun w => by exact Tryd.zeroValue74 w
  t70 := by kernel_rfl
  a70 := fun w => by exact Tryd.isAgg96 w
  z70 := fun w => by exact Tryd.sizeOf96 w
  v70 := fun w => by exact Tryd.zeroValue96 w
  t72 := by kernel_rfl
  a72 := fun w => by exact Tryd.isAgg98 w
  z72 := fun w => by exact Tryd.sizeOf98 w
  v72 := fun w => by exact Tryd.zeroValue98 w
  t75 := by kernel_rfl
  a75 := fun w => by exact Tryd.isAgg100 w
  z75 := fun w => by exact Tryd.sizeOf100 w
  v75 := fun w => by exact Tryd.zeroValue100 w
  t164 := by kernel_rfl
  a164 := fun w => by exact Tryd.isAgg129 w
  z164 := fun w => by exact Tryd.sizeOf129 w
  v164 := fun w => by exact Tryd.zeroValue129 w
theorem laysSt : Lays.n169 Tryd.prog renBld where
  mixed := by kernel_rfl
  f169 := by kernel_rfl
  t0 := by kernel_rfl
  a0 := fun w => by exact Tryd.isAgg0 w
  z0 := fun w => by exact Tryd.sizeOf0 w
  v0 := fun w => by exact Tryd.zeroValue0 w
  t3 := by kernel_rfl
  a3 := fun w => by exact Tryd.isAgg3 w
  z3 := fun w => by exact Tryd.sizeOf3 w
  v3 := fun w => by exact Tryd.zeroValue3 w
  t9 := by kernel_rfl
  a9 := fun w => by exact Tryd.isAgg9 w
  z9 := fun w => by exact Tryd.sizeOf9 w
  v9 := fun w => by exact Tryd.zeroValue9 w
  t37 := by kernel_rfl
  a37 := fun w => by exact Tryd.isAgg74 w
  z37 := fun w => by exact Tryd.sizeOf74 w
  v37 := fun w => by exact Tryd.zeroValue74 w
  t70 := by kernel_rfl
  a70 := fun w => by exact Tryd.isAgg96 w
  z70 := fun w => by exact Tryd.sizeOf96 w
  v70 := fun w => by exact Tryd.zeroValue96 w
  t72 := by kernel_rfl
  a72 := fun w => by exact Tryd.isAgg98 w
  z72 := fun w => by exact Tryd.sizeOf98 w
  v72 := fun w => by exact Tryd.zeroValue98 w
  t127 := by kernel_rfl
  a127 := fun w => by exact Tryd.isAgg123 w
  z127 := fun w => by exact Tryd.sizeOf123 w
  v127 := fun w => by exact Tryd.zeroValue123 w
theorem extraBld : Builder.Extra Tryd.prog renBld where
  sizeBuilder := by kernel_rfl
  liesBuilder := by kernel_rfl
  t5 := by kernel_rfl
  a5 := fun w => by exact Tryd.isAgg5 w
  z5 := fun w => by exact Tryd.sizeOf5 w
  v5 := fun w => by exact Tryd.zeroValue5 w
  infoByte := by kernel_rfl
  cellsByte := by kernel_rfl
  sizeByte := by kernel_rfl
  neB5 := by decide
/-- Block b is a builder of the call's own (of what was made since block 'base') that holds the bytes l. -/
def IsBd (base b : Nat) (l : List UInt8) (w : World) : Prop := Lib.IsBuilder 98 5 base b (Lib.byteCells l) w
theorem byteCells_append (l r : List UInt8) : Lib.byteCells (l ++ r) = Lib.byteCells l ++ Lib.byteCells r := by unfold Lib.byteCells; rw [List.map_append]
theorem strCells_ls (s : ByteArray) : Lib.strCells s = Lib.byteCells (ls s) := by unfold Lib.strCells; rfl
theorem wstr_any (base b : Nat) (l : List UInt8) (s : ByteArray) (w : World) (h : IsBd base b l w) (hl : l.length + s.size ≤ 1000000000) (hb : base ≤ w.heap.size) :
    Calls Tryd.prog 40 #[.pointer (some ⟨b, 0, none⟩), .string s] w fun e w' => e = .returned (.tuple #[.int .i64 (s.size : Int), .nilIface]) ∧ IsBd base b (l ++ ls s) w' ∧ Below base w w' := by
  have h1 := Any.Builder_WriteString laysWs extraBld base b (Lib.byteCells l) s w h (by rw [show (Lib.byteCells l).length = l.length from List.length_map _]; omega) hb
  refine Calls.mono h1 fun e w' ⟨he, hA, hB⟩ => ⟨he, .inr ?_, hB⟩
  rw [byteCells_append, ← strCells_ls]; exact hA
theorem bstr_any (base b : Nat) (l : List UInt8) (w : World) (h : IsBd base b l w) (hb : base ≤ w.heap.size) :
    Calls Tryd.prog 41 #[.pointer (some ⟨b, 0, none⟩)] w fun e w' => e = .returned (.string (st l)) ∧ Below base w w' :=
  Any.Builder_String_any laysSt extraBld base b l w h hb
theorem infoBd : (Tryd.prog.info? 98).map (·.zero) = some (some (.agg #[.pointer none, .slice none 0 0])) := by kernel_rfl
/-- var b strings.Builder. -/
theorem IsBd.new (w : World) : IsBd w.heap.size w.heap.size [] (w.alloc (.cells #[.pointer none, .slice none 0 0] 98)) := by
  refine .inl ⟨Nat.le_refl _, .slice none 0 0, ?_, World.ownsRow_nil _ _ _ _, fun h => by cases h⟩
  exact Array.getElem?_push_size
theorem Keeps.on {w0 w w' : World} {b : Nat} (h : Keeps w0 w) (hb : w0.heap.size = b) (k : Below b w w') : Keeps w0 w' := by subst hb; exact Below.trans h k
theorem ownsRow_keeps {w w' : World} {base : Nat} {e : TypeId} {size : Nat} {v : Value} {n : Nat} {xs : List Value} (h : w.ownsRow base e size v n xs) (k : Keeps w w') : w'.ownsRow base e size v n xs := by
  obtain ⟨hl, h⟩ := h
  refine ⟨hl, ?_⟩
  rcases h with h | ⟨g, cap, cur, hv, hb, hh, h5⟩
  · exact .inl h
  · exact .inr ⟨g, cap, cur, hv, hb, (Below.block k g (Array.getElem?_eq_some_iff.1 hh).1).trans hh, h5⟩
theorem IsBd.keeps {base b : Nat} {l : List UInt8} {w w' : World} (h : IsBd base b l w) (k : Keeps w w') : IsBd base b l w' := by
  rcases h with ⟨hB, v, hb, ho, hn⟩ | ⟨hB, v, hb, ho, hn⟩
  · exact .inl ⟨hB, v, (Below.block k b (Array.getElem?_eq_some_iff.1 hb).1).trans hb, ownsRow_keeps ho k, hn⟩
  · exact .inr ⟨hB, v, (Below.block k b (Array.getElem?_eq_some_iff.1 hb).1).trans hb, ownsRow_keeps ho k, hn⟩
end Go.Proofs.YtlghkdkaifcliaaDoor
