/-
  The shelf's strings.Clone and strings.Builder, laid for this program. Of all values.
-/
import Derived.Shelf.Pu.Clone
import Derived.Shelf.Abstract
import Derived.Shelf.Strings.Builder1
import Derived.Test.YtebfihghfkcicaaBase
namespace Go.Proofs.Ytebfihghfkcicaa
open Go.RowKit Go.Shelf Gf
set_option maxRecDepth 100000
def renC : Ren where
  f := fun n => if n = 25 then 48 else 0
  t := fun n => if n = 0 then 0 else if n = 3 then 3 else if n = 4 then 4 else if n = 5 then 5 else if n = 9 then 9 else if n = 37 then 46 else if n = 47 then 125 else 0
  g := fun _ => 0
theorem laysC : LaysPu.n25 Try.prog renC where
  mixed := by kernel_rfl
  f25 := by kernel_rfl
  t0 := by kernel_rfl
  a0 := fun w => by exact Try.isAgg0 w
  z0 := fun w => by exact Try.sizeOf0 w
  v0 := fun w => by exact Try.zeroValue0 w
  i0 := by kernel_rfl
  t3 := by kernel_rfl
  a3 := fun w => by exact Try.isAgg3 w
  z3 := fun w => by exact Try.sizeOf3 w
  v3 := fun w => by exact Try.zeroValue3 w
  i3 := by kernel_rfl
  t4 := by kernel_rfl
  a4 := fun w => by exact Try.isAgg4 w
  z4 := fun w => by exact Try.sizeOf4 w
  v4 := fun w => by exact Try.zeroValue4 w
  i4 := by kernel_rfl
  t5 := by kernel_rfl
  a5 := fun w => by exact Try.isAgg5 w
  z5 := fun w => by exact Try.sizeOf5 w
  v5 := fun w => by exact Try.zeroValue5 w
  i5 := by kernel_rfl
  t9 := by kernel_rfl
  a9 := fun w => by exact Try.isAgg9 w
  z9 := fun w => by exact Try.sizeOf9 w
  v9 := fun w => by exact Try.zeroValue9 w
  i9 := by kernel_rfl
  t37 := by kernel_rfl
  a37 := fun w => by exact Try.isAgg46 w
  z37 := fun w => by exact Try.sizeOf46 w
  v37 := fun w => by exact Try.zeroValue46 w
  i37 := by kernel_rfl
  t47 := by kernel_rfl
  a47 := fun w => by exact Try.isAgg125 w
  z47 := fun w => by exact Try.sizeOf125 w
  v47 := fun w => by exact Try.zeroValue125 w
  i47 := by kernel_rfl
theorem lclone_any (s : ByteArray) (w : World) (hlim : s.size ≤ 1000000000) :
    Calls Try.prog 48 #[.string s] w fun e w' => e = .returned (.string s) ∧ Below w.heap.size w w' := AnyPu.stringslite_Clone laysC s w (by omega)
set_option maxHeartbeats 400000 in
theorem clone_any (s : ByteArray) (w : World) (hlim : s.size ≤ 1000000000) :
    Calls Try.prog 39 #[.string s] w fun e w' => e = .returned (.string s) ∧ Below w.heap.size w w' := by
  go_enter Try.func39, Try.ntmps39
  go_wp2_with fail
  refine (lclone_any s w hlim).mono ?_
  rintro e w1 ⟨rfl, hb⟩
  go_wp2
  go_ret
  exact ⟨rfl, hb⟩
end Go.Proofs.Ytebfihghfkcicaa
namespace Go.Proofs.Ytebfihghfkcicaa
open Go.RowKit Go.Shelf Gf
set_option maxRecDepth 100000
def renBld : Ren where
  f := fun n => if n = 166 then 76 else if n = 169 then 79 else if n = 240 then 85 else if n = 276 then 87 else 0
  t := fun n => if n = 0 then 0 else if n = 3 then 3 else if n = 4 then 4 else if n = 5 then 5 else if n = 9 then 9 else if n = 20 then 20 else if n = 37 then 46 else if n = 70 then 142 else if n = 72 then 144 else if n = 75 then 146 else if n = 80 then 93 else if n = 127 then 125 else if n = 164 then 156 else 0
  g := fun _ => 0
theorem laysWs : Lays.n166 Try.prog renBld where
  mixed := by kernel_rfl
  f166 := by kernel_rfl
  f240 := by kernel_rfl
  f276 := by kernel_rfl
  t0 := by kernel_rfl
  a0 := fun w => by exact Try.isAgg0 w
  z0 := fun w => by exact Try.sizeOf0 w
  v0 := fun w => by exact Try.zeroValue0 w
  t3 := by kernel_rfl
  a3 := fun w => by exact Try.isAgg3 w
  z3 := fun w => by exact Try.sizeOf3 w
  v3 := fun w => by exact Try.zeroValue3 w
  t4 := by kernel_rfl
  a4 := fun w => by exact Try.isAgg4 w
  z4 := fun w => by exact Try.sizeOf4 w
  v4 := fun w => by exact Try.zeroValue4 w
  t9 := by kernel_rfl
  a9 := fun w => by exact Try.isAgg9 w
  z9 := fun w => by exact Try.sizeOf9 w
  v9 := fun w => by exact Try.zeroValue9 w
  t20 := by kernel_rfl
  a20 := fun w => by exact Try.isAgg20 w
  z20 := fun w => by exact Try.sizeOf20 w
  v20 := fun w => by exact Try.zeroValue20 w
  t37 := by kernel_rfl
  a37 := fun w => by exact Try.isAgg46 w
  z37 := fun w => by exact Try.sizeOf46 w
  v37 := fun w => by exact Try.zeroValue46 w
  t70 := by kernel_rfl
  a70 := fun w => by exact Try.isAgg142 w
  z70 := fun w => by exact Try.sizeOf142 w
  v70 := fun w => by exact Try.zeroValue142 w
  t72 := by kernel_rfl
  a72 := fun w => by exact Try.isAgg144 w
  z72 := fun w => by exact Try.sizeOf144 w
  v72 := fun w => by exact Try.zeroValue144 w
  t75 := by kernel_rfl
  a75 := fun w => by exact Try.isAgg146 w
  z75 := fun w => by exact Try.sizeOf146 w
  v75 := fun w => by exact Try.zeroValue146 w
  t164 := by kernel_rfl
  a164 := fun w => by exact Try.isAgg156 w
  z164 := fun w => by exact Try.sizeOf156 w
  v164 := fun w => by exact Try.zeroValue156 w
theorem laysSt : Lays.n169 Try.prog renBld where
  mixed := by kernel_rfl
  f169 := by kernel_rfl
  t0 := by kernel_rfl
  a0 := fun w => by exact Try.isAgg0 w
  z0 := fun w => by exact Try.sizeOf0 w
  v0 := fun w => by exact Try.zeroValue0 w
  t3 := by kernel_rfl
  a3 := fun w => by exact Try.isAgg3 w
  z3 := fun w => by exact Try.sizeOf3 w
  v3 := fun w => by exact Try.zeroValue3 w
  t9 := by kernel_rfl
  a9 := fun w => by exact Try.isAgg9 w
  z9 := fun w => by exact Try.sizeOf9 w
  v9 := fun w => by exact Try.zeroValue9 w
  t37 := by kernel_rfl
  a37 := fun w => by exact Try.isAgg46 w
  z37 := fun w => by exact Try.sizeOf46 w
  v37 := fun w => by exact Try.zeroValue46 w
  t70 := by kernel_rfl
  a70 := fun w => by exact Try.isAgg142 w
  z70 := fun w => by exact Try.sizeOf142 w
  v70 := fun w => by exact Try.zeroValue142 w
  t72 := by kernel_rfl
  a72 := fun w => by exact Try.isAgg144 w
  z72 := fun w => by exact Try.sizeOf144 w
  v72 := fun w => by exact Try.zeroValue144 w
  t127 := by kernel_rfl
  a127 := fun w => by exact Try.isAgg125 w
  z127 := fun w => by exact Try.sizeOf125 w
  v127 := fun w => by exact Try.zeroValue125 w
theorem extraBld : Builder.Extra Try.prog renBld where
  sizeBuilder := by kernel_rfl
  liesBuilder := by kernel_rfl
  t5 := by kernel_rfl
  a5 := fun w => by exact Try.isAgg5 w
  z5 := fun w => by exact Try.sizeOf5 w
  v5 := fun w => by exact Try.zeroValue5 w
  infoByte := by kernel_rfl
  cellsByte := by kernel_rfl
  sizeByte := by kernel_rfl
  neB5 := by decide
/-- Block b is a builder of the call's own (of what was made since block 'base') that holds the bytes l. -/
def IsBd (base b : Nat) (l : List UInt8) (w : World) : Prop := Lib.IsBuilder 144 5 base b (Lib.byteCells l) w
theorem byteCells_append (l r : List UInt8) : Lib.byteCells (l ++ r) = Lib.byteCells l ++ Lib.byteCells r := by unfold Lib.byteCells; rw [List.map_append]
theorem strCells_ls (s : ByteArray) : Lib.strCells s = Lib.byteCells (ls s) := by unfold Lib.strCells; rfl
theorem wstr_any (base b : Nat) (l : List UInt8) (s : ByteArray) (w : World) (h : IsBd base b l w) (hl : l.length + s.size ≤ 1000000000) (hb : base ≤ w.heap.size) :
    Calls Try.prog 76 #[.pointer (some ⟨b, 0, none⟩), .string s] w fun e w' => e = .returned (.tuple #[.int .i64 (s.size : Int), .nilIface]) ∧ IsBd base b (l ++ ls s) w' ∧ Below base w w' := by
  have h1 := Any.Builder_WriteString laysWs extraBld base b (Lib.byteCells l) s w h (by rw [show (Lib.byteCells l).length = l.length from List.length_map _]; omega) hb
  refine Calls.mono h1 fun e w' ⟨he, hA, hB⟩ => ⟨he, .inr ?_, hB⟩
  rw [byteCells_append, ← strCells_ls]; exact hA
theorem bstr_any (base b : Nat) (l : List UInt8) (w : World) (h : IsBd base b l w) (hb : base ≤ w.heap.size) :
    Calls Try.prog 79 #[.pointer (some ⟨b, 0, none⟩)] w fun e w' => e = .returned (.string (st l)) ∧ Below base w w' :=
  Any.Builder_String_any laysSt extraBld base b l w h hb
theorem infoBd : (Try.prog.info? 144).map (·.zero) = some (some (.agg #[.pointer none, .slice none 0 0])) := by kernel_rfl
/-- var b strings.Builder. -/
theorem IsBd.new (w : World) : IsBd w.heap.size w.heap.size [] (w.alloc (.cells #[.pointer none, .slice none 0 0] 144)) := by
  refine .inl ⟨Nat.le_refl _, .slice none 0 0, ?_, World.ownsRow_nil _ _ _ _, fun h => by cases h⟩
  exact Array.getElem?_push_size
theorem Keeps.on {w0 w w' : World} {b : Nat} (h : Keeps w0 w) (hb : w0.heap.size = b) (k : Below b w w') : Keeps w0 w' := by subst hb; exact Below.trans h k
theorem ownsRow_keeps {w w' : World} {base : Nat} {e : TypeId} {size : Nat} {v : Value} {n : Nat} {xs : List Value} (h : w.ownsRow base e size v n xs) (k : Keeps w w') : w'.ownsRow base e size v n xs := by
  obtain ⟨hl, h⟩ := h
  refine ⟨hl, ?_⟩
  rcases h with h | ⟨g, cap, cur, hv, hb, hh, h5⟩
  · exact .inl h
  · exact .inr ⟨g, cap, cur, hv, hb, (Below.block k g (Array.getElem?_eq_some_iff.1 hh).1).trans hh, h5⟩
theorem IsBd.keeps {base b : Nat} {l : List UInt8} {w w' : World} (h : IsBd base b l w) (k : Keeps w w') : IsBd base b l w' := by
  rcases h with ⟨hB, v, hb, ho, hn⟩ | ⟨hB, v, hb, ho, hn⟩
  · exact .inl ⟨hB, v, (Below.block k b (Array.getElem?_eq_some_iff.1 hb).1).trans hb, ownsRow_keeps ho k, hn⟩
  · exact .inr ⟨hB, v, (Below.block k b (Array.getElem?_eq_some_iff.1 hb).1).trans hb, ownsRow_keeps ho k, hn⟩
end Go.Proofs.Ytebfihghfkcicaa
