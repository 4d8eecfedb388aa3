/-
  What strings.Repeat of the library answers. The memory that was there stays.
-/
import Derived.Shelf.Strings.Repeat
import Derived.Test.YtaabfkffemnidaaDoorBase
namespace Go.Proofs.YtaabfkffemnidaaDoor
open Go.RowKit Go.Shelf Gf
set_option maxRecDepth 100000
def renRep : Ren where
  f := fun n => if n = 99 then 50 else if n = 105 then 41 else if n = 165 then 36 else if n = 166 then 15 else if n = 169 then 16 else if n = 170 then 51 else if n = 206 then 59 else if n = 212 then 49 else if n = 240 then 32 else if n = 241 then 46 else if n = 263 then 57 else if n = 264 then 58 else if n = 276 then 42 else if n = 277 then 55 else 0
  t := fun n => if n = 0 then 0 else if n = 3 then 3 else if n = 4 then 4 else if n = 5 then 5 else if n = 9 then 9 else if n = 20 then 20 else if n = 37 then 35 else if n = 46 then 99 else if n = 51 then 92 else if n = 53 then 75 else if n = 70 then 44 else if n = 72 then 46 else if n = 75 then 49 else if n = 76 then 50 else if n = 80 then 52 else if n = 109 then 100 else if n = 127 then 77 else if n = 146 then 110 else if n = 148 then 112 else if n = 164 then 89 else 0
  g := fun _ => 0
theorem laysRep : Lays.n105 Tryd.prog renRep where
  mixed := by kernel_rfl
  f99 := by kernel_rfl
  f105 := by kernel_rfl
  f165 := by kernel_rfl
  f166 := by kernel_rfl
  f169 := by kernel_rfl
  f170 := by kernel_rfl
  f206 := by kernel_rfl
  f212 := by kernel_rfl
  f240 := by kernel_rfl
  f241 := by kernel_rfl
  f263 := by kernel_rfl
  f264 := by kernel_rfl
  f276 := by kernel_rfl
  f277 := by kernel_rfl
  t0 := by kernel_rfl
  a0 := fun w => by exact Tryd.isAgg0 w
  z0 := fun w => by exact Tryd.sizeOf0 w
  v0 := fun w => by exact Tryd.zeroValue0 w
  t3 := by kernel_rfl
  a3 := fun w => by exact Tryd.isAgg3 w
  z3 := fun w => by exact Tryd.sizeOf3 w
  v3 := fun w => by exact Tryd.zeroValue3 w
  t4 := by kernel_rfl
  a4 := fun w => by exact Tryd.isAgg4 w
  z4 := fun w => by exact Tryd.sizeOf4 w
  v4 := fun w => by exact Tryd.zeroValue4 w
  t5 := by kernel_rfl
  a5 := fun w => by exact Tryd.isAgg5 w
  z5 := fun w => by exact Tryd.sizeOf5 w
  v5 := fun w => by exact Tryd.zeroValue5 w
  t9 := by kernel_rfl
  a9 := fun w => by exact Tryd.isAgg9 w
  z9 := fun w => by exact Tryd.sizeOf9 w
  v9 := fun w => by exact Tryd.zeroValue9 w
  t20 := by kernel_rfl
  a20 := fun w => by exact Tryd.isAgg20 w
  z20 := fun w => by exact Tryd.sizeOf20 w
  v20 := fun w => by exact Tryd.zeroValue20 w
  t37 := by kernel_rfl
  a37 := fun w => by exact Tryd.isAgg35 w
  z37 := fun w => by exact Tryd.sizeOf35 w
  v37 := fun w => by exact Tryd.zeroValue35 w
  t46 := by kernel_rfl
  a46 := fun w => by exact Tryd.isAgg99 w
  z46 := fun w => by exact Tryd.sizeOf99 w
  v46 := fun w => by exact Tryd.zeroValue99 w
  t51 := by kernel_rfl
  a51 := fun w => by exact Tryd.isAgg92 w
  z51 := fun w => by exact Tryd.sizeOf92 w
  v51 := fun w => by exact Tryd.zeroValue92 w
  t53 := by kernel_rfl
  a53 := fun w => by exact Tryd.isAgg75 w
  z53 := fun w => by exact Tryd.sizeOf75 w
  v53 := fun w => by exact Tryd.zeroValue75 w
  t70 := by kernel_rfl
  a70 := fun w => by exact Tryd.isAgg44 w
  z70 := fun w => by exact Tryd.sizeOf44 w
  v70 := fun w => by exact Tryd.zeroValue44 w
  t72 := by kernel_rfl
  a72 := fun w => by exact Tryd.isAgg46 w
  z72 := fun w => by exact Tryd.sizeOf46 w
  v72 := fun w => by exact Tryd.zeroValue46 w
  t75 := by kernel_rfl
  a75 := fun w => by exact Tryd.isAgg49 w
  z75 := fun w => by exact Tryd.sizeOf49 w
  v75 := fun w => by exact Tryd.zeroValue49 w
  t76 := by kernel_rfl
  a76 := fun w => by exact Tryd.isAgg50 w
  z76 := fun w => by exact Tryd.sizeOf50 w
  v76 := fun w => by exact Tryd.zeroValue50 w
  t109 := by kernel_rfl
  a109 := fun w => by exact Tryd.isAgg100 w
  z109 := fun w => by exact Tryd.sizeOf100 w
  v109 := fun w => by exact Tryd.zeroValue100 w
  t127 := by kernel_rfl
  a127 := fun w => by exact Tryd.isAgg77 w
  z127 := fun w => by exact Tryd.sizeOf77 w
  v127 := fun w => by exact Tryd.zeroValue77 w
  t146 := by kernel_rfl
  a146 := fun w => by exact Tryd.isAgg110 w
  z146 := fun w => by exact Tryd.sizeOf110 w
  v146 := fun w => by exact Tryd.zeroValue110 w
  t148 := by kernel_rfl
  a148 := fun w => by exact Tryd.isAgg112 w
  z148 := fun w => by exact Tryd.sizeOf112 w
  v148 := fun w => by exact Tryd.zeroValue112 w
  t164 := by kernel_rfl
  a164 := fun w => by exact Tryd.isAgg89 w
  z164 := fun w => by exact Tryd.sizeOf89 w
  v164 := fun w => by exact Tryd.zeroValue89 w
theorem extraRep : Builder.Extra Tryd.prog renRep where
  sizeBuilder := by kernel_rfl
  liesBuilder := by kernel_rfl
  t5 := by kernel_rfl
  a5 := fun w => by exact Tryd.isAgg5 w
  z5 := fun w => by exact Tryd.sizeOf5 w
  v5 := fun w => by exact Tryd.zeroValue5 w
  infoByte := by kernel_rfl
  cellsByte := by kernel_rfl
  sizeByte := by kernel_rfl
  neB5 := by decide
theorem repeat_any (s : ByteArray) (c : Nat) (w : World) (hc : c ≤ 1000000000) (hs : s.size ≤ 1000) :
    Calls Tryd.prog 41 #[.string s, .int .i64 (c : Int)] w fun e w' => e = .returned (.string ⟨(Lib.repeatL s.data.toList c).toArray⟩) ∧ Below w.heap.size w w' :=
  Any.strings_Repeat laysRep extraRep s c w (by omega) (Nat.le_trans (Nat.mul_le_mul hs hc) (by omega))
/-- One byte, again and again. -/
theorem repeat_byte (x : UInt8) (c : Nat) : Lib.repeatL [x] c = List.replicate c x := by
  induction c with
  | zero => rfl
  | succ c ih => rw [List.replicate_succ, ← ih]; rfl
theorem repeat1 (x : UInt8) (c : Nat) (w : World) (hc : c ≤ 1000000) :
    Calls Tryd.prog 41 #[.string ⟨#[x]⟩, .int .i64 (c : Int)] w fun e w' => e = .returned (.string (st (List.replicate c x))) ∧ Below w.heap.size w w' := by
  have h := repeat_any ⟨#[x]⟩ c w (by omega) (by show 1 ≤ 1000; decide)
  rw [show (⟨#[x]⟩ : ByteArray).data.toList = [x] from rfl, repeat_byte] at h
  exact h
end Go.Proofs.YtaabfkffemnidaaDoor
