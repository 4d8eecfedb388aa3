/-
  What (*strings.Builder).Grow of a new builder, WriteByte, and strings.Join with nothing between answer. The memory that was there stays.
-/
import Derived.Shelf.Strings.OnBuilder
import Derived.Test.YtaabfkffemnidaaDoorShelf
namespace Go.Proofs.YtaabfkffemnidaaDoor
open Go.RowKit Go.Shelf Gf
set_option maxRecDepth 100000
def renGw : Ren where
  f := fun n => if n = 165 then 36 else if n = 240 then 32 else if n = 241 then 46 else if n = 276 then 42 else if n = 277 then 55 else 0
  t := fun n => if n = 0 then 0 else if n = 3 then 3 else if n = 4 then 4 else if n = 5 then 5 else if n = 9 then 9 else if n = 20 then 20 else if n = 37 then 35 else if n = 70 then 44 else if n = 72 then 46 else if n = 164 then 89 else 0
  g := fun _ => 0
theorem laysGw : Lays.n165 Tryd.prog renGw where
  mixed := by kernel_rfl
  f165 := by kernel_rfl
  f240 := by kernel_rfl
  f241 := by kernel_rfl
  f276 := by kernel_rfl
  f277 := by kernel_rfl
  t0 := by kernel_rfl
  a0 := fun w => by exact Tryd.isAgg0 w
  z0 := fun w => by exact Tryd.sizeOf0 w
  v0 := fun w => by exact Tryd.zeroValue0 w
  t3 := by kernel_rfl
  a3 := fun w => by exact Tryd.isAgg3 w
  z3 := fun w => by exact Tryd.sizeOf3 w
  v3 := fun w => by exact Tryd.zeroValue3 w
  t4 := by kernel_rfl
  a4 := fun w => by exact Tryd.isAgg4 w
  z4 := fun w => by exact Tryd.sizeOf4 w
  v4 := fun w => by exact Tryd.zeroValue4 w
  t9 := by kernel_rfl
  a9 := fun w => by exact Tryd.isAgg9 w
  z9 := fun w => by exact Tryd.sizeOf9 w
  v9 := fun w => by exact Tryd.zeroValue9 w
  t20 := by kernel_rfl
  a20 := fun w => by exact Tryd.isAgg20 w
  z20 := fun w => by exact Tryd.sizeOf20 w
  v20 := fun w => by exact Tryd.zeroValue20 w
  t37 := by kernel_rfl
  a37 := fun w => by exact Tryd.isAgg35 w
  z37 := fun w => by exact Tryd.sizeOf35 w
  v37 := fun w => by exact Tryd.zeroValue35 w
  t70 := by kernel_rfl
  a70 := fun w => by exact Tryd.isAgg44 w
  z70 := fun w => by exact Tryd.sizeOf44 w
  v70 := fun w => by exact Tryd.zeroValue44 w
  t72 := by kernel_rfl
  a72 := fun w => by exact Tryd.isAgg46 w
  z72 := fun w => by exact Tryd.sizeOf46 w
  v72 := fun w => by exact Tryd.zeroValue46 w
  t164 := by kernel_rfl
  a164 := fun w => by exact Tryd.isAgg89 w
  z164 := fun w => by exact Tryd.sizeOf89 w
  v164 := fun w => by exact Tryd.zeroValue89 w
def renWb : Ren where
  f := fun n => if n = 167 then 37 else if n = 240 then 32 else if n = 276 then 42 else 0
  t := fun n => if n = 0 then 0 else if n = 4 then 4 else if n = 5 then 5 else if n = 9 then 9 else if n = 20 then 20 else if n = 37 then 35 else if n = 70 then 44 else if n = 72 then 46 else if n = 75 then 49 else if n = 80 then 52 else if n = 164 then 89 else 0
  g := fun _ => 0
theorem laysWb : Lays.n167 Tryd.prog renWb where
  mixed := by kernel_rfl
  f167 := by kernel_rfl
  f240 := by kernel_rfl
  f276 := by kernel_rfl
  t0 := by kernel_rfl
  a0 := fun w => by exact Tryd.isAgg0 w
  z0 := fun w => by exact Tryd.sizeOf0 w
  v0 := fun w => by exact Tryd.zeroValue0 w
  t4 := by kernel_rfl
  a4 := fun w => by exact Tryd.isAgg4 w
  z4 := fun w => by exact Tryd.sizeOf4 w
  v4 := fun w => by exact Tryd.zeroValue4 w
  t5 := by kernel_rfl
  a5 := fun w => by exact Tryd.isAgg5 w
  z5 := fun w => by exact Tryd.sizeOf5 w
  v5 := fun w => by exact Tryd.zeroValue5 w
  t9 := by kernel_rfl
  a9 := fun w => by exact Tryd.isAgg9 w
  z9 := fun w => by exact Tryd.sizeOf9 w
  v9 := fun w => by exact Tryd.zeroValue9 w
  t20 := by kernel_rfl
  a20 := fun w => by exact Tryd.isAgg20 w
  z20 := fun w => by exact Tryd.sizeOf20 w
  v20 := fun w => by exact Tryd.zeroValue20 w
  t37 := by kernel_rfl
  a37 := fun w => by exact Tryd.isAgg35 w
  z37 := fun w => by exact Tryd.sizeOf35 w
  v37 := fun w => by exact Tryd.zeroValue35 w
  t70 := by kernel_rfl
  a70 := fun w => by exact Tryd.isAgg44 w
  z70 := fun w => by exact Tryd.sizeOf44 w
  v70 := fun w => by exact Tryd.zeroValue44 w
  t72 := by kernel_rfl
  a72 := fun w => by exact Tryd.isAgg46 w
  z72 := fun w => by exact Tryd.sizeOf46 w
  v72 := fun w => by exact Tryd.zeroValue46 w
  t75 := by kernel_rfl
  a75 := fun w => by exact Tryd.isAgg49 w
  z75 := fun w => by exact Tryd.sizeOf49 w
  v75 := fun w => by exact Tryd.zeroValue49 w
  t164 := by kernel_rfl
  a164 := fun w => by exact Tryd.isAgg89 w
  z164 := fun w => by exact Tryd.sizeOf89 w
  v164 := fun w => by exact Tryd.zeroValue89 w
def renJo : Ren where
  f := fun n => if n = 156 then 23 else if n = 165 then 36 else if n = 166 then 15 else if n = 169 then 16 else if n = 240 then 32 else if n = 241 then 46 else if n = 276 then 42 else if n = 277 then 55 else 0
  t := fun n => if n = 0 then 0 else if n = 3 then 3 else if n = 4 then 4 else if n = 5 then 5 else if n = 9 then 9 else if n = 20 then 20 else if n = 31 then 34 else if n = 37 then 35 else if n = 70 then 44 else if n = 72 then 46 else if n = 75 then 49 else if n = 76 then 50 else if n = 80 then 52 else if n = 127 then 77 else if n = 164 then 89 else 0
  g := fun _ => 0
theorem laysJo : Lays.n156 Tryd.prog renJo where
  mixed := by kernel_rfl
  f156 := by kernel_rfl
  f165 := by kernel_rfl
  f166 := by kernel_rfl
  f169 := by kernel_rfl
  f240 := by kernel_rfl
  f241 := by kernel_rfl
  f276 := by kernel_rfl
  f277 := by kernel_rfl
  t0 := by kernel_rfl
  a0 := fun w => by exact Tryd.isAgg0 w
  z0 := fun w => by exact Tryd.sizeOf0 w
  v0 := fun w => by exact Tryd.zeroValue0 w
  t3 := by kernel_rfl
  a3 := fun w => by exact Tryd.isAgg3 w
  z3 := fun w => by exact Tryd.sizeOf3 w
  v3 := fun w => by exact Tryd.zeroValue3 w
  t4 := by kernel_rfl
  a4 := fun w => by exact Tryd.isAgg4 w
  z4 := fun w => by exact Tryd.sizeOf4 w
  v4 := fun w => by exact Tryd.zeroValue4 w
  t9 := by kernel_rfl
  a9 := fun w => by exact Tryd.isAgg9 w
  z9 := fun w => by exact Tryd.sizeOf9 w
  v9 := fun w => by exact Tryd.zeroValue9 w
  t20 := by kernel_rfl
  a20 := fun w => by exact Tryd.isAgg20 w
  z20 := fun w => by exact Tryd.sizeOf20 w
  v20 := fun w => by exact Tryd.zeroValue20 w
  t31 := by kernel_rfl
  a31 := fun w => by exact Tryd.isAgg34 w
  z31 := fun w => by exact Tryd.sizeOf34 w
  v31 := fun w => by exact Tryd.zeroValue34 w
  t37 := by kernel_rfl
  a37 := fun w => by exact Tryd.isAgg35 w
  z37 := fun w => by exact Tryd.sizeOf35 w
  v37 := fun w => by exact Tryd.zeroValue35 w
  t70 := by kernel_rfl
  a70 := fun w => by exact Tryd.isAgg44 w
  z70 := fun w => by exact Tryd.sizeOf44 w
  v70 := fun w => by exact Tryd.zeroValue44 w
  t72 := by kernel_rfl
  a72 := fun w => by exact Tryd.isAgg46 w
  z72 := fun w => by exact Tryd.sizeOf46 w
  v72 := fun w => by exact Tryd.zeroValue46 w
  t75 := by kernel_rfl
  a75 := fun w => by exact Tryd.isAgg49 w
  z75 := fun w => by exact Tryd.sizeOf49 w
  v75 := fun w => by exact Tryd.zeroValue49 w
  t76 := by kernel_rfl
  a76 := fun w => by exact Tryd.isAgg50 w
  z76 := fun w => by exact Tryd.sizeOf50 w
  v76 := fun w => by exact Tryd.zeroValue50 w
  t127 := by kernel_rfl
  a127 := fun w => by exact Tryd.isAgg77 w
  z127 := fun w => by exact Tryd.sizeOf77 w
  v127 := fun w => by exact Tryd.zeroValue77 w
  t164 := by kernel_rfl
  a164 := fun w => by exact Tryd.isAgg89 w
  z164 := fun w => by exact Tryd.sizeOf89 w
  v164 := fun w => by exact Tryd.zeroValue89 w
theorem extraGw : Builder.Extra Tryd.prog renGw where
  sizeBuilder := by kernel_rfl
  liesBuilder := by kernel_rfl
  t5 := by kernel_rfl
  a5 := fun w => by exact Tryd.isAgg5 w
  z5 := fun w => by exact Tryd.sizeOf5 w
  v5 := fun w => by exact Tryd.zeroValue5 w
  infoByte := by kernel_rfl
  cellsByte := by kernel_rfl
  sizeByte := by kernel_rfl
  neB5 := by decide
theorem extraWb : Builder.Extra Tryd.prog renWb where
  sizeBuilder := by kernel_rfl
  liesBuilder := by kernel_rfl
  t5 := by kernel_rfl
  a5 := fun w => by exact Tryd.isAgg5 w
  z5 := fun w => by exact Tryd.sizeOf5 w
  v5 := fun w => by exact Tryd.zeroValue5 w
  infoByte := by kernel_rfl
  cellsByte := by kernel_rfl
  sizeByte := by kernel_rfl
  neB5 := by decide
theorem extraJo : Builder.Extra Tryd.prog renJo where
  sizeBuilder := by kernel_rfl
  liesBuilder := by kernel_rfl
  t5 := by kernel_rfl
  a5 := fun w => by exact Tryd.isAgg5 w
  z5 := fun w => by exact Tryd.sizeOf5 w
  v5 := fun w => by exact Tryd.zeroValue5 w
  infoByte := by kernel_rfl
  cellsByte := by kernel_rfl
  sizeByte := by kernel_rfl
  neB5 := by decide
theorem bgrow_any (base b n : Nat) (w : World) (hB : base ≤ b) (hbk : w.heap[b]? = some (.cells #[.pointer none, .slice none 0 0] 46 (0, 0))) (hw : base ≤ w.heap.size) (hn : n ≤ 1000000) :
    Calls Tryd.prog 36 #[.pointer (some ⟨b, 0, none⟩), .int .i64 (n : Int)] w fun e w' => e = .returned (.tuple #[]) ∧ IsBd base b [] w' ∧ Below base w w' :=
  Calls.mono (Any.Builder_Grow_fresh laysGw extraGw base b n w hB hbk hw (by omega)) fun e w' ⟨he, hA, hb⟩ => ⟨he, .inr hA, hb⟩
theorem wbyte_any (base b : Nat) (l : List UInt8) (c : UInt8) (w : World) (h : IsBd base b l w) (hl : l.length ≤ 1000000000) (hb : base ≤ w.heap.size) :
    Calls Tryd.prog 37 #[.pointer (some ⟨b, 0, none⟩), .int .u8 (c.toNat : Int)] w fun e w' => e = .returned .nilIface ∧ IsBd base b (l ++ [c]) w' ∧ Below base w w' := by
  have h1 := Any.Builder_WriteByte laysWb extraWb base b (Lib.byteCells l) (c.toNat : Int) w h (by rw [show (Lib.byteCells l).length = l.length from List.length_map _]; omega) hb
  refine Calls.mono h1 fun e w' ⟨he, hA, hB⟩ => ⟨he, .inr ?_, hB⟩
  rw [byteCells_append]; exact hA
theorem joinTail_nil (r : List (List UInt8)) : Lib.joinTail [] r = r.flatten := by
  unfold Lib.joinTail
  congr 1
  rw [show ((fun x : List UInt8 => [] ++ x)) = id from rfl, List.map_id]
theorem join_flat (xs : List (List UInt8)) : Lib.join xs [] = xs.flatten := by
  cases xs with
  | nil => rfl
  | cons x r => rw [Lib.join_cons, joinTail_nil, List.flatten_cons]
theorem sjoin_any {a : Option Addr} {len cap : Nat} {L : List (List UInt8)} (w : World) (h : IsT w a len L) (hc : len ≤ cap) (hn : L.length ≤ 1000000) (hs : L.flatten.length ≤ 1000000000) :
    Calls Tryd.prog 23 #[.slice a len cap, .string ⟨#[]⟩] w fun e w' => e = .returned (.string (st L.flatten)) ∧ Keeps w w' := by
  obtain ⟨rfl, h2⟩ := h
  by_cases h0 : L = []
  · subst h0
    refine (Any.strings_Join_none laysJo extraJo a cap ⟨#[]⟩ w).mono ?_
    rintro e w' ⟨rfl, rfl⟩
    exact ⟨rfl, Keeps.refl _⟩
  · obtain ⟨b, off, rfl, hb, hcl⟩ := h2 (List.length_pos_iff.2 h0)
    have hm : (L.map st).map (fun s : ByteArray => s.data.toList) = L := by
      rw [List.map_map]
      exact (List.map_congr_left fun x _ => rfl).trans (List.map_id L)
    have hj : Lib.join ((L.map st).map (fun s : ByteArray => s.data.toList)) (⟨#[]⟩ : ByteArray).data.toList = L.flatten := by
      rw [hm]; exact join_flat L
    have hk := Any.strings_Join laysJo extraJo b off cap (L.map st) ⟨#[]⟩ w (fun j x hx => by
      rw [List.getElem?_map] at hx
      obtain ⟨y, hy, rfl⟩ := Option.map_eq_some_iff.1 hx
      have hj := (List.getElem?_eq_some_iff.1 hy).1
      have := hcl j hj
      rw [List.getD_eq_getElem?_getD, hy] at this
      exact this) hb (by rw [List.length_map]; omega) (by rw [List.length_map]; exact hc) (by rw [hj]; omega)
    rw [hj, List.length_map] at hk
    exact hk
end Go.Proofs.YtaabfkffemnidaaDoor
