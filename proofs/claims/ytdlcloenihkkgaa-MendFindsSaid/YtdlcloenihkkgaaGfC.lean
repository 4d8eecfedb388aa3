/-
  What the functions of package gf answer, and those of the document's answer: for all bytes, all numbers, and all rows of bytes; the memory that was there stays.
-/
import Derived.Test.YtdlcloenihkkgaaGfB
namespace Go.Proofs.Ytdlcloenihkkgaa
open Go.RowKit Gf
set_option maxRecDepth 100000

/-- Nothing that was there in w0 has turned. -/
def Keeps (w0 w : World) : Prop := Below w0.heap.size w0 w
theorem Keeps.refl (w : World) : Keeps w w := Below.refl _ _
theorem Keeps.alloc {w0 w : World} (h : Keeps w0 w) (o : Obj) : Keeps w0 (w.alloc o) := Below.alloc h (Below.size h) o
theorem Keeps.trans {w0 w w' : World} (h : Keeps w0 w) (k : Below w.heap.size w w') : Keeps w0 w' := Below.trans h (k.mono (Below.size h))
def Byte (a : Int) : Prop := 0 ≤ a ∧ a ≤ 255
theorem Byte.num {a : Int} (h0 : 0 ≤ a) (h1 : a ≤ 255) : Byte a := ⟨h0, h1⟩
theorem Byte.gm (a b : Int) : Byte (gm a b) := gm_bd a b
theorem Byte.xr {a b : Int} (ha : Byte a) (hb : Byte b) : Byte (xr a b) := xr_bd ha.2 hb.2
theorem Byte.ge (n : Int) : Byte (ge n) := ⟨by have := ge_bd n; omega, (ge_bd n).2⟩
theorem Byte.gi (a : Int) : Byte (gi a) := gi_bd a

def xsum (l : List Int) : Int := l.foldl xr 0
def gprod (l : List Int) : Int := l.foldl gm 1
theorem take_next {l : List Int} {k : Nat} (h : k < l.length) : l.take (k + 1) = l.take k ++ [l.getD k 0] := by
  rw [List.take_succ_eq_append_getElem h, List.getD_eq_getElem?_getD, List.getElem?_eq_getElem h]; rfl
theorem xsum_next {l : List Int} {k : Nat} (h : k < l.length) : xsum (l.take (k + 1)) = xr (xsum (l.take k)) (l.getD k 0) := by
  rw [take_next h, xsum, List.foldl_append]; rfl
theorem gprod_next {l : List Int} {k : Nat} (h : k < l.length) : gprod (l.take (k + 1)) = gm (gprod (l.take k)) (l.getD k 0) := by
  rw [take_next h, gprod, List.foldl_append]; rfl
theorem fold_byte (f : Int → Int → Int) (hf : ∀ a b, Byte a → Byte b → Byte (f a b)) : ∀ (l : List Int) (s : Int), Byte s → (∀ x ∈ l, Byte x) → Byte (l.foldl f s)
  | [], _, hs, _ => hs
  | x :: l, s, hs, h => fold_byte f hf l (f s x) (hf s x hs (h x (by simp))) (fun y hy => h y (by simp [hy]))
theorem xsum_byte {l : List Int} (h : ∀ x ∈ l, Byte x) : Byte (xsum l) := fold_byte xr (fun _ _ ha hb => Byte.xr ha hb) l 0 ⟨by omega, by omega⟩ h
theorem gprod_byte {l : List Int} (h : ∀ x ∈ l, Byte x) : Byte (gprod l) := fold_byte gm (fun _ _ _ _ => Byte.gm _ _) l 1 ⟨by omega, by omega⟩ h
theorem getD_byte {l : List Int} (h : ∀ x ∈ l, Byte x) {k : Nat} (hk : k < l.length) : Byte (l.getD k 0) := by
  rw [List.getD_eq_getElem?_getD, List.getElem?_eq_getElem hk]; exact h _ (List.getElem_mem hk)
theorem xr_bits {a b : Int} (ha : Byte a) (hb : Byte b) : bits BinOp.xor IntKind.u8 a b = xr a b := u8_xor a b ha.1 (by have := ha.2; omega) hb.1 (by have := hb.2; omega)

/-- A row of bytes in memory. -/
def Row (w : World) (b off : Nat) (l : List Int) : Prop := ∀ i, i < l.length → w.cell? ⟨b, off + i, none⟩ = some (.int .u8 (l.getD i 0))
def sRel (f : List Int → Int) (l : List Int) (s i : Value) : Prop := ∃ k : Nat, k ≤ l.length ∧ i = .int .i64 k ∧ s = .int .u8 (f (l.take k))
set_option maxHeartbeats 800000 in
theorem add_row (b off len cap : Nat) (l : List Int) (w : World) (hl : len = l.length) (hm : l.length ≤ 1000000000) (hB : ∀ x ∈ l, Byte x) (hc : Row w b off l) :
    Calls Try.prog 56 #[.slice (some ⟨b, off, none⟩) len cap] w fun e w' => e = .returned (.int .u8 (xsum l)) ∧ w = w' := by
  subst hl
  have HB := Lib.hid hB
  have HC := Lib.hid hc
  clear hB hc
  go_enter Try.func56, Try.ntmps56
  go_wp2
  go_loop [3, 8] (fun s i => sRel xsum l s i) (fun _ i => l.length - (intOf i).toNat)
  case atStart => exact ⟨0, by omega, rfl, rfl⟩
  case round =>
    obtain ⟨k, hk, rfl, rfl⟩ := hrel
    by_cases hlt : k < l.length
    · have hcell := HC.out k hlt
      have b1 : Byte (xsum (l.take k)) := xsum_byte fun x hx => HB.out x (List.mem_of_mem_take hx)
      have b2 := getD_byte HB.out hlt
      have HN := Lib.hid (show bits BinOp.xor IntKind.u8 (xsum (l.take k)) (l.getD k 0) = xsum (l.take (k + 1)) by rw [xsum_next hlt, xr_bits b1 b2])
      generalize xsum (l.take k) = s at *
      generalize l.getD k 0 = y at *
      go_wp2
      go_round
      case rel => exact ⟨k + 1, by omega, by go_num, by rw [HN.out]⟩
      case measure => simp [intOf]; omega
    · have HE := Lib.hid (show l.take k = l from List.take_of_length_le (by omega))
      generalize hs : xsum (l.take k) = s at *
      have HS := Lib.hid hs
      clear hs
      go_wp2
      go_ret
      exact ⟨ret_int (by rw [← HS.out, HE.out]), rfl⟩
set_option maxHeartbeats 400000 in
theorem add_nil (w : World) : Calls Try.prog 56 #[.slice none 0 0] w fun e w' => e = .returned (.int .u8 (xsum [])) ∧ w = w' := by
  go_enter Try.func56, Try.ntmps56
  go_wp2
  go_loop [3, 8] (fun s i => s = .int .u8 0 ∧ i = .int .i64 0) (fun _ _ => 0)
  case atStart => exact ⟨rfl, rfl⟩
  case round =>
    obtain ⟨rfl, rfl⟩ := hrel
    go_wp2
    go_ret
    exact ⟨rfl, rfl⟩
end Go.Proofs.Ytdlcloenihkkgaa
