/-
  Dot of two texts, by the program and by the document; a row of bytes that came in; sums and products of an empty row.
-/
import Derived.Test.YtbckkjamcdpfdaaGfI
import Derived.ChangeSlices
namespace Go.Proofs.Ytbckkjamcdpfdaa
open Go.RowKit Gf Go.WideShapes Go.ChangeShapes

def at8 (s : ByteArray) (k : Nat) : Int := if h : k < s.size then (s[k].toNat : Int) else 0
theorem at8_byte (s : ByteArray) (k : Nat) : Byte (at8 s k) := by
  unfold at8
  split
  · have := (s[k]).toNat_lt; exact ⟨by omega, by omega⟩
  · exact ⟨by omega, by omega⟩
def dotN (a b : ByteArray) : Nat → Int
  | 0 => 0
  | k + 1 => xr (dotN a b k) (gm (at8 a k) (at8 b k))
theorem dotN_byte (a b : ByteArray) (k : Nat) : Byte (dotN a b k) := by
  cases k with
  | zero => exact ⟨by simp [dotN], by simp [dotN]⟩
  | succ k => exact Byte.xr (by induction k with
      | zero => exact ⟨by simp [dotN], by simp [dotN]⟩
      | succ k ih => exact Byte.xr ih (.gm _ _)) (.gm _ _)
def dRel (a b : ByteArray) (w : World) (s i : Value) (wr : World) : Prop := ∃ k : Nat, k ≤ a.size ∧ i = .int .i64 k ∧ s = .int .u8 (dotN a b k) ∧ Keeps w wr
theorem dRel_next {a b : ByteArray} {w wr : World} {k : Nat} (h : k < a.size) (hk : Keeps w wr) (x : Int) (hx : x = dotN a b (k + 1)) : dRel a b w (.int .u8 x) (.int .i64 ((k : Int) + 1)) wr :=
  ⟨k + 1, by omega, by go_num, by rw [hx], hk⟩
theorem dotN_bits (a b : ByteArray) (k : Nat) : bits BinOp.xor IntKind.u8 (dotN a b k) (gm (at8 a k) (at8 b k)) = dotN a b (k + 1) := by
  rw [xr_bits (dotN_byte a b k) (.gm _ _)]; rfl
set_option maxHeartbeats 800000 in
theorem dot_same (a b : ByteArray) (w : World) (h : a.size = b.size) (hs : a.size ≤ 1000000000) :
    Calls Try.prog 24 #[.string a, .string b] w fun e w' => e = .returned (.tuple #[.int .u8 (dotN a b a.size), .int .i64 0]) ∧ Keeps w w' := by
  have hb : (((a.size : Nat) : Int) != ((b.size : Nat) : Int)) = false := by simp [h]
  have HS := Lib.hid h
  clear h
  go_enter Try.func24, Try.ntmps24
  go_wp2
  go_loopw [6, 15] (fun s i wr => dRel a b w s i wr) (fun _ i _ => a.size - (intOf i).toNat)
  case atStart => exact ⟨0, by omega, rfl, rfl, Keeps.refl w⟩
  case round =>
    obtain ⟨k, hk, rfl, rfl, hkp⟩ := hrel
    by_cases hlt : k < a.size
    · have hlt2 : k < b.size := by have := HS.out; omega
      have HN := Lib.hid (dotN_bits a b k)
      have hd := dotN_byte a b k
      have HA := Lib.hid (show at8 a k = (a[k].toNat : Int) by unfold at8; rw [dif_pos hlt])
      have HB := Lib.hid (show at8 b k = (b[k].toNat : Int) by unfold at8; rw [dif_pos hlt2])
      have ha0 := at8_byte a k
      have hb0 := at8_byte b k
      rw [HA.out] at ha0 HN
      rw [HB.out] at hb0 HN
      generalize dotN a b k = s at *
      go_wp2
      go_quiet ((go_at_call 33; exact quiet_eq rfl (product_any _ _ _ ha0.1 ha0.2 hb0.1 hb0.2)))
      go_wp2
      go_roundw
      case rel => exact dRel_next hlt (hkp.trans (below_drewN (Below.refl _ _) _)) _ HN.out
      case measure => simp [intOf]; omega
    · obtain rfl : k = a.size := by omega
      generalize hg : dotN a b a.size = s at *
      have HG := Lib.hid hg
      clear hg
      go_wp2
      go_ret2
      rw [HG.out]
      exact ⟨rfl, hkp⟩
set_option maxHeartbeats 800000 in
theorem dot_other (a b : ByteArray) (w : World) (h : ¬ a.size = b.size) :
    Calls Try.prog 24 #[.string a, .string b] w fun e w' => e = .returned (.tuple #[.int .u8 0, .int .i64 1]) ∧ w = w' := by
  have hb : (((a.size : Nat) : Int) != ((b.size : Nat) : Int)) = true := by rw [bne_iff_ne]; omega
  go_enter Try.func24, Try.ntmps24
  go_wp2
  go_ret2
  exact ⟨rfl, rfl⟩
set_option maxHeartbeats 800000 in
theorem refdot_any (a b : ByteArray) (w : World) (h : a.size = b.size) (hs : a.size ≤ 1000000000) :
    Calls Try.prog 25 #[.string a, .string b] w fun e w' => e = .returned (.int .u8 (dotN a b a.size)) ∧ Keeps w w' := by
  have HS := Lib.hid h
  clear h
  go_enter Try.func25, Try.ntmps25
  go_wp2
  go_loopw [5, 6] (fun s i wr => dRel a b w s i wr) (fun _ i _ => a.size - (intOf i).toNat)
  case atStart => exact ⟨0, by omega, rfl, rfl, Keeps.refl w⟩
  case round =>
    obtain ⟨k, hk, rfl, rfl, hkp⟩ := hrel
    by_cases hlt : k < a.size
    · have hlt2 : k < b.size := by have := HS.out; omega
      have HN := Lib.hid (show xr (dotN a b k) (gm (at8 a k) (at8 b k)) = dotN a b (k + 1) from rfl)
      have hd := dotN_byte a b k
      have HA := Lib.hid (show at8 a k = (a[k].toNat : Int) by unfold at8; rw [dif_pos hlt])
      have HB := Lib.hid (show at8 b k = (b[k].toNat : Int) by unfold at8; rw [dif_pos hlt2])
      have ha0 := at8_byte a k
      have hb0 := at8_byte b k
      rw [HA.out] at ha0 HN
      rw [HB.out] at hb0 HN
      generalize dotN a b k = s at *
      go_wp2
      go_quiet ((first | (go_at_call 13; exact quiet_eq rfl (refmul_any _ _ _ ha0.1 ha0.2 hb0.1 hb0.2)) | (go_at_call 12; exact quiet_eq rfl (refadd_any _ _ _ hd.1 hd.2 (gm_bd _ _).1 (gm_bd _ _).2))))
      go_wp2
      go_roundw
      case rel => exact dRel_next hlt (hkp.trans (below_drewN (Below.refl _ _) _)) _ HN.out
      case measure => simp [intOf]; omega
    · obtain rfl : k = a.size := by omega
      generalize hg : dotN a b a.size = s at *
      have HG := Lib.hid hg
      clear hg
      go_wp2
      go_ret
      rw [HG.out]
      exact ⟨rfl, hkp⟩

/-- A slice of bytes that came in. -/
def IsRow (W : World) (a : Option Addr) (len : Nat) (l : List Int) : Prop :=
  l.length = len ∧ len ≤ maxLen ∧ (∀ x ∈ l, Byte x) ∧ (0 < len → ∃ b off, a = some ⟨b, off, none⟩ ∧ Row W b off l)
theorem open_row {H : Type} {enc : TypeId × Value → H} {W : World} {base : Nat} {held : Bool} {a : Option Addr} {len cap : Nat} {d : DataW H} {p : List MemPlace}
    (h : DataW.Trod enc Try.prog W base (fun _ => true) held 22 (.slice a len cap) d p) : ∃ l, IsRow W a len l := by
  obtain ⟨fuel, hf⟩ := h
  rcases open_ints Try.underlying22 Try.underlying5 (by kernel_rfl) hf with ⟨hcs, _⟩ | ⟨x, l, c, zs, hcs, _, hl, hm, hz, _, hcell, hwz⟩
  · simp [Value.cells] at hcs
    obtain ⟨rfl, rfl, rfl⟩ := hcs
    exact ⟨[], rfl, Nat.zero_le _, by simp, by omega⟩
  · simp [Value.cells] at hcs
    obtain ⟨rfl, rfl, rfl⟩ := hcs
    simp at hz
    refine ⟨zs.take len, by rw [List.length_take]; omega, by omega, fun y hy => bounds_u8 (hwz y (List.mem_of_mem_take hy)), fun h0 => ?_⟩
    obtain ⟨b, off, rfl, hc⟩ := ints_at hcell (by omega)
    refine ⟨b, off, rfl, fun i hi => ?_⟩
    rw [List.length_take] at hi
    rw [hc i (by omega)]
    simp only [List.getD_eq_getElem?_getD]
    rw [List.getElem?_take_of_lt (by omega)]
set_option maxHeartbeats 400000 in
theorem add_empty (a : Option Addr) (cap : Nat) (w : World) : Calls Try.prog 14 #[.slice a 0 cap] w fun e w' => e = .returned (.int .u8 0) ∧ w = w' := by
  go_enter Try.func14, Try.ntmps14
  go_wp2
  go_loop [3, 8] (fun s i => s = .int .u8 0 ∧ i = .int .i64 0) (fun _ _ => 0)
  case atStart => exact ⟨rfl, rfl⟩
  case round =>
    obtain ⟨rfl, rfl⟩ := hrel
    go_wp2
    go_ret
    exact ⟨rfl, rfl⟩
set_option maxHeartbeats 400000 in
theorem mul_empty (a : Option Addr) (cap : Nat) (w : World) : Calls Try.prog 15 #[.slice a 0 cap] w fun e w' => e = .returned (.int .u8 1) ∧ w = w' := by
  go_enter Try.func15, Try.ntmps15
  go_wp2
  go_loop [3, 8] (fun s i => s = .int .u8 1 ∧ i = .int .i64 0) (fun _ _ => 0)
  case atStart => exact ⟨rfl, rfl⟩
  case round =>
    obtain ⟨rfl, rfl⟩ := hrel
    go_wp2
    go_ret
    exact ⟨rfl, rfl⟩
end Go.Proofs.Ytbckkjamcdpfdaa
