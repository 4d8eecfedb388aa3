/-
  The columns of layer 11's example, and how a column's part that is handed in is read. The memory that was there stays.
-/
import Derived.Test.YtdpgphidielajaaFeV
import Derived.DataReads
namespace Go.Proofs.Ytdpgphidielajaa
open Go.RowKit Gf Go.Deep Go.ChangeShapes Go.WideShapes Go.ChangeAt Tm Sct Mpe Fec
set_option maxRecDepth 100000
/-- A column of n bytes. -/
def col (b : UInt8) (n : Nat) : List UInt8 := (List.range n).map fun i => b + UInt8.ofNat (i % 11)
theorem col_length (b : UInt8) (n : Nat) : (col b n).length = n := by simp [col]
theorem col_get (b : UInt8) {n i : Nat} (h : i < n) : cf (col b n) i = b + UInt8.ofNat (i % 11) := by
  rw [cf_lt (by rw [col_length]; exact h)]
  simp [col]
theorem col_nat (b : UInt8) (i : Nat) : (((b.toNat : Int) + ((i % 11 : Nat) : Int)) % 256) = ((b + UInt8.ofNat (i % 11)).toNat : Int) := by
  rw [UInt8.toNat_add, UInt8.toNat_ofNat_of_lt' (show i % 11 < 256 by omega)]
  omega
def colRel (wA : World) (rb n : Nat) (b : UInt8) (i : Value) (wr : World) : Prop := ∃ (k : Nat) (l : List UInt8), k ≤ n ∧ i = .int .i64 (k : Int) ∧ l.length = n ∧ (∀ j, j < k → cf l j = cf (col b n) j) ∧ Blk rb l wr ∧ Only rb wA wr
set_option maxHeartbeats 1600000 in
theorem column_any (w0 : World) (n : Nat) (b : UInt8) (w : World) (hn : n ≤ 5000) (hk : Keeps w0 w) : Calls Try.prog 19 #[.int .i64 (n : Int), .int .u8 (b.toNat : Int)] w fun e w' => e = .returned (.string (st (col b n))) ∧ Keeps w0 w' := by
  have hmn : min (n : Int) 5000 = (n : Int) := by omega
  have hmx : max 0 (n : Int) = (n : Int) := by omega
  have hmk := make8 n (by omega) w
  have hR := Blk.make w n
  have hkA := hk.alloc (.cells (zr n) 5)
  have hb0 := Below.size hk
  go_enter Try.func19, Try.ntmps19
  go_wp2
  clear hmk hmn hmx
  obtain ⟨rb, hrb⟩ : ∃ rb, w.heap.size = rb := ⟨_, rfl⟩
  obtain ⟨wA, hwA⟩ : ∃ wA, w.alloc (.cells (zr n) 5) = wA := ⟨_, rfl⟩
  rw [hwA, hrb] at hR
  rw [hwA] at hkA
  rw [hwA, hrb]
  rw [hrb] at hb0
  have HK := Lib.hid hkA
  clear hwA hrb hkA hk
  go_loopw [6] (fun i wr => colRel wA rb n b i wr) (fun i _ => n - (intOf i).toNat)
  case atStart => exact ⟨0, z8 n, by omega, rfl, List.length_replicate, fun j hj => by omega, hR, Only.refl _ _⟩
  case round =>
    obtain ⟨k, l, hk, rfl, hl, hlx, hbk, ho⟩ := hrel
    clear hR
    by_cases hlt : k < n
    · have hcl := hbk.cell k (by omega)
      have hfr := hbk.free k (by omega)
      have hy := col_nat b k
      have HG := Lib.hid (col_get b hlt)
      obtain ⟨y, hyy⟩ : ∃ y, b + UInt8.ofNat (k % 11) = y := ⟨_, rfl⟩
      rw [hyy] at hy HG
      obtain ⟨r, hr⟩ : ∃ r, k % 11 = r := ⟨_, rfl⟩
      rw [hr] at hy
      have hr11 : r < 11 := by omega
      have e1 : (k : Int).tmod 11 = (r : Int) := by rw [Int.tmod_eq_emod_of_nonneg (by omega)]; omega
      have e2 : (k : Int) % 11 = (r : Int) := by omega
      have e3 : (r : Int) % 256 = (r : Int) := by omega
      have HBL := Lib.hid (hbk.set (k := k) (by omega) y)
      have HO := Lib.hid (ho.trans (Only.setCell wr ⟨rb, k, none⟩ (.int .u8 (y.toNat : Int))))
      have HL := Lib.hid hl
      have HLX := Lib.hid hlx
      clear hbk ho hyy hr hl hlx
      go_wp2
      go_roundw
      case rel =>
        refine ⟨k + 1, l.set k y, by omega, by go_num, by rw [List.length_set]; exact HL.out, fun j hj => ?_, HBL.out, HO.out⟩
        rw [cf_set _ _ _ (by rw [HL.out]; exact hlt)]
        by_cases e : j = k
        · subst e; rw [if_pos rfl, HG.out]
        · rw [if_neg e]; exact HLX.out j (by omega)
      case measure => simp [intOf]; omega
    · obtain rfl : k = n := by omega
      have hE : l = col b k := list_ext_cf (by rw [hl, col_length]) fun i hi => hlx i (by omega)
      have hcv := hbk.whole k (n := k) hl.symm
      rw [hE] at hcv
      have HO := Lib.hid ho
      clear hbk ho hlx hl hE
      go_wp2
      go_ret
      exact ⟨rfl, HO.out.keeps HK.out hb0⟩
theorem eight_ofF {α : Type} : ∀ {l : List α}, l.length = 8 → ∃ a b c d e f g h, l = [a, b, c, d, e, f, g, h]
  | [a, b, c, d, e, f, g, h], _ => ⟨a, b, c, d, e, f, g, h, rfl⟩
theorem tms_cellsF {H : Type} {enc : TypeId × Value → H} {W : World} {base fuel : Nat} {spare : Nat → Bool} {held : Bool} {cs : List Value} {d : DataW H} {p : List MemPlace}
    (hf : DataW.trod enc Try.prog W base spare held fuel 23 cs = some (d, p)) : ∃ s : Tms, cs = tmC s := by
  obtain ⟨xs, m, _, _, hl, hx, hi⟩ := DataW.trod_struct Try.underlying23 hf
  have c8 : Try.prog.cellsOf 23 = 4 := by kernel_rfl
  have ci : Try.prog.cellsOf 3 = 1 := by kernel_rfl
  have cb : Try.prog.cellsOf 4 = 1 := by kernel_rfl
  rw [c8] at hl
  obtain ⟨v0, v1, v2, v3, rfl⟩ := four_ofT hl
  obtain ⟨y0, y1, y2, y3, rfl⟩ := four_ofT (show xs.length = 4 from hx)
  have h0 := hi 0 _ rfl
  have h1 := hi 1 _ rfl
  have h2 := hi 2 _ rfl
  have h3 := hi 3 _ rfl
  simp [ci, cb] at h0 h1 h2 h3
  obtain ⟨x0, e0, _⟩ := DataW.trod_int Try.underlying3 h0
  obtain ⟨x1, e1, _⟩ := DataW.trod_bool Try.underlying4 h1
  obtain ⟨x2, e2, _⟩ := DataW.trod_bool Try.underlying4 h2
  obtain ⟨x3, e3, _⟩ := DataW.trod_int Try.underlying3 h3
  simp at e0 e1 e2 e3
  exact ⟨⟨x0, x1, x2, x3⟩, by rw [e0, e1, e2, e3]⟩
theorem fpt_cells {H : Type} {enc : TypeId × Value → H} {W : World} {base fuel : Nat} {spare : Nat → Bool} {held : Bool} {cs : List Value} {d : DataW H} {p : List MemPlace}
    (hf : DataW.trod enc Try.prog W base spare held fuel 25 cs = some (d, p)) : ∃ s : Fpt, cs = feC s := by
  obtain ⟨xs, m, _, _, hl, hx, hi⟩ := DataW.trod_struct Try.underlying25 hf
  have c8 : Try.prog.cellsOf 25 = 8 := by kernel_rfl
  have ci : Try.prog.cellsOf 3 = 1 := by kernel_rfl
  have ct : Try.prog.cellsOf 23 = 4 := by kernel_rfl
  have cst : Try.prog.cellsOf 9 = 1 := by kernel_rfl
  rw [c8] at hl
  obtain ⟨v0, v1, v2, v3, v4, v5, v6, v7, rfl⟩ := eight_ofF hl
  obtain ⟨y0, y1, y2, y3, y4, rfl⟩ : ∃ a b c d e, xs = [a, b, c, d, e] := by
    match xs, (show xs.length = 5 from hx) with
    | [a, b, c, d, e], _ => exact ⟨a, b, c, d, e, rfl⟩
  have h0 := hi 0 _ rfl
  have h1 := hi 1 _ rfl
  have h2 := hi 2 _ rfl
  have h3 := hi 3 _ rfl
  have h4 := hi 4 _ rfl
  simp [ci, ct, cst] at h0 h1 h2 h3 h4
  obtain ⟨x0, e0, _⟩ := DataW.trod_int Try.underlying3 h0
  obtain ⟨x1, e1, _⟩ := DataW.trod_int Try.underlying3 h1
  obtain ⟨x2, e2, _⟩ := DataW.trod_int Try.underlying3 h2
  obtain ⟨t, et⟩ := tms_cellsF h3
  obtain ⟨x4, e4, _⟩ := DataW.trod_string Try.underlying9 h4
  simp [tmC] at e0 e1 e2 et e4
  obtain ⟨e10, e11, e12, e13⟩ := et
  exact ⟨⟨x0, x1, x2, t, x4⟩, by rw [e0, e1, e2, e10, e11, e12, e13, e4]⟩
/-- A part that is handed in. -/
theorem open_fpt {H : Type} {enc : TypeId × Value → H} {W : World} {r : Reach} {b0 base : Nat} {spare : Nat → Bool} {held : Bool} {v : Value} {d : DataW H} {p : List MemPlace}
    (hv : Value.okWide Try.prog W r b0 25 v) (h : DataW.Trod enc Try.prog W base spare held 25 v d p) : ∃ s : Fpt, v = feV s := by
  obtain ⟨cs, rfl, hsz, _⟩ : ∃ cs, v = .agg cs ∧ cs.size = Try.prog.cellsOf 25 ∧ Row.okWide Try.prog W r b0 25 cs := by
    simpa [Value.okWide, Try.underlying25] using hv
  obtain ⟨l⟩ := cs
  obtain ⟨fuel, hf⟩ := h
  obtain ⟨s, hs⟩ := fpt_cells hf
  exact ⟨s, by rw [show l = feC s from hs]⟩
end Go.Proofs.Ytdpgphidielajaa
