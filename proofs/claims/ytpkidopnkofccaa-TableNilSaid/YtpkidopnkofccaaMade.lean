/-
  What Made of layer 12's statements answers: a datagram of so many bytes, of a kind. The memory that was there stays.
-/
import Derived.Test.YtpkidopnkofccaaDgE
import Derived.Shelf.Pu.Clone
namespace Go.Proofs.Ytpkidopnkofccaa
open Go.RowKit Gf
set_option maxRecDepth 100000
/-- A body of n bytes, of a kind. -/
def bdy (b : UInt8) (n : Nat) : List UInt8 := (List.range n).map fun i => b + UInt8.ofNat (i % 7)
theorem bdy_length (b : UInt8) (n : Nat) : (bdy b n).length = n := by simp [bdy]
theorem bdy_get (b : UInt8) {n i : Nat} (h : i < n) : cf (bdy b n) i = b + UInt8.ofNat (i % 7) := by
  rw [cf_lt (by rw [bdy_length]; exact h)]
  simp [bdy]
theorem bdy_nat (b : UInt8) (i : Nat) : (((b.toNat : Int) + ((i % 7 : Nat) : Int)) % 256) = ((b + UInt8.ofNat (i % 7)).toNat : Int) := by
  rw [UInt8.toNat_add, UInt8.toNat_ofNat_of_lt' (show i % 7 < 256 by omega)]
  omega
/-- How many bytes it has. -/
def bdn (n : Int) : Nat := (max 0 (min n 4060)).toNat
theorem bdn_le (n : Int) : bdn n ≤ 4060 := by unfold bdn; omega
def mdT (n : Int) (b : UInt8) : List UInt8 := Dg.make4 [97, 98, 99, 100] [101, 102, 103, 104] b (bdy b (bdn n))
theorem mdT_length (n : Int) (b : UInt8) : (mdT n b).length = 20 + bdn n := by unfold mdT; rw [Dg.make4_length rfl rfl, bdy_length]
theorem mdT_check (n : Int) (b : UInt8) : Dg.check (mdT n b) = 0 := Dg.check_make4 rfl rfl (by rw [bdy_length]; exact bdn_le n)
def mdRel (wA : World) (rb n : Nat) (b : UInt8) (i : Value) (wr : World) : Prop := ∃ (k : Nat) (l : List UInt8), k ≤ n ∧ i = .int .i64 (k : Int) ∧ l.length = n ∧ (∀ j, j < k → cf l j = cf (bdy b n) j) ∧ Blk rb l wr ∧ Only rb wA wr
set_option maxHeartbeats 3200000 in
theorem made_any (w0 : World) (m : Int) (b : UInt8) (w : World) (hk : Keeps w0 w) : Calls Try.prog 24 #[.int .i64 m, .int .u8 (b.toNat : Int)] w fun e w' => e = .returned (.string (st (mdT m b))) ∧ Keeps w0 w' := by
  obtain ⟨q, hq⟩ : ∃ q, min m 4060 = q := ⟨_, rfl⟩
  have HB0 := Lib.hid (show mdT m b = Dg.make4 [97, 98, 99, 100] [101, 102, 103, 104] b (bdy b (bdn m)) from rfl)
  have hle := bdn_le m
  obtain ⟨n, hn⟩ : ∃ n, bdn m = n := ⟨_, rfl⟩
  rw [hn] at HB0 hle
  have hmx : max 0 q = (n : Int) := by rw [← hn, ← hq]; unfold bdn; omega
  rw [HB0.out]
  clear hn HB0
  have HM := Lib.hid (fun W k => dgrmake4_any w0 [97, 98, 99, 100] [101, 102, 103, 104] (bdy b n) rfl rfl (b.toNat : Int) W (by rw [bdy_length]; omega) k)
  unfold MkPost at HM
  have hub := u8_bd b
  have hmk2 : mkR (b.toNat : Int) (20 + ((bdy b n).length : Int)) (Dg.make4 [97, 98, 99, 100] [101, 102, 103, 104] (UInt8.ofNat (b.toNat : Int).toNat) (bdy b n)) = .tuple #[.string (st (Dg.make4 [97, 98, 99, 100] [101, 102, 103, 104] b (bdy b n))), .int .i64 0] := by
    rw [mkR_ok (mk_ok (by omega) (by omega) (by rw [bdy_length]; omega))]
    rw [show UInt8.ofNat (b.toNat : Int).toNat = b by simp]
  rw [hmk2] at HM
  obtain ⟨MT, hMT⟩ : ∃ MT, st (Dg.make4 [97, 98, 99, 100] [101, 102, 103, 104] b (bdy b n)) = MT := ⟨_, rfl⟩
  rw [hMT] at HM ⊢
  clear hmk2 hMT
  have hmk := make8 n (by omega) w
  have hR := Blk.make w n
  have hkA := hk.alloc (.cells (zr n) 5)
  have hb0 := Below.size hk
  go_enter Try.func24, Try.ntmps24
  go_wp2
  clear hmk hq hmx
  obtain ⟨rb, hrb⟩ : ∃ rb, w.heap.size = rb := ⟨_, rfl⟩
  obtain ⟨wA, hwA⟩ : ∃ wA, w.alloc (.cells (zr n) 5) = wA := ⟨_, rfl⟩
  rw [hwA, hrb] at hR
  rw [hwA] at hkA
  rw [hwA, hrb]
  rw [hrb] at hb0
  have HK := Lib.hid hkA
  clear hwA hrb hkA hk
  go_loopw [6] (fun i wr => mdRel wA rb n b i wr) (fun i _ => n - (intOf i).toNat)
  case atStart => exact ⟨0, z8 n, by omega, rfl, List.length_replicate, fun j hj => by omega, hR, Only.refl _ _⟩
  case round =>
    obtain ⟨k, l, hk, rfl, hl, hlx, hbk, ho⟩ := hrel
    clear hR
    by_cases hlt : k < n
    · have hcl := hbk.cell k (by omega)
      have hfr := hbk.free k (by omega)
      have hy := bdy_nat b k
      have HG := Lib.hid (bdy_get b hlt)
      obtain ⟨y, hyy⟩ : ∃ y, b + UInt8.ofNat (k % 7) = y := ⟨_, rfl⟩
      rw [hyy] at hy HG
      obtain ⟨r, hr⟩ : ∃ r, k % 7 = r := ⟨_, rfl⟩
      rw [hr] at hy
      have hr7 : r < 7 := by omega
      have e1 : (k : Int).tmod 7 = (r : Int) := by rw [Int.tmod_eq_emod_of_nonneg (by omega)]; omega
      have e2 : (k : Int) % 7 = (r : Int) := by omega
      have e3 : (r : Int) % 256 = (r : Int) := by omega
      have HBL := Lib.hid (hbk.set (k := k) (by omega) y)
      have HO := Lib.hid (ho.trans (Only.setCell wr ⟨rb, k, none⟩ (.int .u8 (y.toNat : Int))))
      have HL := Lib.hid hl
      have HLX := Lib.hid hlx
      clear hbk ho hyy hr hl hlx
      go_wp2
      go_roundw
      case rel =>
        refine ⟨k + 1, l.set k y, by omega, by go_num, by rw [List.length_set]; exact HL.out, fun j hj => ?_, HBL.out, HO.out⟩
        rw [cf_set _ _ _ (by rw [HL.out]; exact hlt)]
        by_cases e : j = k
        · subst e; rw [if_pos rfl, HG.out]
        · rw [if_neg e]; exact HLX.out j (by omega)
      case measure => simp [intOf]; omega
    · obtain rfl : k = n := by omega
      have hE : l = bdy b k := list_ext_cf (by rw [hl, bdy_length]) fun i hi => hlx i (by omega)
      have hcv := hbk.whole k (n := k) hl.symm
      rw [hE] at hcv
      have HO := Lib.hid (ho.keeps HK.out hb0)
      have HST := Lib.hid (show st [97, 98, 99, 100] = (⟨#[97, 98, 99, 100]⟩ : ByteArray) from rfl)
      have HST2 := Lib.hid (show st [101, 102, 103, 104] = (⟨#[101, 102, 103, 104]⟩ : ByteArray) from rfl)
      rw [HST.out, HST2.out] at HM
      clear hbk ho hlx hl hE
      go_wp2_with (go_at_call 41; refine (HM.out _ HO.out).mono ?_; rintro _ w9 ⟨rfl, k9⟩)
      go_ret
      exact ⟨rfl, k9⟩
end Go.Proofs.Ytpkidopnkofccaa
