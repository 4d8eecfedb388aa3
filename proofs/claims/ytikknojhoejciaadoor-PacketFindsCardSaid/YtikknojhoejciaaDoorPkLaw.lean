/-
  The example of layer 14.
-/
import Derived.Test.YtikknojhoejciaaDoorPkRef
import Derived.Test.YtikknojhoejciaaDoorPkImp
import Derived.Test.YtikknojhoejciaaDoorPkArgs
namespace Go.Proofs.YtikknojhoejciaaDoor
open Go.RowKit Gf Pk
set_option maxRecDepth 100000
def exK : Pkt := ⟨17, true, 3, false, st (byN 184 97)⟩
theorem exK_ck : ckP exK = 0 := by decide
theorem exK_bts : (⟨#[71, 64, 17, 19]⟩ : ByteArray) ++ st (byN 184 97) = st (bts exK) := by
  rw [show (⟨#[71, 64, 17, 19]⟩ : ByteArray) = st [71, 64, 17, 19] from rfl, st_append]
  congr 1
set_option maxHeartbeats 1600000 in
theorem awake14_any (w0 w : World) (hk : Keeps w0 w) (hW : Wd w) : Calls Tryd.prog 9 #[] w fun e w' => e = .returned (.bool true) ∧ Keeps w0 w' := by
  have HG := Lib.hid (fun W => show Calls Tryd.prog 16 #[.int .i64 184, .int .u8 97] W fun e w' => e = .returned (.string (st (byN 184 97))) ∧ Keeps W w' from pkbytes_any W 184 97 W (by decide) (Keeps.refl W))
  have HE := Lib.hid (fun W (q : Keeps w W) => pkencode_any exK W (hW.keeps q) (by show (st (byN 184 97)).size ≤ 1000000; rw [st_size, byN_length]; decide))
  rw [ecP_ok exK_ck] at HE
  have hx := exK_bts
  obtain ⟨S, hS⟩ : ∃ S, st (bts exK) = S := ⟨_, rfl⟩
  simp only [hS] at HE hx
  unfold exK at HE
  have hzb : (st (byN 184 97)).size = 184 := by rw [st_size, byN_length]
  obtain ⟨G, hG⟩ : ∃ G, st (byN 184 97) = G := ⟨_, rfl⟩
  simp only [hG] at HG HE hx hzb
  have HKK := Lib.hid hk
  have HQ := Lib.hid (Keeps.refl w)
  clear hS hG hk
  go_enter Tryd.func9, Tryd.ntmps9
  go_wp2_with (first | (go_at_call 16; refine (HG.out _).mono ?_; rintro _ w1 ⟨rfl, k1⟩; have HKK := Lib.hid (HKK.out.trans k1); have HQ := Lib.hid (HQ.out.trans k1); clear k1) | (go_at_call 12; refine (HE.out _ HQ.out).mono ?_; rintro _ w2 ⟨rfl, k2⟩; have HKK := Lib.hid (HKK.out.trans k2); have HQ := Lib.hid (HQ.out.trans k2); clear k2))
  go_ret
  exact ⟨rfl, HKK.out⟩
theorem pk_take (s : ByteArray) (i k : Nat) : s.extract i (i + k) = st (((ls s).drop i).take k) := by
  rw [← st_ls (s.extract i (i + k)), ls_part, show i + k - i = k by omega]
theorem pk_drop (s : ByteArray) (i : Nat) : s.extract i s.size = st ((ls s).drop i) := by
  rw [← st_ls (s.extract i s.size), ls_part]; congr 1; exact List.take_of_length_le (by rw [List.length_drop, ls_size]; omega)
/-- A packet, and the one of which the body's first byte is left out. -/
theorem cut_one {p q : Pkt} (hp : ckP p = 0) (hn : 0 < p.body.size) (h1 : q.pid = p.pid) (h2 : q.start = p.start) (h3 : q.count = p.count) (h4 : q.bad = p.bad) (h5 : ls q.body = (ls p.body).drop 1) :
    ckP q = 0 ∧ (bts p).take 3 = (bts q).take 3 ∧ (cf (bts p) 3).toNat % 16 = (cf (bts q) 3).toNat % 16 ∧ (bts p).drop (189 - p.body.size) = ls q.body ∧ (bts q).drop (189 - p.body.size) = ls q.body ∧ (p.body.size < 184 → (cf (bts q) 4).toNat = (cf (bts p) 4).toNat + 1) := by
  obtain ⟨hk, hz⟩ := ckP_good hp
  have hq : q.body.size = p.body.size - 1 := by rw [ls_size, h5, List.length_drop, ← ls_size]
  have hkq : okP q := by unfold okP; rw [h1, h3]; exact hk
  have hcq : ckP q = 0 := ckP_ok hkq (by omega)
  refine ⟨hcq, ?_, ?_, ?_, ?_, fun h => ?_⟩
  · show [71, UInt8.ofNat (p.pid.toNat / 256 + 128 * bn p.bad + 64 * bn p.start), UInt8.ofNat (p.pid.toNat % 256)] = [71, UInt8.ofNat (q.pid.toNat / 256 + 128 * bn q.bad + 64 * bn q.start), UInt8.ofNat (q.pid.toNat % 256)]
    rw [h1, h2, h4]
  · rw [bts_3 hk, bts_3 hkq, h3]
    omega
  · unfold bts
    rw [← List.append_assoc, List.drop_append, List.drop_of_length_le (by rw [List.length_append, hd_length, adp_length hz]; omega), List.nil_append, List.length_append, hd_length, adp_length hz, h5]
    congr 1; omega
  · unfold bts
    rw [← List.append_assoc, List.drop_append, List.drop_of_length_le (by rw [List.length_append, hd_length, adp_length (by omega)]; omega), List.nil_append, List.length_append, hd_length, adp_length (by omega)]
    rw [show 189 - p.body.size - (4 + (184 - q.body.size)) = 0 by omega, List.drop_zero]
  · rw [bts_4 h, bts_4 (p := q) (by omega)]
    omega
end Go.Proofs.YtikknojhoejciaaDoor
