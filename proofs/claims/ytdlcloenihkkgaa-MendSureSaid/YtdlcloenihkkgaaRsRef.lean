/-
  What the document's power, Value and Syndromes answer, for texts of up to a billion bytes; the memory that was there stays.
-/
import Derived.Test.YtdlcloenihkkgaaPolyRefB
import Derived.Test.YtdlcloenihkkgaaRsMath
import Derived.Test.YtdlcloenihkkgaaGfF
namespace Go.Proofs.Ytdlcloenihkkgaa
open Go.RowKit Gf
set_option maxRecDepth 100000

theorem gp2_pw (n : Nat) : gp 2 (n : Int) = ((pw n).toNat : Int) := by
  rw [gp_pow (by omega), pw_toNat]
  have h2 : (2 : Int).toNat ≠ 0 := by decide
  rw [powN_eq h2, show logN (2 : Int).toNat = 1 by kernel_rfl, Nat.one_mul]
  congr 2
  omega
set_option maxRecDepth 100000 in
set_option maxHeartbeats 400000 in
theorem power_any (n : Nat) (w : World) :
    Calls Try.prog 61 #[.int .i64 (n : Int)] w fun e w' => e = .returned (.int .u8 ((pw n).toNat : Int)) ∧ w = w' := by
  go_enter Try.func61, Try.ntmps61
  go_wp2_with fail
  refine (refpow_any _ _ _ (by omega) (by omega)).mono ?_
  rintro e wz ⟨rfl, rfl⟩
  rw [gp2_pw]
  go_wp2
  go_ret
  exact ⟨rfl, rfl⟩
def vRel (w : World) (l : List UInt8) (x : UInt8) (o i : Value) (wr : World) : Prop := ∃ k : Nat, k ≤ l.length ∧ o = .int .u8 ((hv (l.take k) x).toNat : Int) ∧ i = .int .i64 k ∧ Keeps w wr
theorem hv_next {l : List UInt8} {k : Nat} (h : k < l.length) (x : UInt8) : fm (hv (l.take k) x) x ^^^ cf l k = hv (l.take (k + 1)) x := by
  rw [List.take_succ_eq_append_getElem h, show hv (l.take k ++ [l[k]]) x = (l.take k ++ [l[k]]).foldl (fun o c => fm o x ^^^ c) 0 from rfl, List.foldl_append, cf_lt h]; rfl
set_option maxRecDepth 100000 in
set_option maxHeartbeats 1600000 in
theorem rvalue_any (w0 : World) (p : ByteArray) (x : UInt8) (w : World) (hp : p.size ≤ 1000000000) (hk : Keeps w0 w) :
    Calls Try.prog 60 #[.string p, .int .u8 (x.toNat : Int)] w fun e w' => e = .returned (.int .u8 ((hv (ls p) x).toNat : Int)) ∧ Keeps w0 w' := by
  have HK := Lib.hid hk
  clear hk
  go_enter Try.func60, Try.ntmps60
  go_wp2
  go_loopw [5, 6] (fun o i wr => vRel w (ls p) x o i wr) (fun _ i _ => p.size - (intOf i).toNat)
  case atStart => exact ⟨0, by omega, rfl, rfl, Keeps.refl w⟩
  case round =>
    obtain ⟨k, hk, rfl, rfl, hkp⟩ := hrel
    rw [← ls_size] at hk
    by_cases hlt : k < p.size
    · have HG := Lib.hid (ls_get p k hlt)
      have HN := Lib.hid (hv_next (l := ls p) (k := k) (by rw [← ls_size]; exact hlt) x)
      rw [← HG.out] at HN
      generalize hv ((ls p).take k) x = s at *
      go_wp2
      go_quiet ((first | (go_at_call 42; exact quiet_eq rfl (rmul8 s x _)) | (go_at_call 41; exact quiet_eq rfl (radd8 (fm s x) p[k] _))))
      go_wp2
      go_roundw
      case rel => exact ⟨k + 1, by rw [← ls_size]; omega, by rw [← HN.out], by go_num, hkp.trans (below_drewN (Below.refl _ _) _)⟩
      case measure => simp [intOf]; omega
    · have HE := Lib.hid (show (ls p).take k = ls p from List.take_of_length_le (by rw [← ls_size]; omega))
      rw [HE.out]
      go_wp2
      go_ret
      exact ⟨rfl, HK.out.over hkp⟩
def synd (l : List UInt8) : List UInt8 := row 64 (fun n => hv l (pw n))
set_option maxRecDepth 100000 in
set_option maxHeartbeats 1600000 in
theorem rsynd_any (w0 : World) (p : ByteArray) (w : World) (hp : p.size ≤ 1000000000) (hk : Keeps w0 w) :
    Calls Try.prog 37 #[.string p] w fun e w' => e = .returned (.string (st (synd (ls p)))) ∧ Keeps w0 w' := by
  have HK := Lib.hid hk
  clear hk
  go_enter Try.func37, Try.ntmps37
  go_wp2
  go_loopw [3, 4] (fun v i wr => bRel w 64 (fun n => hv (ls p) (pw n)) v i wr) (fun _ i _ => 64 - (intOf i).toNat)
  case atStart => exact ⟨0, by omega, rfl, Own.nil _ _, Keeps.refl w⟩
  case round =>
    obtain ⟨k, hk, rfl, hown, hkp⟩ := hrel
    by_cases hlt : k < 64
    · generalize hx : hv (ls p) (pw k) = x
      have HX := Lib.hid hx
      have hrl : (row k (fun n => hv (ls p) (pw n))).length ≤ 1000000000 := by rw [row_length]; omega
      have HO := Lib.hid (fun v2 w2 => bRel.next (w := w) (w2 := w2) (n := 64) (k := k) (f := fun n => hv (ls p) (pw n)) (v' := v2) (x := x) hlt hx)
      have HOWN := Lib.hid hown
      clear hx hown
      go_wp2_with fail
      refine (power_any _ _).mono ?_
      rintro e wz ⟨rfl, rfl⟩
      go_wp2_with fail
      refine (rvalue_any wr _ _ _ hp (Keeps.refl wr)).mono ?_
      rintro e w1 ⟨rfl, hk1⟩
      rw [HX.out]
      have hown1 := HOWN.out.kept hkp hk1
      have hkp1 := hkp.over hk1
      clear hkp hk1 HOWN
      go_wp2_with (at_builtin; refine wp_push8 rfl _ _ rfl x hown1 rfl rfl hrl hkp1 ?_; intro v2 w2 hown2 hkp2)
      go_roundw
      case rel => exact HO.out _ _ hown2 hkp2
      case measure => simp [intOf]; omega
    · have HE := Lib.hid (show k = 64 by omega)
      have hcv := hown.text
      have HL := Lib.hid (show st (row k (fun n => hv (ls p) (pw n))) = st (synd (ls p)) by rw [HE.out]; rfl)
      rw [HL.out] at hcv
      have hge : 64 ≤ (k : Int) := by omega
      clear hlt hk hown
      go_wp2
      go_ret
      exact ⟨rfl, HK.out.over hkp⟩
end Go.Proofs.Ytdlcloenihkkgaa
