/-
  What plain answers, sections as the document's: for up to a thousand sections. The memory that was there stays.
-/
import Derived.Test.YtmfldnflcmbnjaaScI
namespace Go.Proofs.Ytmfldnflcmbnjaa
open Go.RowKit Gf Sct
set_option maxRecDepth 100000
theorem take_getD {L : List Sec} {k : Nat} (h : k < L.length) : L.take k ++ [L.getD k zs] = L.take (k + 1) := by
  rw [List.take_succ_eq_append_getElem h, List.getD_eq_getElem?_getD, List.getElem?_eq_getElem h]; rfl
def plRel (w : World) (L : List Sec) (o i : Value) (wr : World) : Prop := ∃ k : Nat, k ≤ L.length ∧ i = .int .i64 (k : Int) ∧ OwnE rsecT wr w.heap.size o (L.take k) ∧ Keeps w wr
set_option maxHeartbeats 3200000 in
theorem scplains_any (a : Option Addr) (len cap : Nat) (L : List Sec) (w : World) (hI : IsE secT w a len L) (hl : len ≤ 1000) :
    Calls Try.prog 24 #[.slice a len cap] w fun e w' => ∃ v, e = .returned v ∧ OwnE rsecT w' w.heap.size v L ∧ Keeps w w' := by
  have HLL := Lib.hid hI.1
  have HI := Lib.hid hI
  clear hI
  go_enter Try.func24, Try.ntmps24
  go_wp2
  go_loopw [3, 4] (fun o i wr => plRel w L o i wr) (fun _ i _ => len - (intOf i).toNat)
  case atStart => exact ⟨0, by omega, rfl, by rw [List.take_zero]; exact OwnE.nil _ _, Keeps.refl w⟩
  case round =>
    obtain ⟨k, hk, rfl, hown, hkw⟩ := hrel
    rw [← HLL.out] at hk
    have HO := Lib.hid hown
    have HKW := Lib.hid hkw
    clear hown hkw
    by_cases hlt : k < len
    · obtain ⟨b, off, rfl, hR⟩ := row_of (T := secT) rfl (fun _ => rfl) HI.out (by omega)
      have hkI : (k : Int) < (len : Int) := by omega
      have hrk := (hR.keeps HKW.out).row k hlt
      have HTK := Lib.hid (take_getD (L := L) (k := k) (by rw [← HLL.out]; exact hlt))
      obtain ⟨x, hx⟩ : ∃ x, L.getD k zs = x := ⟨_, rfl⟩
      rw [hx] at hrk HTK
      have HRK := Lib.hid hrk
      have HPL := Lib.hid (fun W => scplain_any W x W (Keeps.refl W))
      unfold SecPost at HPL
      have hal : (L.take k).length ≤ 100000000 := by rw [List.length_take]; omega
      clear hrk hx hR
      obtain ⟨tb, pv, ex, ver, nw, num, la, S⟩ := x
      go_wp2_with (first | (refine wp_ldS (b := b) (off := off + k * 8) HRK.out rfl _ rfl rfl ?_) | (go_at_call 12; refine (HPL.out _).mono ?_; rintro _ w2 ⟨rfl, k2⟩; have HO2 := Lib.hid (HO.out.keeps k2); have HK2 := Lib.hid (HKW.out.trans k2); have hb2 := Below.size HK2.out; clear k2) | (at_builtin; refine wp_pushE (T := rsecT) rfl _ _ rfl ⟨tb, pv, ex, ver, nw, num, la, S⟩ _ rfl w2.heap.size rfl HO2.out rfl rfl hal hb2 _ ?_; intro v7 w7 own7 grow7 at7; rw [HTK.out] at own7; have HO7 := Lib.hid own7; have HK7 := Lib.hid ((HK2.out.alloc _).grown grow7 HO2.out.block); clear own7 grow7 at7))
      go_roundw
      case rel => exact ⟨k + 1, by rw [← HLL.out]; omega, by go_num, HO7.out, HK7.out⟩
      case measure => simp [intOf]; omega
    · have hkI : ¬ (k : Int) < (len : Int) := by omega
      have HOE := Lib.hid (show OwnE rsecT wr w.heap.size u3 L by have := HO.out; rwa [List.take_of_length_le (by rw [← HLL.out]; omega)] at this)
      clear HO hlt hk
      go_wp2
      go_ret
      exact ⟨_, rfl, HOE.out, HKW.out⟩
end Go.Proofs.Ytmfldnflcmbnjaa
