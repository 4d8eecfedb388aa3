/-
  What Room, power and lowest of package mend answer, and slices.Contains over numbers. The memory that was there stays.
-/
import Derived.Test.YtdlcloenihkkgaaRsImp
import Derived.Test.YtdlcloenihkkgaaMendKey
namespace Go.Proofs.Ytdlcloenihkkgaa
open Go.RowKit Gf
set_option maxRecDepth 100000
set_option maxHeartbeats 400000 in
theorem mroom_eq (n : Int) (w : World) :
    Calls Try.prog 11 #[.int .i64 n] w fun e w' => e = .returned (.int .i64 (roomZ n)) ∧ w = w' := by
  by_cases h0 : n < 0
  · have HZ := Lib.hid (show roomZ n = -1 by unfold roomZ; rw [if_pos (.inl h0)])
    go_enter Try.func11, Try.ntmps11
    go_wp2
    go_ret
    rw [HZ.out]
    exact ⟨rfl, rfl⟩
  · have h0' : 0 ≤ n := by omega
    by_cases h1 : 64 < n
    · have HZ := Lib.hid (show roomZ n = -1 by unfold roomZ; rw [if_pos (.inr h1)])
      clear h0
      go_enter Try.func11, Try.ntmps11
      go_wp2
      go_ret
      rw [HZ.out]
      exact ⟨rfl, rfl⟩
    · have h1' : n ≤ 64 := by omega
      have HZ := Lib.hid (show roomZ n = (64 - n) / 2 by unfold roomZ; rw [if_neg (by omega)])
      clear h0 h1
      go_enter Try.func11, Try.ntmps11
      go_wp2
      go_ret
      rw [HZ.out]
      exact ⟨ret_int (by omega), rfl⟩
theorem mroom_any (n : Int) (w : World) :
    Calls Try.prog 11 #[.int .i64 n] w fun e w' => e = .returned (.int .i64 (roomZ n)) ∧ Keeps w w' :=
  (mroom_eq n w).mono fun _ _ ⟨h, k⟩ => ⟨h, by rw [← k]; exact Keeps.refl w⟩
set_option maxHeartbeats 400000 in
theorem mpower_any (n : Int) (w : World) (h0 : 0 ≤ n) (h1 : n ≤ 254) :
    Calls Try.prog 25 #[.int .i64 n] w fun e w' => e = .returned (.int .i64 (254 - n)) ∧ w = w' := by
  go_enter Try.func25, Try.ntmps25
  go_wp2
  go_ret
  exact ⟨ret_int (by omega), rfl⟩
theorem ext_st (p : ByteArray) (n : Nat) : p.extract 0 n = st ((ls p).take n) := by
  rw [← ls_extract, st_ls]
set_option maxHeartbeats 400000 in
theorem mlowest_any (p : ByteArray) (w : World) (hp : p.size ≤ 1000000) :
    Calls Try.prog 52 #[.string p] w fun e w' => e = .returned (.string (st ((ls p).take 64))) ∧ w = w' := by
  have HE := Lib.hid (show p.extract 0 (min (p.size : Int) 64).toNat = st ((ls p).take 64) by
    rw [ext_st]
    by_cases h : p.size ≤ 64
    · rw [show (min (p.size : Int) 64).toNat = p.size by omega, List.take_of_length_le (l := ls p) (i := 64) (by rw [← ls_size]; exact h), List.take_of_length_le (by rw [← ls_size]; omega)]
    · rw [show (min (p.size : Int) 64).toNat = 64 by omega])
  go_enter Try.func52, Try.ntmps52
  go_wp2
  go_ret
  rw [← HE.out]
  exact ⟨rfl, rfl⟩
def IdxPost (w : World) (l : List Int) (n : Int) (e : Ending) (w' : World) : Prop := ∃ i : Int, e = .returned (.int .i64 i) ∧ (0 ≤ i ↔ n ∈ l) ∧ -1 ≤ i ∧ i ≤ 1000000 ∧ w = w'
set_option maxHeartbeats 1600000 in
theorem index_any (a : Option Addr) (len cap : Nat) (l : List Int) (n : Int) (w : World) (hr : IsI w a len l) (hlen : len ≤ 1000000) :
    Calls Try.prog 66 #[.slice a len cap, .int .i64 n] w (IdxPost w l n) := by
  have hl := hr.1
  have HR := Lib.hid hr
  clear hr
  go_enter Try.func66, Try.ntmps66
  go_wp2
  go_loop [8] (fun i => inLRel l n i) (fun i => len - (intOf i).toNat)
  case atStart => exact ⟨0, Nat.zero_le _, rfl, (fun i hi => by cases hi)⟩
  case round =>
    obtain ⟨k, hk, rfl, hne⟩ := hrel
    rw [hl] at hk
    have HNE := Lib.hid hne
    clear hne
    by_cases hlt : k < len
    · obtain ⟨b, off, rfl, hb, hc⟩ := HR.out.2 (by omega)
      have hck := hc k hlt
      obtain ⟨x, hx⟩ : ∃ x, l.getD k 0 = x := ⟨_, rfl⟩
      rw [hx] at hck
      have HX := Lib.hid hx
      have hkl : (k : Int) < (len : Int) := by omega
      clear hc hx
      by_cases e : n = x
      · have HZ := Lib.hid (show n ∈ l by rw [e, ← HX.out]; exact getD_mem (by omega))
        subst e
        go_wp2
        go_ret
        exact ⟨(k : Int), rfl, ⟨fun _ => HZ.out, fun _ => by omega⟩, by omega, by omega, rfl⟩
      · have hxn : (n == x) = false := by simpa using e
        go_wp2
        go_round
        case rel =>
          refine ⟨k + 1, by omega, by go_num, fun m hm => ?_⟩
          by_cases em : m = k
          · subst em; rw [HX.out]; exact fun h => e h.symm
          · exact HNE.out m (by omega)
        case measure => simp [intOf]; omega
    · have HZ := Lib.hid (show ¬ n ∈ l from fun h => by
        obtain ⟨m, hm, e⟩ := mem_getD h
        exact HNE.out m (by omega) e)
      have hkl : (len : Int) ≤ (k : Int) := by omega
      go_wp2
      go_ret
      exact ⟨-1, rfl, ⟨fun h => by omega, fun h => absurd h HZ.out⟩, by omega, by omega, rfl⟩
set_option maxHeartbeats 400000 in
theorem contains_any (a : Option Addr) (len cap : Nat) (l : List Int) (n : Int) (w : World) (hr : IsI w a len l) (hlen : len ≤ 1000000) :
    Calls Try.prog 50 #[.slice a len cap, .int .i64 n] w fun e w' => e = .returned (.bool (inL l n)) ∧ w = w' := by
  go_enter Try.func50, Try.ntmps50
  go_wp2_with fail
  refine (index_any a len cap l n w hr hlen).mono ?_
  rintro e w1 ⟨i, rfl, hi, h0, h1, rfl⟩
  have HZ := Lib.hid (show inL l n = decide (0 ≤ i) from decide_eq_decide.2 hi.symm)
  clear hi
  go_wp2
  go_ret
  rw [HZ.out]
  exact ⟨rfl, rfl⟩
end Go.Proofs.Ytdlcloenihkkgaa
