/-
  What the laws of layer 2 share: few, and the chapter's examples.
-/
import Derived.Test.YthaiamagdifhjaaPolyImp
namespace Go.Proofs.Ythaiamagdifhjaa
open Go.RowKit Gf
def fewB (a b c : ByteArray) : Bool := decide (a.size ≤ 60) && (decide (b.size ≤ 60) && decide (c.size ≤ 60))
set_option maxHeartbeats 400000 in
theorem few_any (a b c : ByteArray) (w : World) :
    Calls Try.prog 10 #[.string a, .string b, .string c] w fun e w' => e = .returned (.bool (fewB a b c)) ∧ w = w' := by
  by_cases h1 : a.size ≤ 60
  · by_cases h2 : b.size ≤ 60
    · by_cases h3 : c.size ≤ 60
      all_goals
        have HR := Lib.hid (show fewB a b c = (decide (a.size ≤ 60) && (decide (b.size ≤ 60) && decide (c.size ≤ 60))) from rfl)
        go_enter Try.func10, Try.ntmps10
        go_wp2
        go_ret
        rw [HR.out]
        simp [h1, h2, h3]
        omega
    · have HR := Lib.hid (show fewB a b c = false by simp [fewB, h2])
      go_enter Try.func10, Try.ntmps10
      go_wp2
      go_ret
      rw [HR.out]
      exact ⟨rfl, rfl⟩
  · have HR := Lib.hid (show fewB a b c = false by simp [fewB, h1])
    go_enter Try.func10, Try.ntmps10
    go_wp2
    go_ret
    rw [HR.out]
    exact ⟨rfl, rfl⟩
theorem k1 : st (proots (ls { data := #[1, 2] })) = { data := #[2, 3, 1] } := by
  have : proots [1, 2] = [2, 3, 1] := by decide +kernel
  show st (proots [1, 2]) = _
  rw [this]; rfl
theorem k2 : pmul [1, 1] [2, 1] = [2, 3, 1] := by decide +kernel
theorem k3 : pat [2, 3, 1] 1 = 0 := by decide +kernel
set_option maxHeartbeats 800000 in
theorem awake2_any (w0 w : World) (hk : Keeps w0 w) :
    Calls Try.prog 11 #[] w fun e w' => e = .returned (.bool true) ∧ Keeps w0 w' := by
  have hst := st_toList
  go_enter Try.func11, Try.ntmps11
  go_wp2_with fail
  refine (proots_any w0 _ _ (by decide) hk).mono ?_
  rintro e w1 ⟨rfl, hk1⟩
  rw [k1]
  clear hk
  go_wp2_with fail
  refine (pdiv_any w0 _ _ _ (by decide) (by decide) (by decide) hk1).mono ?_
  rintro e w2 ⟨q, r, rfl, hq, hr, hl, hd, hk2⟩
  obtain ⟨rfl, rfl⟩ := divide_one (q' := [1, 1]) (r' := []) hq (by decide) hr rfl (by rw [hd]; show trim [2, 3, 1] = _; rw [show (ls { data := #[2, 1] }) = [2, 1] from rfl, k2]; decide) hl (by decide)
  clear hk1 hq hr hl hd
  go_wp2_with fail
  refine (pat_any w0 _ 1 _ (by decide) hk2).mono ?_
  rintro e w3 ⟨rfl, hk3⟩
  rw [show pat (ls { data := #[2, 3, 1] }) 1 = 0 from k3]
  clear hk2
  go_wp2
  go_ret
  exact ⟨rfl, hk3⟩
theorem mk_length (n : Nat) (f : Nat → UInt8) : (mk n f).length ≤ n := by
  have := trim_le (row n f); rw [row_length] at this; exact this
theorem padd_len (a b : List UInt8) : (padd a b).length ≤ max a.length b.length := mk_length _ _
theorem pmul_len (a b : List UInt8) : (pmul a b).length ≤ a.length + b.length := mk_length _ _
theorem pslope_len (a : List UInt8) : (pslope a).length ≤ a.length := by
  have := mk_length (a.length - 1) (slope (cf a)); unfold pslope; omega
theorem ls_len {a : ByteArray} {n : Nat} (h : a.size ≤ n) : (ls a).length ≤ n := by rw [← ls_size]; exact h
theorem few_true {a b c : ByteArray} (h : fewB a b c = true) : a.size ≤ 60 ∧ b.size ≤ 60 ∧ c.size ≤ 60 := by
  simpa [fewB] using h
theorem u8_of {n : Int} (h : 0 ≤ n ∧ n ≤ 255) : ∃ x : UInt8, n = (x.toNat : Int) :=
  ⟨UInt8.ofNat n.toNat, by rw [UInt8.toNat_ofNat_of_lt' (show n.toNat < 256 by omega)]; omega⟩
end Go.Proofs.Ythaiamagdifhjaa
