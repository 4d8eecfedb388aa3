/-
  The table of widths of package packet in memory, and what fits, bit, follows, adapted, adaptation and Check answer. The memory that was there stays.
-/
import Derived.Test.YtifbomppgflkfaaDoorPkV
import Derived.Test.YtifbomppgflkfaaDoorRep
namespace Go.Proofs.YtifbomppgflkfaaDoor
open Go.RowKit Gf Pk
set_option maxRecDepth 100000
/-- The table of widths. -/
def wdC : List Value := [.int .i64 8, .int .i64 1, .int .i64 1, .int .i64 1, .int .i64 13, .int .i64 2, .int .i64 2, .int .i64 4]
/-- It lies where the program's text lays it. -/
def Wd (w : World) : Prop := w.rangeAt 0 0 wdC
theorem Wd.cell {w : World} (h : Wd w) (i : Nat) {v : Value} (hv : wdC[i]? = some v) : w.cell? ⟨0, i, none⟩ = some v := by
  have := h i v hv
  rwa [Nat.zero_add] at this
theorem Wd.old {w : World} (h : Wd w) : 0 < w.heap.size := by
  obtain ⟨o, ho, _⟩ := cells_of_cell (h.cell 0 rfl)
  exact (Array.getElem?_eq_some_iff.1 ho).1
theorem Wd.block {w w' : World} (h : Wd w) (hb : w'.heap[0]? = w.heap[0]?) : Wd w' := fun j v hv => (World.cell?_of_block (w := w) (a := ⟨0, 0 + j, none⟩) hb).trans (h j v hv)
theorem Wd.keeps {w w' : World} (h : Wd w) (k : Keeps w w') : Wd w' := h.block (Below.block k _ h.old)
theorem Wd.eqv {w w' : World} (h : Wd w) (k : Eqv w w') : Wd w' := h.block (by rw [k.heap])
theorem Wd.only {w w' : World} {c : Nat} (h : Wd w) (hn : 0 ≠ c) (k : Only c w w') : Wd w' := h.block (k.block _ h.old hn)
theorem pkfits4 (n : Int) (r : Bool) (w : World) (hW : Wd w) (hr : decide (0 ≤ n ∧ n ≤ 8191) = r) :
    Calls Tryd.prog 32 #[.int .i64 n, .int .i64 4] w fun e w' => e = .returned (.bool r) ∧ w = w' := by
  have c4 := hW.cell 4 rfl
  clear hW
  by_cases h0 : 0 ≤ n
  · by_cases h1 : n < 8192
    · obtain rfl : true = r := by rw [← hr]; symm; exact decide_eq_true ⟨h0, by omega⟩
      clear hr
      go_enter Tryd.func32, Tryd.ntmps32
      go_wp2
      go_ret
      exact ⟨rfl, rfl⟩
    · obtain rfl : false = r := by rw [← hr]; symm; exact decide_eq_false (by omega)
      clear hr
      go_enter Tryd.func32, Tryd.ntmps32
      go_wp2
      go_ret
      exact ⟨rfl, rfl⟩
  · obtain rfl : false = r := by rw [← hr]; symm; exact decide_eq_false (by omega)
    clear hr
    go_enter Tryd.func32, Tryd.ntmps32
    go_wp2
    go_ret
    exact ⟨rfl, rfl⟩
theorem pkfits7 (n : Int) (r : Bool) (w : World) (hW : Wd w) (hr : decide (0 ≤ n ∧ n ≤ 15) = r) :
    Calls Tryd.prog 32 #[.int .i64 n, .int .i64 7] w fun e w' => e = .returned (.bool r) ∧ w = w' := by
  have c7 := hW.cell 7 rfl
  clear hW
  by_cases h0 : 0 ≤ n
  · by_cases h1 : n < 16
    · obtain rfl : true = r := by rw [← hr]; symm; exact decide_eq_true ⟨h0, by omega⟩
      clear hr
      go_enter Tryd.func32, Tryd.ntmps32
      go_wp2
      go_ret
      exact ⟨rfl, rfl⟩
    · obtain rfl : false = r := by rw [← hr]; symm; exact decide_eq_false (by omega)
      clear hr
      go_enter Tryd.func32, Tryd.ntmps32
      go_wp2
      go_ret
      exact ⟨rfl, rfl⟩
  · obtain rfl : false = r := by rw [← hr]; symm; exact decide_eq_false (by omega)
    clear hr
    go_enter Tryd.func32, Tryd.ntmps32
    go_wp2
    go_ret
    exact ⟨rfl, rfl⟩
set_option maxHeartbeats 3200000 in
theorem pkcheck_any (p : Pkt) (w : World) (hW : Wd w) : Calls Tryd.prog 22 #[pkV p] w fun e w' => e = .returned (.int .i64 (ckP p)) ∧ Keeps w w' := by
  obtain ⟨pid, start, count, bad, body⟩ := p
  obtain ⟨b, hb⟩ : ∃ b, w.heap.size = b := ⟨_, rfl⟩
  obtain ⟨wA, hA⟩ : ∃ wX, w.alloc (.cells #[.int .i64 pid, .bool start, .int .i64 count, .bool bad, .string body] 32) = wX := ⟨_, rfl⟩
  have HA := Lib.hid (show CsAt b (pkC ⟨pid, start, count, bad, body⟩) wA by rw [← hb, ← hA]; exact CsAt.made w #[.int .i64 pid, .bool start, .int .i64 count, .bool bad, .string body] _ (by simp))
  have HK := Lib.hid (show Keeps w wA by rw [← hA]; exact (Keeps.refl w).alloc _)
  have HF4 := Lib.hid (fun r hr => pkfits4 pid r wA (hW.keeps HK.out) hr)
  have HF7 := Lib.hid (fun r hr => pkfits7 count r wA (hW.keeps HK.out) hr)
  have q0 := HA.out.cell 0 rfl
  have q2 := HA.out.cell 2 rfl
  have q4 := HA.out.cell 4 rfl
  clear hW
  by_cases h1 : 0 ≤ pid ∧ pid ≤ 8191
  · replace HF4 := Lib.hid (HF4.out true (decide_eq_true h1))
    by_cases h2 : 0 ≤ count ∧ count ≤ 15
    · replace HF7 := Lib.hid (HF7.out true (decide_eq_true h2))
      by_cases h3 : 184 < body.size
      · have hc : ckP ⟨pid, start, count, bad, body⟩ = 17 := ckP_full ⟨h1, h2⟩ h3
        have hi : (184 : Int) < (body.size : Int) := by omega
        rw [hc]
        clear hc h1 h2 h3
        go_enter Tryd.func22, Tryd.ntmps22
        go_wp2_with (first | (go_at_call 32; (with_reducible refine HF4.out.mono ?_); rintro _ _ ⟨rfl, rfl⟩) | (go_at_call 32; (with_reducible refine HF7.out.mono ?_); rintro _ _ ⟨rfl, rfl⟩))
        go_ret
        exact ⟨rfl, HK.out⟩
      · have hc : ckP ⟨pid, start, count, bad, body⟩ = 0 := ckP_ok ⟨h1, h2⟩ h3
        have hi : ¬ (184 : Int) < (body.size : Int) := by omega
        rw [hc]
        clear hc h1 h2 h3
        go_enter Tryd.func22, Tryd.ntmps22
        go_wp2_with (first | (go_at_call 32; (with_reducible refine HF4.out.mono ?_); rintro _ _ ⟨rfl, rfl⟩) | (go_at_call 32; (with_reducible refine HF7.out.mono ?_); rintro _ _ ⟨rfl, rfl⟩))
        go_ret
        exact ⟨rfl, HK.out⟩
    · replace HF7 := Lib.hid (HF7.out false (decide_eq_false h2))
      have hc : ckP ⟨pid, start, count, bad, body⟩ = 15 := ckP_no fun h => h2 h.2
      rw [hc]
      clear hc h1 h2
      go_enter Tryd.func22, Tryd.ntmps22
      go_wp2_with (first | (go_at_call 32; (with_reducible refine HF4.out.mono ?_); rintro _ _ ⟨rfl, rfl⟩) | (go_at_call 32; (with_reducible refine HF7.out.mono ?_); rintro _ _ ⟨rfl, rfl⟩))
      go_ret
      exact ⟨rfl, HK.out⟩
  · replace HF4 := Lib.hid (HF4.out false (decide_eq_false h1))
    have hc : ckP ⟨pid, start, count, bad, body⟩ = 15 := ckP_no fun h => h1 h.1
    rw [hc]
    clear hc h1
    go_enter Tryd.func22, Tryd.ntmps22
    go_wp2_with (first | (go_at_call 32; (with_reducible refine HF4.out.mono ?_); rintro _ _ ⟨rfl, rfl⟩))
    go_ret
    exact ⟨rfl, HK.out⟩
/-- How many bytes of an adaptation there are, and what is wrong with it. -/
theorem pkadapted_any (p n : Nat) (w : World) (q : Int × Int) (hq : (if p = 1 then ((0 : Int), (0 : Int)) else if (p = 2 ∧ n = 183) ∨ (p = 3 ∧ n < 183) then (1 + (n : Int), 0) else (0, 12)) = q) (hn : n ≤ 255) :
    Calls Tryd.prog 38 #[.int .i64 (p : Int), .int .i64 (n : Int)] w fun e w' => e = .returned (.tuple #[.int .i64 q.1, .int .i64 q.2]) ∧ w = w' := by
  by_cases h1 : p = 1
  · rw [if_pos h1] at hq
    subst hq h1
    go_enter Tryd.func38, Tryd.ntmps38
    go_wp2
    go_ret2
    exact ⟨rfl, rfl⟩
  have b1 : ((p : Int) == 1) = false := by rw [beq_eq_false_iff_ne]; omega
  rw [if_neg h1] at hq
  by_cases h2 : p = 2
  · by_cases h3 : n = 183
    · rw [if_pos (.inl ⟨h2, h3⟩)] at hq
      subst hq h2 h3
      clear h1 b1
      go_enter Tryd.func38, Tryd.ntmps38
      go_wp2
      go_ret2
      exact ⟨rfl, rfl⟩
    · rw [if_neg (by omega)] at hq
      have b3 : ((n : Int) == 183) = false := by rw [beq_eq_false_iff_ne]; omega
      subst hq h2
      clear h1 b1 h3
      go_enter Tryd.func38, Tryd.ntmps38
      go_wp2
      go_ret2
      exact ⟨rfl, rfl⟩
  have b2 : ((p : Int) == 2) = false := by rw [beq_eq_false_iff_ne]; omega
  by_cases h3 : p = 3
  · by_cases h4 : n < 183
    · rw [if_pos (.inr ⟨h3, h4⟩)] at hq
      have hi : (n : Int) < 183 := by omega
      subst hq h3
      clear h1 b1 h2 b2
      go_enter Tryd.func38, Tryd.ntmps38
      go_wp2
      go_ret2
      exact ⟨rfl, rfl⟩
    · rw [if_neg (by omega)] at hq
      have hi : ¬ (n : Int) < 183 := by omega
      subst hq h3
      clear h1 b1 h2 b2
      go_enter Tryd.func38, Tryd.ntmps38
      go_wp2
      go_ret2
      exact ⟨rfl, rfl⟩
  · rw [if_neg (by omega)] at hq
    have b3 : ((p : Int) == 3) = false := by rw [beq_eq_false_iff_ne]; omega
    subst hq
    clear h1 h2 h3
    go_enter Tryd.func38, Tryd.ntmps38
    go_wp2
    go_ret2
    exact ⟨rfl, rfl⟩
end Go.Proofs.YtifbomppgflkfaaDoor
