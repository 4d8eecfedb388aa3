/-
  What within, isSlot, isUnit, Delta, Window and Wake of package times answer, and the document's Slot, Unit and Delta: of all numbers. The memory stays as it was.
-/
import Derived.Test.YtofnokikjfmfgaaBas
import Derived.Test.YtofnokikjfmfgaaTmMath
namespace Go.Proofs.Ytofnokikjfmfgaa
open Go.RowKit Gf Tm
set_option maxRecDepth 100000
theorem tmwithin_any (n a b : Int) (r : Bool) (h : decide (a ≤ n ∧ n ≤ b) = r) (w : World) :
    Calls Try.prog 46 #[.int .i64 n, .int .i64 a, .int .i64 b] w fun e w' => e = .returned (.bool r) ∧ w = w' := by
  subst h
  by_cases h1 : a ≤ n
  · by_cases h2 : n ≤ b
    · rw [decide_eq_true (show a ≤ n ∧ n ≤ b from ⟨h1, h2⟩)]
      go_enter Try.func46, Try.ntmps46
      go_wp2
      go_ret
      exact ⟨rfl, rfl⟩
    · rw [decide_eq_false (fun x => h2 x.2)]
      go_enter Try.func46, Try.ntmps46
      go_wp2
      go_ret
      exact ⟨rfl, rfl⟩
  · rw [decide_eq_false (fun x => h1 x.1)]
    go_enter Try.func46, Try.ntmps46
    go_wp2
    go_ret
    exact ⟨rfl, rfl⟩
theorem tmslot_any (n : Int) (r : Bool) (h : decide (slot n) = r) (w : World) :
    Calls Try.prog 44 #[.int .i64 n] w fun e w' => e = .returned (.bool r) ∧ w = w' := by
  have HC := Lib.hid (tmwithin_any n 0 1099511627775 r (by rw [← h]; unfold slot; exact decide_eq_decide.2 ⟨fun x => ⟨x.1, by omega⟩, fun x => ⟨x.1, by omega⟩⟩))
  clear h
  go_enter Try.func44, Try.ntmps44
  go_wp2_with (go_at_call 46; refine (HC.out _).mono ?_; rintro _ _ ⟨rfl, rfl⟩)
  go_ret
  exact ⟨rfl, rfl⟩
theorem tmunit_any (n : Int) (r : Bool) (h : decide (unit n) = r) (w : World) :
    Calls Try.prog 45 #[.int .i64 n] w fun e w' => e = .returned (.bool r) ∧ w = w' := by
  have HC := Lib.hid (tmwithin_any n 1 1048576 r (by rw [← h]; rfl))
  clear h
  go_enter Try.func45, Try.ntmps45
  go_wp2_with (go_at_call 46; refine (HC.out _).mono ?_; rintro _ _ ⟨rfl, rfl⟩)
  go_ret
  exact ⟨rfl, rfl⟩
theorem rtmslot_any (n : Int) (r : Bool) (h : decide (slot n) = r) (w : World) :
    Calls Try.prog 22 #[.int .i64 n] w fun e w' => e = .returned (.bool r) ∧ w = w' := by
  subst h
  by_cases h1 : 0 ≤ n
  · by_cases h2 : n < 1099511627776
    · rw [decide_eq_true (show slot n from ⟨h1, h2⟩)]
      go_enter Try.func22, Try.ntmps22
      go_wp2
      go_ret
      exact ⟨rfl, rfl⟩
    · rw [decide_eq_false (show ¬ slot n from fun x => h2 x.2)]
      go_enter Try.func22, Try.ntmps22
      go_wp2
      go_ret
      exact ⟨rfl, rfl⟩
  · rw [decide_eq_false (show ¬ slot n from fun x => h1 x.1)]
    go_enter Try.func22, Try.ntmps22
    go_wp2
    go_ret
    exact ⟨rfl, rfl⟩
theorem rtmunit_any (n : Int) (r : Bool) (h : decide (unit n) = r) (w : World) :
    Calls Try.prog 23 #[.int .i64 n] w fun e w' => e = .returned (.bool r) ∧ w = w' := by
  subst h
  by_cases h1 : 1 ≤ n
  · by_cases h2 : n ≤ 1048576
    · rw [decide_eq_true (show unit n from ⟨h1, h2⟩)]
      go_enter Try.func23, Try.ntmps23
      go_wp2
      go_ret
      exact ⟨rfl, rfl⟩
    · rw [decide_eq_false (show ¬ unit n from fun x => h2 x.2)]
      go_enter Try.func23, Try.ntmps23
      go_wp2
      go_ret
      exact ⟨rfl, rfl⟩
  · rw [decide_eq_false (show ¬ unit n from fun x => h1 x.1)]
    go_enter Try.func23, Try.ntmps23
    go_wp2
    go_ret
    exact ⟨rfl, rfl⟩
end Go.Proofs.Ytofnokikjfmfgaa
