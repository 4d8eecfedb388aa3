/-
  For any two numbers PsiNewer returns true; nothing that was there is changed.
-/
import Derived.Test.YtebfihghfkcicaaRows
import Derived.Test.YtebfihghfkcicaaPsImp
import Derived.Test.YtebfihghfkcicaaPsApi
namespace Go.Proofs.Ytebfihghfkcicaa.psiNewer
open Go.ChangeShapes Go.WideShapes Go.ChangeAt Go.RowKit Gf Ps
open Go.ChangeMaps (open_string shut_string)
set_option maxRecDepth 100000
set_option linter.unusedVariables false
set_option maxHeartbeats 3200000 in
theorem c_same (A : PsApi) (a b x y : Int) (ha : (-9223372036854775808 ≤ a ∧ a ≤ 9223372036854775807)) (hb : (-9223372036854775808 ≤ b ∧ b ≤ 9223372036854775807)) (w : World) (hO : A.Ok w) (m1 : bits .and .i64 a 31 = x) (m2 : bits .and .i64 b 31 = y) (hx : 0 ≤ x ∧ x < 32) (hy : 0 ≤ y ∧ y < 32) (hab : nwI a b = false) (hba : nwI b a = false) (hxy : nwI x y = false) (h : x = y) :
    Calls Try.prog 5 #[.int .i64 a, .int .i64 b] w fun e w' => e = .returned (.bool true) ∧ Below w.heap.size w w' := by
  have HW := Lib.hid (fun W (k : Keeps w W) => awake17_any A W W (Keeps.refl W) (A.okK hO k))
  have NAB := Lib.hid (fun W (k : Keeps w W) => show Calls Try.prog 16 #[.int .i64 a, .int .i64 b] W fun e w' => e = .returned (.bool false) ∧ Keeps W w' by rw [← hab]; exact A.newer a b W ha hb (A.okK hO k))
  have NBA := Lib.hid (fun W (k : Keeps w W) => show Calls Try.prog 16 #[.int .i64 b, .int .i64 a] W fun e w' => e = .returned (.bool false) ∧ Keeps W w' by rw [← hba]; exact A.newer b a W hb ha (A.okK hO k))
  have NXY := Lib.hid (fun W (k : Keeps w W) => show Calls Try.prog 16 #[.int .i64 x, .int .i64 y] W fun e w' => e = .returned (.bool false) ∧ Keeps W w' by rw [← hxy]; exact A.newer x y W (by omega) (by omega) (A.okK hO k))
  have HN := Lib.hid (fun p q W (k : Keeps w W) h1 h2 => A.newer p q W h1 h2 (A.okK hO k))
  have HK := Lib.hid (Keeps.refl w)
  subst h
  clear hO ha hb hab hba hxy
  go_enter Try.func5, Try.ntmps5
  go_wp2_with (first | (go_at_call 16; (with_reducible refine (NAB.out _ HK.out).mono ?_); rintro _ w1 ⟨rfl, k1⟩; have HK := Lib.hid (HK.out.trans k1); clear k1) | (go_at_call 16; (with_reducible refine (NXY.out _ HK.out).mono ?_); rintro _ w1 ⟨rfl, k1⟩; have HK := Lib.hid (HK.out.trans k1); clear k1) | (go_at_call 16; (with_reducible refine (NBA.out _ HK.out).mono ?_); rintro _ w1 ⟨rfl, k1⟩; have HK := Lib.hid (HK.out.trans k1); clear k1) | (go_at_call 8; refine (HW.out _ HK.out).mono ?_; rintro _ w1 ⟨rfl, k1⟩; have HK := Lib.hid (HK.out.trans k1); clear k1))
  go_ret
  exact ⟨rfl, HK.out⟩
set_option maxHeartbeats 3200000 in
theorem c_half (A : PsApi) (a b x y : Int) (ha : (-9223372036854775808 ≤ a ∧ a ≤ 9223372036854775807)) (hb : (-9223372036854775808 ≤ b ∧ b ≤ 9223372036854775807)) (w : World) (hO : A.Ok w) (m1 : bits .and .i64 a 31 = x) (m2 : bits .and .i64 b 31 = y) (hx : 0 ≤ x ∧ x < 32) (hy : 0 ≤ y ∧ y < 32) (hab : nwI a b = false) (hba : nwI b a = false) (hxy : nwI x y = false) (h : (x + 16) % 32 = y) :
    Calls Try.prog 5 #[.int .i64 a, .int .i64 b] w fun e w' => e = .returned (.bool true) ∧ Below w.heap.size w w' := by
  have HW := Lib.hid (fun W (k : Keeps w W) => awake17_any A W W (Keeps.refl W) (A.okK hO k))
  have NAB := Lib.hid (fun W (k : Keeps w W) => show Calls Try.prog 16 #[.int .i64 a, .int .i64 b] W fun e w' => e = .returned (.bool false) ∧ Keeps W w' by rw [← hab]; exact A.newer a b W ha hb (A.okK hO k))
  have NBA := Lib.hid (fun W (k : Keeps w W) => show Calls Try.prog 16 #[.int .i64 b, .int .i64 a] W fun e w' => e = .returned (.bool false) ∧ Keeps W w' by rw [← hba]; exact A.newer b a W hb ha (A.okK hO k))
  have NXY := Lib.hid (fun W (k : Keeps w W) => show Calls Try.prog 16 #[.int .i64 x, .int .i64 y] W fun e w' => e = .returned (.bool false) ∧ Keeps W w' by rw [← hxy]; exact A.newer x y W (by omega) (by omega) (A.okK hO k))
  have HN := Lib.hid (fun p q W (k : Keeps w W) h1 h2 => A.newer p q W h1 h2 (A.okK hO k))
  have HK := Lib.hid (Keeps.refl w)
  have h1 : (x == y) = false := by rw [beq_eq_false_iff_ne]; omega
  have h2 : (x + 16).tmod 32 = y := by rw [Int.tmod_eq_emod_of_nonneg (by omega)]; exact h
  have wr1 := wrapI (a := x + 16) (by omega) (by omega)
  clear h
  clear hO ha hb hab hba hxy
  go_enter Try.func5, Try.ntmps5
  go_wp2_with (first | (go_at_call 16; (with_reducible refine (NAB.out _ HK.out).mono ?_); rintro _ w1 ⟨rfl, k1⟩; have HK := Lib.hid (HK.out.trans k1); clear k1) | (go_at_call 16; (with_reducible refine (NXY.out _ HK.out).mono ?_); rintro _ w1 ⟨rfl, k1⟩; have HK := Lib.hid (HK.out.trans k1); clear k1) | (go_at_call 16; (with_reducible refine (NBA.out _ HK.out).mono ?_); rintro _ w1 ⟨rfl, k1⟩; have HK := Lib.hid (HK.out.trans k1); clear k1) | (go_at_call 8; refine (HW.out _ HK.out).mono ?_; rintro _ w1 ⟨rfl, k1⟩; have HK := Lib.hid (HK.out.trans k1); clear k1))
  go_ret
  exact ⟨rfl, HK.out⟩
def nwRel (X : Nat) (w : World) (n i : Value) (wr : World) : Prop := ∃ k N : Nat, k ≤ 32 ∧ N = cnN X k ∧ n = .int .i64 (N : Int) ∧ i = .int .i64 (k : Int) ∧ Keeps w wr
set_option maxHeartbeats 3200000 in
theorem c_one (A : PsApi) (a b x y : Int) (ha : (-9223372036854775808 ≤ a ∧ a ≤ 9223372036854775807)) (hb : (-9223372036854775808 ≤ b ∧ b ≤ 9223372036854775807)) (w : World) (hO : A.Ok w) (m1 : bits .and .i64 a 31 = x) (m2 : bits .and .i64 b 31 = y) (hx : 0 ≤ x ∧ x < 32) (hy : 0 ≤ y ∧ y < 32) (hab : nwI a b = true) (hba : nwI b a = false) (hxy : nwI x y = true) (h1 : (x == y) = false) (h2 : ¬ (x + 16) % 32 = y) :
    Calls Try.prog 5 #[.int .i64 a, .int .i64 b] w fun e w' => e = .returned (.bool true) ∧ Below w.heap.size w w' := by
  have HW := Lib.hid (fun W (k : Keeps w W) => awake17_any A W W (Keeps.refl W) (A.okK hO k))
  have NAB := Lib.hid (fun W (k : Keeps w W) => show Calls Try.prog 16 #[.int .i64 a, .int .i64 b] W fun e w' => e = .returned (.bool true) ∧ Keeps W w' by rw [← hab]; exact A.newer a b W ha hb (A.okK hO k))
  have NBA := Lib.hid (fun W (k : Keeps w W) => show Calls Try.prog 16 #[.int .i64 b, .int .i64 a] W fun e w' => e = .returned (.bool false) ∧ Keeps W w' by rw [← hba]; exact A.newer b a W hb ha (A.okK hO k))
  have NXY := Lib.hid (fun W (k : Keeps w W) => show Calls Try.prog 16 #[.int .i64 x, .int .i64 y] W fun e w' => e = .returned (.bool true) ∧ Keeps W w' by rw [← hxy]; exact A.newer x y W (by omega) (by omega) (A.okK hO k))
  have HN := Lib.hid (fun p q W (k : Keeps w W) h1 h2 => A.newer p q W h1 h2 (A.okK hO k))
  have HK := Lib.hid (Keeps.refl w)
  obtain ⟨m, hm⟩ : ∃ m, (x + 16) % 32 = m := ⟨_, rfl⟩
  have h3 : (x + 16).tmod 32 = m := by rw [Int.tmod_eq_emod_of_nonneg (by omega)]; exact hm
  have h4 : (m == y) = false := by rw [beq_eq_false_iff_ne, ← hm]; exact h2
  have wr1 := wrapI (a := x + 16) (by omega) (by omega)
  have wr2 := wrapI (a := x + 1) (by omega) (by omega)
  obtain ⟨x1, hx1⟩ : ∃ x1, (x + 1) % 32 = x1 := ⟨_, rfl⟩
  have h5 : (x + 1).tmod 32 = x1 := by rw [Int.tmod_eq_emod_of_nonneg (by omega)]; exact hx1
  have hnx : nwI x x1 = true := by rw [← hx1]; exact nwI_next x
  have NX1 := Lib.hid (fun W (k : Keeps w W) => show Calls Try.prog 16 #[.int .i64 x, .int .i64 x1] W fun e w' => e = .returned (.bool true) ∧ Keeps W w' by rw [← hnx]; exact A.newer x x1 W (by omega) (by omega) (A.okK hO k))
  obtain ⟨X, hX⟩ : ∃ X : Nat, (X : Int) = x := ⟨x.toNat, by omega⟩
  have HX := Lib.hid hX
  have HXL := Lib.hid (show X < 32 by omega)
  clear h2 hm hx1 hX hnx
  clear hO ha hb hab hba hxy
  go_enter Try.func5, Try.ntmps5
  go_wp2_with (first | (go_at_call 16; (with_reducible refine (NAB.out _ HK.out).mono ?_); rintro _ w1 ⟨rfl, k1⟩; have HK := Lib.hid (HK.out.trans k1); clear k1) | (go_at_call 16; (with_reducible refine (NXY.out _ HK.out).mono ?_); rintro _ w1 ⟨rfl, k1⟩; have HK := Lib.hid (HK.out.trans k1); clear k1))
  go_loopw [7, 8] (fun n i wr => nwRel X w n i wr) (fun _ i _ => 32 - (intOf i).toNat)
  case atStart => exact ⟨0, 0, by omega, rfl, rfl, rfl, HK.out⟩
  case round =>
    obtain ⟨k, N, hk, hN, rfl, rfl, hkw⟩ := hrel
    have HK := Lib.hid hkw
    have hNk : N ≤ k := by rw [hN]; exact cnN_le X k
    have HN0 := Lib.hid hN
    clear hN hkw
    by_cases hlt : k < 32
    · have hlI : (k : Int) < 32 := by omega
      have wr4 := wrapI (a := (k : Int) + 1) (by omega) (by omega)
      have wr5 := wrapI (a := (N : Int) + 1) (by omega) (by omega)
      obtain ⟨K, hK0⟩ : ∃ K : Int, (k : Int) = K := ⟨_, rfl⟩
      by_cases hw : nwI x (k : Int) = true
      · obtain ⟨hb0, hb5⟩ := nwI_back hw
        have hn1 : nwI ((X : Nat) : Int) (k : Int) = true := by rw [HX.out]; exact hw
        have NXK := Lib.hid (fun W (q : Keeps w W) => show Calls Try.prog 16 #[.int .i64 x, .int .i64 (k : Int)] W fun e w' => e = .returned (.bool true) ∧ Keeps W w' by rw [← hw]; exact HN.out x (k : Int) W q (by omega) (by omega))
        have NKX := Lib.hid (fun W (q : Keeps w W) => show Calls Try.prog 16 #[.int .i64 (k : Int), .int .i64 x] W fun e w' => e = .returned (.bool false) ∧ Keeps W w' by rw [← hb0]; exact HN.out (k : Int) x W q (by omega) (by omega))
        have HS := Lib.hid (show N + 1 = cnN X (k + 1) by show N + 1 = cnN X k + (if nwI (X : Int) (k : Int) then 1 else 0); rw [← HN0.out, hn1]; rfl)
        have wr6 := wrapI (a := x + ((N : Int) + 1)) (by omega) (by omega)
        have wr7 := wrapI (a := (k : Int) - x) (by omega) (by omega)
        have wr8 := wrapI (a := (k : Int) - x + 32) (by omega) (by omega)
        obtain ⟨R, hR⟩ : ∃ R, (x + ((N : Int) + 1)) % 32 = R := ⟨_, rfl⟩
        have r1 : (x + ((N : Int) + 1)).tmod 32 = R := by rw [Int.tmod_eq_emod_of_nonneg (by omega)]; exact hR
        obtain ⟨D, hD⟩ : ∃ D, ((k : Int) - x + 32) % 32 = D := ⟨_, rfl⟩
        have d1 : ((k : Int) - x + 32).tmod 32 = D := by rw [Int.tmod_eq_emod_of_nonneg (by omega)]; exact hD
        have d2 : ¬ (15 : Int) < D := by omega
        clear hb0 hb5 hR hD hw hn1 hK0
        by_cases hc : (k : Int) = R
        · have hc2 : ((k : Int) == R) = true := by rw [beq_iff_eq]; exact hc
          clear hc
          go_wp2_with (first | (go_at_call 16; (with_reducible refine (NXK.out _ HK.out).mono ?_); rintro _ w1 ⟨rfl, k1⟩; have HK := Lib.hid (HK.out.trans k1); clear k1) | (go_at_call 16; (with_reducible refine (NKX.out _ HK.out).mono ?_); rintro _ w1 ⟨rfl, k1⟩; have HK := Lib.hid (HK.out.trans k1); clear k1))
          go_roundw
          all_goals first | exact ⟨⟨k + 1, N + 1, by omega, HS.out, by go_num, by go_num, HK.out⟩, by simp [intOf]; omega⟩ | exact ⟨k + 1, N + 1, by omega, HS.out, by go_num, by go_num, HK.out⟩ | (simp [intOf]; omega)
        · have hc2 : ((k : Int) == R) = false := by rw [beq_eq_false_iff_ne]; exact hc
          clear hc
          go_wp2_with (first | (go_at_call 16; (with_reducible refine (NXK.out _ HK.out).mono ?_); rintro _ w1 ⟨rfl, k1⟩; have HK := Lib.hid (HK.out.trans k1); clear k1) | (go_at_call 16; (with_reducible refine (NKX.out _ HK.out).mono ?_); rintro _ w1 ⟨rfl, k1⟩; have HK := Lib.hid (HK.out.trans k1); clear k1))
          go_roundw
          all_goals first | exact ⟨⟨k + 1, N + 1, by omega, HS.out, by go_num, by go_num, HK.out⟩, by simp [intOf]; omega⟩ | exact ⟨k + 1, N + 1, by omega, HS.out, by go_num, by go_num, HK.out⟩ | (simp [intOf]; omega)
      · have hw0 : nwI x (k : Int) = false := by simpa using hw
        have hn1 : nwI ((X : Nat) : Int) (k : Int) = false := by rw [HX.out]; exact hw0
        have NXK := Lib.hid (fun W (q : Keeps w W) => show Calls Try.prog 16 #[.int .i64 x, .int .i64 (k : Int)] W fun e w' => e = .returned (.bool false) ∧ Keeps W w' by rw [← hw0]; exact HN.out x (k : Int) W q (by omega) (by omega))
        have HS := Lib.hid (show N = cnN X (k + 1) by show N = cnN X k + (if nwI (X : Int) (k : Int) then 1 else 0); rw [← HN0.out, hn1]; rfl)
        clear hw hw0 hn1 hK0
        go_wp2_with (go_at_call 16; (with_reducible refine (NXK.out _ HK.out).mono ?_); rintro _ w1 ⟨rfl, k1⟩; have HK := Lib.hid (HK.out.trans k1); clear k1)
        go_roundw
        case rel => exact ⟨k + 1, N, by omega, HS.out, rfl, by go_num, HK.out⟩
        case measure => simp [intOf]; omega
    · have hlI : ¬ (k : Int) < 32 := by omega
      obtain rfl : k = 32 := by omega
      have hN15 : N = 15 := by rw [HN0.out]; exact cnN_all X HXL.out
      subst hN15
      go_wp2_with (first | (go_at_call 16; (with_reducible refine (NX1.out _ HK.out).mono ?_); rintro _ w1 ⟨rfl, k1⟩; have HK := Lib.hid (HK.out.trans k1); clear k1) | (go_at_call 16; (with_reducible refine (NAB.out _ HK.out).mono ?_); rintro _ w1 ⟨rfl, k1⟩; have HK := Lib.hid (HK.out.trans k1); clear k1) | (go_at_call 16; (with_reducible refine (NBA.out _ HK.out).mono ?_); rintro _ w1 ⟨rfl, k1⟩; have HK := Lib.hid (HK.out.trans k1); clear k1) | (go_at_call 8; refine (HW.out _ HK.out).mono ?_; rintro _ w1 ⟨rfl, k1⟩; have HK := Lib.hid (HK.out.trans k1); clear k1))
      go_ret
      exact ⟨rfl, HK.out⟩
set_option maxHeartbeats 3200000 in
theorem c_two (A : PsApi) (a b x y : Int) (ha : (-9223372036854775808 ≤ a ∧ a ≤ 9223372036854775807)) (hb : (-9223372036854775808 ≤ b ∧ b ≤ 9223372036854775807)) (w : World) (hO : A.Ok w) (m1 : bits .and .i64 a 31 = x) (m2 : bits .and .i64 b 31 = y) (hx : 0 ≤ x ∧ x < 32) (hy : 0 ≤ y ∧ y < 32) (hab : nwI a b = false) (hba : nwI b a = true) (hxy : nwI x y = false) (h1 : (x == y) = false) (h2 : ¬ (x + 16) % 32 = y) :
    Calls Try.prog 5 #[.int .i64 a, .int .i64 b] w fun e w' => e = .returned (.bool true) ∧ Below w.heap.size w w' := by
  have HW := Lib.hid (fun W (k : Keeps w W) => awake17_any A W W (Keeps.refl W) (A.okK hO k))
  have NAB := Lib.hid (fun W (k : Keeps w W) => show Calls Try.prog 16 #[.int .i64 a, .int .i64 b] W fun e w' => e = .returned (.bool false) ∧ Keeps W w' by rw [← hab]; exact A.newer a b W ha hb (A.okK hO k))
  have NBA := Lib.hid (fun W (k : Keeps w W) => show Calls Try.prog 16 #[.int .i64 b, .int .i64 a] W fun e w' => e = .returned (.bool true) ∧ Keeps W w' by rw [← hba]; exact A.newer b a W hb ha (A.okK hO k))
  have NXY := Lib.hid (fun W (k : Keeps w W) => show Calls Try.prog 16 #[.int .i64 x, .int .i64 y] W fun e w' => e = .returned (.bool false) ∧ Keeps W w' by rw [← hxy]; exact A.newer x y W (by omega) (by omega) (A.okK hO k))
  have HN := Lib.hid (fun p q W (k : Keeps w W) h1 h2 => A.newer p q W h1 h2 (A.okK hO k))
  have HK := Lib.hid (Keeps.refl w)
  obtain ⟨m, hm⟩ : ∃ m, (x + 16) % 32 = m := ⟨_, rfl⟩
  have h3 : (x + 16).tmod 32 = m := by rw [Int.tmod_eq_emod_of_nonneg (by omega)]; exact hm
  have h4 : (m == y) = false := by rw [beq_eq_false_iff_ne, ← hm]; exact h2
  have wr1 := wrapI (a := x + 16) (by omega) (by omega)
  have wr2 := wrapI (a := x + 1) (by omega) (by omega)
  obtain ⟨x1, hx1⟩ : ∃ x1, (x + 1) % 32 = x1 := ⟨_, rfl⟩
  have h5 : (x + 1).tmod 32 = x1 := by rw [Int.tmod_eq_emod_of_nonneg (by omega)]; exact hx1
  have hnx : nwI x x1 = true := by rw [← hx1]; exact nwI_next x
  have NX1 := Lib.hid (fun W (k : Keeps w W) => show Calls Try.prog 16 #[.int .i64 x, .int .i64 x1] W fun e w' => e = .returned (.bool true) ∧ Keeps W w' by rw [← hnx]; exact A.newer x x1 W (by omega) (by omega) (A.okK hO k))
  obtain ⟨X, hX⟩ : ∃ X : Nat, (X : Int) = x := ⟨x.toNat, by omega⟩
  have HX := Lib.hid hX
  have HXL := Lib.hid (show X < 32 by omega)
  clear h2 hm hx1 hX hnx
  clear hO ha hb hab hba hxy
  go_enter Try.func5, Try.ntmps5
  go_wp2_with (first | (go_at_call 16; (with_reducible refine (NAB.out _ HK.out).mono ?_); rintro _ w1 ⟨rfl, k1⟩; have HK := Lib.hid (HK.out.trans k1); clear k1) | (go_at_call 16; (with_reducible refine (NXY.out _ HK.out).mono ?_); rintro _ w1 ⟨rfl, k1⟩; have HK := Lib.hid (HK.out.trans k1); clear k1))
  go_loopw [7, 8] (fun n i wr => nwRel X w n i wr) (fun _ i _ => 32 - (intOf i).toNat)
  case atStart => exact ⟨0, 0, by omega, rfl, rfl, rfl, HK.out⟩
  case round =>
    obtain ⟨k, N, hk, hN, rfl, rfl, hkw⟩ := hrel
    have HK := Lib.hid hkw
    have hNk : N ≤ k := by rw [hN]; exact cnN_le X k
    have HN0 := Lib.hid hN
    clear hN hkw
    by_cases hlt : k < 32
    · have hlI : (k : Int) < 32 := by omega
      have wr4 := wrapI (a := (k : Int) + 1) (by omega) (by omega)
      have wr5 := wrapI (a := (N : Int) + 1) (by omega) (by omega)
      obtain ⟨K, hK0⟩ : ∃ K : Int, (k : Int) = K := ⟨_, rfl⟩
      by_cases hw : nwI x (k : Int) = true
      · obtain ⟨hb0, hb5⟩ := nwI_back hw
        have hn1 : nwI ((X : Nat) : Int) (k : Int) = true := by rw [HX.out]; exact hw
        have NXK := Lib.hid (fun W (q : Keeps w W) => show Calls Try.prog 16 #[.int .i64 x, .int .i64 (k : Int)] W fun e w' => e = .returned (.bool true) ∧ Keeps W w' by rw [← hw]; exact HN.out x (k : Int) W q (by omega) (by omega))
        have NKX := Lib.hid (fun W (q : Keeps w W) => show Calls Try.prog 16 #[.int .i64 (k : Int), .int .i64 x] W fun e w' => e = .returned (.bool false) ∧ Keeps W w' by rw [← hb0]; exact HN.out (k : Int) x W q (by omega) (by omega))
        have HS := Lib.hid (show N + 1 = cnN X (k + 1) by show N + 1 = cnN X k + (if nwI (X : Int) (k : Int) then 1 else 0); rw [← HN0.out, hn1]; rfl)
        have wr6 := wrapI (a := x + ((N : Int) + 1)) (by omega) (by omega)
        have wr7 := wrapI (a := (k : Int) - x) (by omega) (by omega)
        have wr8 := wrapI (a := (k : Int) - x + 32) (by omega) (by omega)
        obtain ⟨R, hR⟩ : ∃ R, (x + ((N : Int) + 1)) % 32 = R := ⟨_, rfl⟩
        have r1 : (x + ((N : Int) + 1)).tmod 32 = R := by rw [Int.tmod_eq_emod_of_nonneg (by omega)]; exact hR
        obtain ⟨D, hD⟩ : ∃ D, ((k : Int) - x + 32) % 32 = D := ⟨_, rfl⟩
        have d1 : ((k : Int) - x + 32).tmod 32 = D := by rw [Int.tmod_eq_emod_of_nonneg (by omega)]; exact hD
        have d2 : ¬ (15 : Int) < D := by omega
        clear hb0 hb5 hR hD hw hn1 hK0
        by_cases hc : (k : Int) = R
        · have hc2 : ((k : Int) == R) = true := by rw [beq_iff_eq]; exact hc
          clear hc
          go_wp2_with (first | (go_at_call 16; (with_reducible refine (NXK.out _ HK.out).mono ?_); rintro _ w1 ⟨rfl, k1⟩; have HK := Lib.hid (HK.out.trans k1); clear k1) | (go_at_call 16; (with_reducible refine (NKX.out _ HK.out).mono ?_); rintro _ w1 ⟨rfl, k1⟩; have HK := Lib.hid (HK.out.trans k1); clear k1))
          go_roundw
          all_goals first | exact ⟨⟨k + 1, N + 1, by omega, HS.out, by go_num, by go_num, HK.out⟩, by simp [intOf]; omega⟩ | exact ⟨k + 1, N + 1, by omega, HS.out, by go_num, by go_num, HK.out⟩ | (simp [intOf]; omega)
        · have hc2 : ((k : Int) == R) = false := by rw [beq_eq_false_iff_ne]; exact hc
          clear hc
          go_wp2_with (first | (go_at_call 16; (with_reducible refine (NXK.out _ HK.out).mono ?_); rintro _ w1 ⟨rfl, k1⟩; have HK := Lib.hid (HK.out.trans k1); clear k1) | (go_at_call 16; (with_reducible refine (NKX.out _ HK.out).mono ?_); rintro _ w1 ⟨rfl, k1⟩; have HK := Lib.hid (HK.out.trans k1); clear k1))
          go_roundw
          all_goals first | exact ⟨⟨k + 1, N + 1, by omega, HS.out, by go_num, by go_num, HK.out⟩, by simp [intOf]; omega⟩ | exact ⟨k + 1, N + 1, by omega, HS.out, by go_num, by go_num, HK.out⟩ | (simp [intOf]; omega)
      · have hw0 : nwI x (k : Int) = false := by simpa using hw
        have hn1 : nwI ((X : Nat) : Int) (k : Int) = false := by rw [HX.out]; exact hw0
        have NXK := Lib.hid (fun W (q : Keeps w W) => show Calls Try.prog 16 #[.int .i64 x, .int .i64 (k : Int)] W fun e w' => e = .returned (.bool false) ∧ Keeps W w' by rw [← hw0]; exact HN.out x (k : Int) W q (by omega) (by omega))
        have HS := Lib.hid (show N = cnN X (k + 1) by show N = cnN X k + (if nwI (X : Int) (k : Int) then 1 else 0); rw [← HN0.out, hn1]; rfl)
        clear hw hw0 hn1 hK0
        go_wp2_with (go_at_call 16; (with_reducible refine (NXK.out _ HK.out).mono ?_); rintro _ w1 ⟨rfl, k1⟩; have HK := Lib.hid (HK.out.trans k1); clear k1)
        go_roundw
        case rel => exact ⟨k + 1, N, by omega, HS.out, rfl, by go_num, HK.out⟩
        case measure => simp [intOf]; omega
    · have hlI : ¬ (k : Int) < 32 := by omega
      obtain rfl : k = 32 := by omega
      have hN15 : N = 15 := by rw [HN0.out]; exact cnN_all X HXL.out
      subst hN15
      go_wp2_with (first | (go_at_call 16; (with_reducible refine (NX1.out _ HK.out).mono ?_); rintro _ w1 ⟨rfl, k1⟩; have HK := Lib.hid (HK.out.trans k1); clear k1) | (go_at_call 16; (with_reducible refine (NAB.out _ HK.out).mono ?_); rintro _ w1 ⟨rfl, k1⟩; have HK := Lib.hid (HK.out.trans k1); clear k1) | (go_at_call 16; (with_reducible refine (NBA.out _ HK.out).mono ?_); rintro _ w1 ⟨rfl, k1⟩; have HK := Lib.hid (HK.out.trans k1); clear k1) | (go_at_call 8; refine (HW.out _ HK.out).mono ?_; rintro _ w1 ⟨rfl, k1⟩; have HK := Lib.hid (HK.out.trans k1); clear k1))
      go_ret
      exact ⟨rfl, HK.out⟩
theorem core (A : PsApi) (a b : Int) (ha : (-9223372036854775808 ≤ a ∧ a ≤ 9223372036854775807)) (hb : (-9223372036854775808 ≤ b ∧ b ≤ 9223372036854775807)) (w : World) (hO : A.Ok w) :
    Calls Try.prog 5 #[.int .i64 a, .int .i64 b] w fun e w' => e = .returned (.bool true) ∧ Below w.heap.size w w' := by
  obtain ⟨x, hx⟩ : ∃ x, a % 32 = x := ⟨_, rfl⟩
  obtain ⟨y, hy⟩ : ∃ y, b % 32 = y := ⟨_, rfl⟩
  have m1 := (and31 a).trans hx
  have m2 := (and31 b).trans hy
  have e1 : nwI x y = nwI a b := by rw [← hx, ← hy]; exact nwI_mod a b
  have e2 : nwI y x = nwI b a := by rw [← hx, ← hy]; exact nwI_mod b a
  have bx : 0 ≤ x ∧ x < 32 := by omega
  have by' : 0 ≤ y ∧ y < 32 := by omega
  by_cases h : x = y
  · have hs := nwI_same (x := x) (y := y) (.inl h)
    exact c_same A a b x y ha hb w hO m1 m2 bx by' (e1.symm.trans hs.1) (e2.symm.trans hs.2) hs.1 h
  by_cases h2 : (x + 16) % 32 = y
  · have hs := nwI_same (x := x) (y := y) (.inr h2)
    exact c_half A a b x y ha hb w hO m1 m2 bx by' (e1.symm.trans hs.1) (e2.symm.trans hs.2) hs.1 h2
  have ho := nwI_other bx by' h h2
  have h1 : (x == y) = false := by rw [beq_eq_false_iff_ne]; exact h
  cases hp : nwI x y with
  | true =>
    rw [hp] at ho
    exact c_one A a b x y ha hb w hO m1 m2 bx by' (e1.symm.trans hp) (e2.symm.trans ho) hp h1 h2
  | false =>
    rw [hp] at ho
    exact c_two A a b x y ha hb w hO m1 m2 bx by' (e1.symm.trans hp) (e2.symm.trans ho) hp h1 h2
theorem walk (a : Int) (ha : (Lit.int .i64 a).wf = true) (b : Int) (hb : (Lit.int .i64 b).wf = true) (w : World) :
    Calls Try.prog 5 #[.int .i64 a, .int .i64 b] w fun e w' => e = .returned (.bool true) ∧ Below w.heap.size w w' :=
  core psiApi a b (bounds_i64 ha) (bounds_i64 hb) w (psiOk w)
theorem own : ownKnob Try.prog.godebug = none := by kernel_rfl
theorem laidOut : laidOutB Try.prog = true := by kernel_rfl
set_option maxRecDepth 100000 in
theorem lifted (os : Os) (started : os.Started) (H : Type) (enc : TypeId × Value → H) :
    ReturnsInHanded {} Try.checked os 5 .any (Rows.psiNewerSpec.pre6 enc Try.prog Try.f5 Rows.psiNewerRow.domain false) (Rows.psiNewerSpec.post enc Try.prog Try.f5 false true false false) := by
  refine returnsInHanded_of_change (C := Try.checked) own started (by kernel_rfl) Try.func5
    (ChangeSpec.witness6 (enc := enc) (C := Try.checked) false ⟨#[], #[.int .i64 0, .int .i64 0], []⟩ 8 (by kernel_rfl) (by kernel_rfl) (by kernel_rfl) (by kernel_rfl)) ?_
  intro W base args ds gs before hval0 hW hcnd _
  have hval : ∀ (j : Nat) t v, Try.f5.params[j]? = some t → args[j]? = some v → Value.okWide Try.prog W .any base t v := hval0
  have hW' := hW
  obtain ⟨p, q, hA0, hV, rfl, hfz, hnd⟩ := hW
  have hA : DataW.TrodAll enc Try.prog W 0 (fun _ => true) true Try.f5.params.toList args.toList ds p := hA0
  rw [Try.params5] at hA hval
  obtain ⟨v0, vs0, d0, ds0, p0, q0, hargs, rfl, rfl, h0, r0⟩ := trodAll_cons hA
  obtain ⟨v1, vs1, d1, ds1, p1, q1, rfl, rfl, rfl, h1, r1⟩ := trodAll_cons r0
  obtain ⟨rfl, rfl, rfl⟩ := trodAll_nil r1
  obtain rfl : args = #[v0, v1] := by cases args; simp_all
  obtain ⟨rfl, rfl⟩ := trodVars_none hV
  obtain ⟨a0, rfl, rfl, rfl, w0⟩ := open_int Try.underlying3 (hval 0 3 v0 rfl rfl) h0
  obtain ⟨a1, rfl, rfl, rfl, w1⟩ := open_int Try.underlying3 (hval 1 3 v1 rfl rfl) h1
  clear hA0 hval0
  refine (walk a0 w0 a1 w1 W).mono fun e W' ⟨he, bel⟩ => ?_
  subst he
  exact ⟨_, rfl, _, _, _, [], _, [], hW', trodAll_mk1 (shut_bool Try.underlying4 _), (trodAll_cons_mk (shut_int Try.underlying3 w0) (trodAll_cons_mk (shut_int Try.underlying3 w1) trodAll_mk0)), rfl, bel.frame _, fun h => by cases h⟩

theorem over : Rows.psiNewerRow.holds Try.pinned (OpenSpec.ofChange Rows.psiNewerSpec) :=
  OpenClaim.holds_of_wide 5 Try.f5 rfl rfl rfl rfl rfl rfl rfl ⟨rfl, rfl, rfl, rfl, rfl⟩ rfl rfl rfl rfl rfl (by kernel_rfl) Try.func5 (by kernel_rfl)
    (of_decide_eq_true (by kernel_rfl)) (by unfold Func.isWrapper; first | (rw [if_pos (by decide +kernel)]; kernel_rfl) | (rw [if_neg (by decide +kernel)]; exact ⟨rfl, rfl⟩))
    (fun os started H enc _ => lifted os started H enc)

theorem proved : Rows.PsiNewerSaid := over
#print axioms proved
end Go.Proofs.Ytebfihghfkcicaa.psiNewer
