/-
  For any two strings PolyShifts returns true: products by x, factors, and degrees of sums; nothing that was there is changed. No condition.
-/
import Derived.Test.YthaiamagdifhjaaRows
import Derived.Test.YthaiamagdifhjaaPolyLaw
import Derived.OpenShut
import Derived.ShutString
import Derived.ChangeOld
import Derived.Carry
import Derived.WalkLawsBesides
namespace Go.Proofs.Ythaiamagdifhjaa.polyShifts
open Go.ChangeShapes Go.WideShapes Go.ChangeAt Go.RowKit Gf
open Go.ChangeMaps (open_string shut_string)
set_option linter.unusedVariables false
set_option maxRecDepth 100000 in
set_option maxHeartbeats 4000000 in
theorem off (a b : ByteArray) (w : World) (hf : fewB a b { data := #[] } = false) :
    Calls Try.prog 9 #[.string a, .string b] w fun e w' => e = .returned (.bool true) ∧ Keeps w w' := by
  go_enter Try.func9, Try.ntmps9
  go_wp2_with fail
  refine (few_any _ _ _ _).mono ?_
  rintro e wz ⟨rfl, rfl⟩
  rw [hf]
  go_wp2_with fail
  refine (awake2_any w _ (Keeps.refl w)).mono ?_
  rintro e wk1 ⟨rfl, hk1⟩
  go_wp2
  go_ret
  exact ⟨rfl, hk1⟩
theorem zero_cat (l : List UInt8) : ((({ data := #[0] } : ByteArray) ++ st l).toList) = 0 :: l := by
  rw [show (({ data := #[0] } : ByteArray) ++ st l) = st (0 :: l) from ?_, st_toList]
  apply ByteArray.ext
  rw [ByteArray.data_append]; simp [st]
set_option maxRecDepth 100000 in
set_option maxHeartbeats 4000000 in
theorem core11lt (a b : ByteArray) (w : World) (hf : fewB a b { data := #[] } = true) (ha : trim (ls a) = []) (hx : pmul (ls a) [0, 1] = []) (hb : trim (ls b) = []) (hm : (trim (ls a)).length < (trim (ls b)).length) :
    Calls Try.prog 9 #[.string a, .string b] w fun e w' => e = .returned (.bool true) ∧ Keeps w w' := by
  rw [hb] at hm; simp at hm
set_option maxRecDepth 100000 in
set_option maxHeartbeats 4000000 in
theorem core11ge (a b : ByteArray) (w : World) (hf : fewB a b { data := #[] } = true) (ha : trim (ls a) = []) (hx : pmul (ls a) [0, 1] = []) (hb : trim (ls b) = []) (hm : (trim (ls b)).length ≤ (trim (ls a)).length) :
    Calls Try.prog 9 #[.string a, .string b] w fun e w' => e = .returned (.bool true) ∧ Keeps w w' := by
  obtain ⟨sa, sb, sc⟩ := few_true hf
  have la := ls_len sa
  have lb := ls_len sb
  have lc := ls_len sc
  have Zab := Lib.hid (show (st (padd (ls a) (ls b))).size ≤ 100000 by rw [st_size]; have := padd_len (ls a) (ls b); omega)
  have Mab := Lib.hid (show (st (pmul (ls a) (ls b))).size ≤ 100000 by rw [st_size]; have := pmul_len (ls a) (ls b); omega)
  have l0 := trim_le (ls a)
  have l1 := trim_le (ls b)
  have l2 := padd_length (ls a) (ls b)
  have l3 : (padd (ls a) (ls b)).length ≤ (trim (ls a)).length := by omega
  clear l2
  have HX := Lib.hid hx
  have HB := Lib.hid hb
  have hz := ha
  have n0 : (trim (ls a)).length = 0 := by rw [ha]; rfl
  have hz2 := hb
  have n1 : (trim (ls b)).length = 0 := by rw [hb]; rfl
  clear hx
  have hap := zero_cat
  have hst := st_toList
  have hsz := st_size
  go_enter Try.func9, Try.ntmps9
  go_wp2_with fail
  refine (few_any _ _ _ _).mono ?_
  rintro e wz ⟨rfl, rfl⟩
  rw [hf]
  go_wp2_with fail
  refine (ptrim_any w _ _ (by omega) (Keeps.refl w)).mono ?_
  rintro e wk1 ⟨rfl, hk1⟩
  go_wp2_with fail
  refine (pmul_any w _ _ _ (by omega) (by decide) hk1).mono ?_
  rintro e wk2 ⟨rfl, hk2⟩
  clear hk1
  rw [show ls { data := #[0, 1] } = [0, 1] from rfl, HX.out]
  go_wp2_with fail
  refine (padd_two w _ _ _ _ (by omega) (by omega) hk2).mono ?_
  rintro e wk3 ⟨rfl, hk3⟩
  clear hk2
  go_wp2_with fail
  refine (pdeg_any w _ _ Zab.out hk3).mono ?_
  rintro e wk4 ⟨rfl, hk4⟩
  clear hk3
  rw [ls_st, padd_trim]
  go_wp2_with fail
  refine (pdeg_any w _ _ (by omega) hk4).mono ?_
  rintro e wk5 ⟨rfl, hk5⟩
  clear hk4
  go_wp2_with fail
  refine (pdeg_any w _ _ (by omega) hk5).mono ?_
  rintro e wk6 ⟨rfl, hk6⟩
  clear hk5
  go_wp2_with fail
  refine (pmul_any w _ _ _ (by omega) (by omega) hk6).mono ?_
  rintro e wk7 ⟨rfl, hk7⟩
  clear hk6
  go_wp2_with fail
  refine (pdiv_zero w _ _ _ Mab.out (by omega) HB.out hk7).mono ?_
  rintro e wk8 ⟨rfl, hk8⟩
  clear hk7
  go_wp2_with fail
  refine (ptrim_any w _ _ (by omega) hk8).mono ?_
  rintro e wk9 ⟨rfl, hk9⟩
  clear hk8
  go_wp2_with fail
  refine (awake2_any w _ hk9).mono ?_
  rintro e wk10 ⟨rfl, hk10⟩
  clear hk9
  go_wp2
  go_ret
  exact ⟨rfl, hk10⟩
set_option maxRecDepth 100000 in
set_option maxHeartbeats 4000000 in
theorem core10lt (a b : ByteArray) (w : World) (hf : fewB a b { data := #[] } = true) (ha : trim (ls a) = []) (hx : pmul (ls a) [0, 1] = []) (hb : trim (ls b) ≠ []) (hm : (trim (ls a)).length < (trim (ls b)).length) :
    Calls Try.prog 9 #[.string a, .string b] w fun e w' => e = .returned (.bool true) ∧ Keeps w w' := by
  obtain ⟨sa, sb, sc⟩ := few_true hf
  have la := ls_len sa
  have lb := ls_len sb
  have lc := ls_len sc
  have Zab := Lib.hid (show (st (padd (ls a) (ls b))).size ≤ 100000 by rw [st_size]; have := padd_len (ls a) (ls b); omega)
  have Mab := Lib.hid (show (st (pmul (ls a) (ls b))).size ≤ 100000 by rw [st_size]; have := pmul_len (ls a) (ls b); omega)
  have l0 := trim_le (ls a)
  have l1 := trim_le (ls b)
  have l2 := padd_length (ls a) (ls b)
  have l3 : (padd (ls a) (ls b)).length ≤ (trim (ls b)).length := by omega
  clear l2
  have HX := Lib.hid hx
  have HB := Lib.hid hb
  have hz := ha
  have n0 : (trim (ls a)).length = 0 := by rw [ha]; rfl
  have hz2 : (trim (ls b)).isEmpty = false := by simpa using hb
  clear hb
  clear hx
  have hap := zero_cat
  have hst := st_toList
  have hsz := st_size
  go_enter Try.func9, Try.ntmps9
  go_wp2_with fail
  refine (few_any _ _ _ _).mono ?_
  rintro e wz ⟨rfl, rfl⟩
  rw [hf]
  go_wp2_with fail
  refine (ptrim_any w _ _ (by omega) (Keeps.refl w)).mono ?_
  rintro e wk1 ⟨rfl, hk1⟩
  go_wp2_with fail
  refine (pmul_any w _ _ _ (by omega) (by decide) hk1).mono ?_
  rintro e wk2 ⟨rfl, hk2⟩
  clear hk1
  rw [show ls { data := #[0, 1] } = [0, 1] from rfl, HX.out]
  go_wp2_with fail
  refine (padd_two w _ _ _ _ (by omega) (by omega) hk2).mono ?_
  rintro e wk3 ⟨rfl, hk3⟩
  clear hk2
  go_wp2_with fail
  refine (pdeg_any w _ _ Zab.out hk3).mono ?_
  rintro e wk4 ⟨rfl, hk4⟩
  clear hk3
  rw [ls_st, padd_trim]
  go_wp2_with fail
  refine (pdeg_any w _ _ (by omega) hk4).mono ?_
  rintro e wk5 ⟨rfl, hk5⟩
  clear hk4
  go_wp2_with fail
  refine (pdeg_any w _ _ (by omega) hk5).mono ?_
  rintro e wk6 ⟨rfl, hk6⟩
  clear hk5
  go_wp2_with fail
  refine (pmul_any w _ _ _ (by omega) (by omega) hk6).mono ?_
  rintro e wk7 ⟨rfl, hk7⟩
  clear hk6
  go_wp2_with fail
  refine (pdiv_any w _ _ _ Mab.out (by omega) HB.out hk7).mono ?_
  rintro e w9 ⟨q, r, rfl, hq, hr, hl2, hd, hk9⟩
  clear hk7
  obtain ⟨rfl, rfl⟩ := divide_one (q' := trim (ls a)) (r' := []) hq (trim_trim _) hr rfl (by rw [hd, ls_st, padd_nil, pmul_trim_l]) hl2 (List.length_pos_iff.2 HB.out)
  clear hq hr hl2 hd
  go_wp2_with fail
  refine (ptrim_any w _ _ (by omega) hk9).mono ?_
  rintro e wk21 ⟨rfl, hk21⟩
  clear hk9
  go_wp2_with fail
  refine (awake2_any w _ hk21).mono ?_
  rintro e wk22 ⟨rfl, hk22⟩
  clear hk21
  go_wp2
  go_ret
  exact ⟨rfl, hk22⟩
set_option maxRecDepth 100000 in
set_option maxHeartbeats 4000000 in
theorem core10ge (a b : ByteArray) (w : World) (hf : fewB a b { data := #[] } = true) (ha : trim (ls a) = []) (hx : pmul (ls a) [0, 1] = []) (hb : trim (ls b) ≠ []) (hm : (trim (ls b)).length ≤ (trim (ls a)).length) :
    Calls Try.prog 9 #[.string a, .string b] w fun e w' => e = .returned (.bool true) ∧ Keeps w w' := by
  obtain ⟨sa, sb, sc⟩ := few_true hf
  have la := ls_len sa
  have lb := ls_len sb
  have lc := ls_len sc
  have Zab := Lib.hid (show (st (padd (ls a) (ls b))).size ≤ 100000 by rw [st_size]; have := padd_len (ls a) (ls b); omega)
  have Mab := Lib.hid (show (st (pmul (ls a) (ls b))).size ≤ 100000 by rw [st_size]; have := pmul_len (ls a) (ls b); omega)
  have l0 := trim_le (ls a)
  have l1 := trim_le (ls b)
  have l2 := padd_length (ls a) (ls b)
  have l3 : (padd (ls a) (ls b)).length ≤ (trim (ls a)).length := by omega
  clear l2
  have HX := Lib.hid hx
  have HB := Lib.hid hb
  have hz := ha
  have n0 : (trim (ls a)).length = 0 := by rw [ha]; rfl
  have hz2 : (trim (ls b)).isEmpty = false := by simpa using hb
  clear hb
  clear hx
  have hap := zero_cat
  have hst := st_toList
  have hsz := st_size
  go_enter Try.func9, Try.ntmps9
  go_wp2_with fail
  refine (few_any _ _ _ _).mono ?_
  rintro e wz ⟨rfl, rfl⟩
  rw [hf]
  go_wp2_with fail
  refine (ptrim_any w _ _ (by omega) (Keeps.refl w)).mono ?_
  rintro e wk1 ⟨rfl, hk1⟩
  go_wp2_with fail
  refine (pmul_any w _ _ _ (by omega) (by decide) hk1).mono ?_
  rintro e wk2 ⟨rfl, hk2⟩
  clear hk1
  rw [show ls { data := #[0, 1] } = [0, 1] from rfl, HX.out]
  go_wp2_with fail
  refine (padd_two w _ _ _ _ (by omega) (by omega) hk2).mono ?_
  rintro e wk3 ⟨rfl, hk3⟩
  clear hk2
  go_wp2_with fail
  refine (pdeg_any w _ _ Zab.out hk3).mono ?_
  rintro e wk4 ⟨rfl, hk4⟩
  clear hk3
  rw [ls_st, padd_trim]
  go_wp2_with fail
  refine (pdeg_any w _ _ (by omega) hk4).mono ?_
  rintro e wk5 ⟨rfl, hk5⟩
  clear hk4
  go_wp2_with fail
  refine (pdeg_any w _ _ (by omega) hk5).mono ?_
  rintro e wk6 ⟨rfl, hk6⟩
  clear hk5
  go_wp2_with fail
  refine (pmul_any w _ _ _ (by omega) (by omega) hk6).mono ?_
  rintro e wk7 ⟨rfl, hk7⟩
  clear hk6
  go_wp2_with fail
  refine (pdiv_any w _ _ _ Mab.out (by omega) HB.out hk7).mono ?_
  rintro e w9 ⟨q, r, rfl, hq, hr, hl2, hd, hk9⟩
  clear hk7
  obtain ⟨rfl, rfl⟩ := divide_one (q' := trim (ls a)) (r' := []) hq (trim_trim _) hr rfl (by rw [hd, ls_st, padd_nil, pmul_trim_l]) hl2 (List.length_pos_iff.2 HB.out)
  clear hq hr hl2 hd
  go_wp2_with fail
  refine (ptrim_any w _ _ (by omega) hk9).mono ?_
  rintro e wk21 ⟨rfl, hk21⟩
  clear hk9
  go_wp2_with fail
  refine (awake2_any w _ hk21).mono ?_
  rintro e wk22 ⟨rfl, hk22⟩
  clear hk21
  go_wp2
  go_ret
  exact ⟨rfl, hk22⟩
set_option maxRecDepth 100000 in
set_option maxHeartbeats 4000000 in
theorem core01lt (a b : ByteArray) (w : World) (hf : fewB a b { data := #[] } = true) (ha : trim (ls a) ≠ []) (hx : pmul (ls a) [0, 1] = 0 :: trim (ls a)) (hb : trim (ls b) = []) (hm : (trim (ls a)).length < (trim (ls b)).length) :
    Calls Try.prog 9 #[.string a, .string b] w fun e w' => e = .returned (.bool true) ∧ Keeps w w' := by
  rw [hb] at hm; simp at hm
set_option maxRecDepth 100000 in
set_option maxHeartbeats 4000000 in
theorem core01ge (a b : ByteArray) (w : World) (hf : fewB a b { data := #[] } = true) (ha : trim (ls a) ≠ []) (hx : pmul (ls a) [0, 1] = 0 :: trim (ls a)) (hb : trim (ls b) = []) (hm : (trim (ls b)).length ≤ (trim (ls a)).length) :
    Calls Try.prog 9 #[.string a, .string b] w fun e w' => e = .returned (.bool true) ∧ Keeps w w' := by
  obtain ⟨sa, sb, sc⟩ := few_true hf
  have la := ls_len sa
  have lb := ls_len sb
  have lc := ls_len sc
  have Zab := Lib.hid (show (st (padd (ls a) (ls b))).size ≤ 100000 by rw [st_size]; have := padd_len (ls a) (ls b); omega)
  have Mab := Lib.hid (show (st (pmul (ls a) (ls b))).size ≤ 100000 by rw [st_size]; have := pmul_len (ls a) (ls b); omega)
  have l0 := trim_le (ls a)
  have l1 := trim_le (ls b)
  have l2 := padd_length (ls a) (ls b)
  have l3 : (padd (ls a) (ls b)).length ≤ (trim (ls a)).length := by omega
  clear l2
  have HX := Lib.hid hx
  have HB := Lib.hid hb
  have hz : (trim (ls a)).isEmpty = false := by simpa using ha
  clear ha
  have hz2 := hb
  have n1 : (trim (ls b)).length = 0 := by rw [hb]; rfl
  clear hx
  have hap := zero_cat
  have hst := st_toList
  have hsz := st_size
  go_enter Try.func9, Try.ntmps9
  go_wp2_with fail
  refine (few_any _ _ _ _).mono ?_
  rintro e wz ⟨rfl, rfl⟩
  rw [hf]
  go_wp2_with fail
  refine (ptrim_any w _ _ (by omega) (Keeps.refl w)).mono ?_
  rintro e wk1 ⟨rfl, hk1⟩
  go_wp2_with fail
  refine (pmul_any w _ _ _ (by omega) (by decide) hk1).mono ?_
  rintro e wk2 ⟨rfl, hk2⟩
  clear hk1
  rw [show ls { data := #[0, 1] } = [0, 1] from rfl, HX.out]
  go_wp2_with fail
  refine (padd_two w _ _ _ _ (by omega) (by omega) hk2).mono ?_
  rintro e wk3 ⟨rfl, hk3⟩
  clear hk2
  go_wp2_with fail
  refine (pdeg_any w _ _ Zab.out hk3).mono ?_
  rintro e wk4 ⟨rfl, hk4⟩
  clear hk3
  rw [ls_st, padd_trim]
  go_wp2_with fail
  refine (pdeg_any w _ _ (by omega) hk4).mono ?_
  rintro e wk5 ⟨rfl, hk5⟩
  clear hk4
  go_wp2_with fail
  refine (pdeg_any w _ _ (by omega) hk5).mono ?_
  rintro e wk6 ⟨rfl, hk6⟩
  clear hk5
  go_wp2_with fail
  refine (pmul_any w _ _ _ (by omega) (by omega) hk6).mono ?_
  rintro e wk7 ⟨rfl, hk7⟩
  clear hk6
  go_wp2_with fail
  refine (pdiv_zero w _ _ _ Mab.out (by omega) HB.out hk7).mono ?_
  rintro e wk8 ⟨rfl, hk8⟩
  clear hk7
  go_wp2_with fail
  refine (ptrim_any w _ _ (by omega) hk8).mono ?_
  rintro e wk9 ⟨rfl, hk9⟩
  clear hk8
  go_wp2_with fail
  refine (awake2_any w _ hk9).mono ?_
  rintro e wk10 ⟨rfl, hk10⟩
  clear hk9
  go_wp2
  go_ret
  exact ⟨rfl, hk10⟩
set_option maxRecDepth 100000 in
set_option maxHeartbeats 4000000 in
theorem core00lt (a b : ByteArray) (w : World) (hf : fewB a b { data := #[] } = true) (ha : trim (ls a) ≠ []) (hx : pmul (ls a) [0, 1] = 0 :: trim (ls a)) (hb : trim (ls b) ≠ []) (hm : (trim (ls a)).length < (trim (ls b)).length) :
    Calls Try.prog 9 #[.string a, .string b] w fun e w' => e = .returned (.bool true) ∧ Keeps w w' := by
  obtain ⟨sa, sb, sc⟩ := few_true hf
  have la := ls_len sa
  have lb := ls_len sb
  have lc := ls_len sc
  have Zab := Lib.hid (show (st (padd (ls a) (ls b))).size ≤ 100000 by rw [st_size]; have := padd_len (ls a) (ls b); omega)
  have Mab := Lib.hid (show (st (pmul (ls a) (ls b))).size ≤ 100000 by rw [st_size]; have := pmul_len (ls a) (ls b); omega)
  have l0 := trim_le (ls a)
  have l1 := trim_le (ls b)
  have l2 := padd_length (ls a) (ls b)
  have l3 : (padd (ls a) (ls b)).length ≤ (trim (ls b)).length := by omega
  clear l2
  have HX := Lib.hid hx
  have HB := Lib.hid hb
  have hz : (trim (ls a)).isEmpty = false := by simpa using ha
  clear ha
  have hz2 : (trim (ls b)).isEmpty = false := by simpa using hb
  clear hb
  clear hx
  have hap := zero_cat
  have hst := st_toList
  have hsz := st_size
  go_enter Try.func9, Try.ntmps9
  go_wp2_with fail
  refine (few_any _ _ _ _).mono ?_
  rintro e wz ⟨rfl, rfl⟩
  rw [hf]
  go_wp2_with fail
  refine (ptrim_any w _ _ (by omega) (Keeps.refl w)).mono ?_
  rintro e wk1 ⟨rfl, hk1⟩
  go_wp2_with fail
  refine (pmul_any w _ _ _ (by omega) (by decide) hk1).mono ?_
  rintro e wk2 ⟨rfl, hk2⟩
  clear hk1
  rw [show ls { data := #[0, 1] } = [0, 1] from rfl, HX.out]
  go_wp2_with fail
  refine (padd_two w _ _ _ _ (by omega) (by omega) hk2).mono ?_
  rintro e wk3 ⟨rfl, hk3⟩
  clear hk2
  go_wp2_with fail
  refine (pdeg_any w _ _ Zab.out hk3).mono ?_
  rintro e wk4 ⟨rfl, hk4⟩
  clear hk3
  rw [ls_st, padd_trim]
  go_wp2_with fail
  refine (pdeg_any w _ _ (by omega) hk4).mono ?_
  rintro e wk5 ⟨rfl, hk5⟩
  clear hk4
  go_wp2_with fail
  refine (pdeg_any w _ _ (by omega) hk5).mono ?_
  rintro e wk6 ⟨rfl, hk6⟩
  clear hk5
  go_wp2_with fail
  refine (pmul_any w _ _ _ (by omega) (by omega) hk6).mono ?_
  rintro e wk7 ⟨rfl, hk7⟩
  clear hk6
  go_wp2_with fail
  refine (pdiv_any w _ _ _ Mab.out (by omega) HB.out hk7).mono ?_
  rintro e w9 ⟨q, r, rfl, hq, hr, hl2, hd, hk9⟩
  clear hk7
  obtain ⟨rfl, rfl⟩ := divide_one (q' := trim (ls a)) (r' := []) hq (trim_trim _) hr rfl (by rw [hd, ls_st, padd_nil, pmul_trim_l]) hl2 (List.length_pos_iff.2 HB.out)
  clear hq hr hl2 hd
  go_wp2_with fail
  refine (ptrim_any w _ _ (by omega) hk9).mono ?_
  rintro e wk21 ⟨rfl, hk21⟩
  clear hk9
  go_wp2_with fail
  refine (awake2_any w _ hk21).mono ?_
  rintro e wk22 ⟨rfl, hk22⟩
  clear hk21
  go_wp2
  go_ret
  exact ⟨rfl, hk22⟩
set_option maxRecDepth 100000 in
set_option maxHeartbeats 4000000 in
theorem core00ge (a b : ByteArray) (w : World) (hf : fewB a b { data := #[] } = true) (ha : trim (ls a) ≠ []) (hx : pmul (ls a) [0, 1] = 0 :: trim (ls a)) (hb : trim (ls b) ≠ []) (hm : (trim (ls b)).length ≤ (trim (ls a)).length) :
    Calls Try.prog 9 #[.string a, .string b] w fun e w' => e = .returned (.bool true) ∧ Keeps w w' := by
  obtain ⟨sa, sb, sc⟩ := few_true hf
  have la := ls_len sa
  have lb := ls_len sb
  have lc := ls_len sc
  have Zab := Lib.hid (show (st (padd (ls a) (ls b))).size ≤ 100000 by rw [st_size]; have := padd_len (ls a) (ls b); omega)
  have Mab := Lib.hid (show (st (pmul (ls a) (ls b))).size ≤ 100000 by rw [st_size]; have := pmul_len (ls a) (ls b); omega)
  have l0 := trim_le (ls a)
  have l1 := trim_le (ls b)
  have l2 := padd_length (ls a) (ls b)
  have l3 : (padd (ls a) (ls b)).length ≤ (trim (ls a)).length := by omega
  clear l2
  have HX := Lib.hid hx
  have HB := Lib.hid hb
  have hz : (trim (ls a)).isEmpty = false := by simpa using ha
  clear ha
  have hz2 : (trim (ls b)).isEmpty = false := by simpa using hb
  clear hb
  clear hx
  have hap := zero_cat
  have hst := st_toList
  have hsz := st_size
  go_enter Try.func9, Try.ntmps9
  go_wp2_with fail
  refine (few_any _ _ _ _).mono ?_
  rintro e wz ⟨rfl, rfl⟩
  rw [hf]
  go_wp2_with fail
  refine (ptrim_any w _ _ (by omega) (Keeps.refl w)).mono ?_
  rintro e wk1 ⟨rfl, hk1⟩
  go_wp2_with fail
  refine (pmul_any w _ _ _ (by omega) (by decide) hk1).mono ?_
  rintro e wk2 ⟨rfl, hk2⟩
  clear hk1
  rw [show ls { data := #[0, 1] } = [0, 1] from rfl, HX.out]
  go_wp2_with fail
  refine (padd_two w _ _ _ _ (by omega) (by omega) hk2).mono ?_
  rintro e wk3 ⟨rfl, hk3⟩
  clear hk2
  go_wp2_with fail
  refine (pdeg_any w _ _ Zab.out hk3).mono ?_
  rintro e wk4 ⟨rfl, hk4⟩
  clear hk3
  rw [ls_st, padd_trim]
  go_wp2_with fail
  refine (pdeg_any w _ _ (by omega) hk4).mono ?_
  rintro e wk5 ⟨rfl, hk5⟩
  clear hk4
  go_wp2_with fail
  refine (pdeg_any w _ _ (by omega) hk5).mono ?_
  rintro e wk6 ⟨rfl, hk6⟩
  clear hk5
  go_wp2_with fail
  refine (pmul_any w _ _ _ (by omega) (by omega) hk6).mono ?_
  rintro e wk7 ⟨rfl, hk7⟩
  clear hk6
  go_wp2_with fail
  refine (pdiv_any w _ _ _ Mab.out (by omega) HB.out hk7).mono ?_
  rintro e w9 ⟨q, r, rfl, hq, hr, hl2, hd, hk9⟩
  clear hk7
  obtain ⟨rfl, rfl⟩ := divide_one (q' := trim (ls a)) (r' := []) hq (trim_trim _) hr rfl (by rw [hd, ls_st, padd_nil, pmul_trim_l]) hl2 (List.length_pos_iff.2 HB.out)
  clear hq hr hl2 hd
  go_wp2_with fail
  refine (ptrim_any w _ _ (by omega) hk9).mono ?_
  rintro e wk21 ⟨rfl, hk21⟩
  clear hk9
  go_wp2_with fail
  refine (awake2_any w _ hk21).mono ?_
  rintro e wk22 ⟨rfl, hk22⟩
  clear hk21
  go_wp2
  go_ret
  exact ⟨rfl, hk22⟩
theorem walk (a : ByteArray) (wa : a.size ≤ maxLen) (b : ByteArray) (wb : b.size ≤ maxLen) (w : World) :
    Calls Try.prog 9 #[.string a, .string b] w fun e w' => e = .returned (.bool true) ∧ Below w.heap.size w w' := by
  cases hf : fewB a b { data := #[] }
  · exact off a b w hf
  · by_cases ha : trim (ls a) = []
    · by_cases hb : trim (ls b) = []
      · rcases Nat.lt_or_ge (trim (ls a)).length (trim (ls b)).length with hm | hm
        · exact core11lt a b w hf ha (pmul_length_nil (Or.inl ha)) hb hm
        · exact core11ge a b w hf ha (pmul_length_nil (Or.inl ha)) hb hm
      · rcases Nat.lt_or_ge (trim (ls a)).length (trim (ls b)).length with hm | hm
        · exact core10lt a b w hf ha (pmul_length_nil (Or.inl ha)) hb hm
        · exact core10ge a b w hf ha (pmul_length_nil (Or.inl ha)) hb hm
    · by_cases hb : trim (ls b) = []
      · rcases Nat.lt_or_ge (trim (ls a)).length (trim (ls b)).length with hm | hm
        · exact core01lt a b w hf ha (pmul_x (ls a) ha) hb hm
        · exact core01ge a b w hf ha (pmul_x (ls a) ha) hb hm
      · rcases Nat.lt_or_ge (trim (ls a)).length (trim (ls b)).length with hm | hm
        · exact core00lt a b w hf ha (pmul_x (ls a) ha) hb hm
        · exact core00ge a b w hf ha (pmul_x (ls a) ha) hb hm

theorem own : ownKnob Try.prog.godebug = none := by kernel_rfl
theorem laidOut : laidOutB Try.prog = true := by kernel_rfl
set_option maxRecDepth 100000 in
theorem lifted (os : Os) (started : os.Started) (H : Type) (enc : TypeId × Value → H) :
    ReturnsInHanded {} Try.checked os 9 .any (Rows.polyShiftsSpec.pre6 enc Try.prog Try.f9 Rows.polyShiftsRow.domain false) (Rows.polyShiftsSpec.post enc Try.prog Try.f9 false true false false) := by
  refine returnsInHanded_of_change (C := Try.checked) own started (by kernel_rfl) Try.func9
    (ChangeSpec.witness6 (enc := enc) (C := Try.checked) false ⟨#[], #[.string ByteArray.empty, .string ByteArray.empty], []⟩ 8 (by kernel_rfl) (by kernel_rfl) (by kernel_rfl) (by kernel_rfl)) ?_
  intro W base args ds gs before hval0 hW hcnd _
  have hval : ∀ (j : Nat) t v, Try.f9.params[j]? = some t → args[j]? = some v → Value.okWide Try.prog W .any base t v := hval0
  have hW' := hW
  obtain ⟨p, q, hA0, hV, rfl, hfz, hnd⟩ := hW
  have hA : DataW.TrodAll enc Try.prog W 0 (fun _ => true) true Try.f9.params.toList args.toList ds p := hA0
  rw [Try.params9] at hA hval
  obtain ⟨v0, vs0, d0, ds0, p0, q0, hargs, rfl, rfl, h0, r0⟩ := trodAll_cons hA
  obtain ⟨v1, vs1, d1, ds1, p1, q1, rfl, rfl, rfl, h1, r1⟩ := trodAll_cons r0
  obtain ⟨rfl, rfl, rfl⟩ := trodAll_nil r1
  obtain rfl : args = #[v0, v1] := by cases args; simp_all
  obtain ⟨rfl, rfl⟩ := trodVars_none hV
  obtain ⟨a0, rfl, rfl, rfl, w0⟩ := open_string Try.underlying9 (hval 0 9 v0 rfl rfl) h0
  obtain ⟨a1, rfl, rfl, rfl, w1⟩ := open_string Try.underlying9 (hval 1 9 v1 rfl rfl) h1
  clear hA0 hval0
  refine (walk a0 w0 a1 w1 W).mono fun e W' ⟨he, bel⟩ => ?_
  subst he
  exact ⟨_, rfl, _, _, _, [], _, [], hW', trodAll_mk1 (shut_bool Try.underlying4 _), (trodAll_cons_mk (shut_string Try.underlying9 w0) (trodAll_cons_mk (shut_string Try.underlying9 w1) trodAll_mk0)), rfl, bel.frame _, fun h => by cases h⟩

theorem over : Rows.polyShiftsRow.holds Try.pinned (OpenSpec.ofChange Rows.polyShiftsSpec) :=
  OpenClaim.holds_of_wide 9 Try.f9 rfl rfl rfl rfl rfl rfl rfl ⟨rfl, rfl, rfl, rfl, rfl⟩ rfl rfl rfl rfl rfl (by kernel_rfl) Try.func9 (by kernel_rfl)
    (of_decide_eq_true (by kernel_rfl)) (by unfold Func.isWrapper; first | (rw [if_pos (by decide +kernel)]; kernel_rfl) | (rw [if_neg (by decide +kernel)]; exact ⟨rfl, rfl⟩))
    (fun os started H enc _ => lifted os started H enc)

theorem proved : Rows.PolyShiftsSaid := over
#print axioms proved
end Go.Proofs.Ythaiamagdifhjaa.polyShifts
