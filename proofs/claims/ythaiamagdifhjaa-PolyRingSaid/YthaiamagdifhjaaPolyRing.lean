/-
  For any three strings PolyRing returns true: sums and products do not hang on the order, and products are spread over sums; nothing that was there is changed. No condition.
-/
import Derived.Test.YthaiamagdifhjaaRows
import Derived.Test.YthaiamagdifhjaaPolyLaw
import Derived.OpenShut
import Derived.ShutString
import Derived.ChangeOld
import Derived.Carry
import Derived.WalkLawsBesides
namespace Go.Proofs.Ythaiamagdifhjaa.polyRing
open Go.ChangeShapes Go.WideShapes Go.ChangeAt Go.RowKit Gf
open Go.ChangeMaps (open_string shut_string)
set_option linter.unusedVariables false
set_option maxRecDepth 100000 in
set_option maxHeartbeats 4000000 in
theorem off (a b c : ByteArray) (w : World) (hf : fewB a b c = false) :
    Calls Try.prog 6 #[.string a, .string b, .string c] w fun e w' => e = .returned (.bool true) ∧ Keeps w w' := by
  go_enter Try.func6, Try.ntmps6
  go_wp2_with fail
  refine (few_any _ _ _ _).mono ?_
  rintro e wz ⟨rfl, rfl⟩
  rw [hf]
  go_wp2_with fail
  refine (awake2_any w _ (Keeps.refl w)).mono ?_
  rintro e wk1 ⟨rfl, hk1⟩
  go_wp2
  go_ret
  exact ⟨rfl, hk1⟩
set_option maxRecDepth 100000 in
set_option maxHeartbeats 4000000 in
theorem core_nn (a b c : ByteArray) (w : World) (hf : fewB a b c = true) (ha : trim (ls a) ≠ []) (hb : trim (ls b) ≠ []) :
    Calls Try.prog 6 #[.string a, .string b, .string c] w fun e w' => e = .returned (.bool true) ∧ Keeps w w' := by
  obtain ⟨sa, sb, sc⟩ := few_true hf
  have la := ls_len sa
  have lb := ls_len sb
  have lc := ls_len sc
  have Zab := Lib.hid (show (st (padd (ls a) (ls b))).size ≤ 100000 by rw [st_size]; have := padd_len (ls a) (ls b); omega)
  have Zbc := Lib.hid (show (st (padd (ls b) (ls c))).size ≤ 100000 by rw [st_size]; have := padd_len (ls b) (ls c); omega)
  have Mab := Lib.hid (show (st (pmul (ls a) (ls b))).size ≤ 100000 by rw [st_size]; have := pmul_len (ls a) (ls b); omega)
  have Mbc := Lib.hid (show (st (pmul (ls b) (ls c))).size ≤ 100000 by rw [st_size]; have := pmul_len (ls b) (ls c); omega)
  have Mac := Lib.hid (show (st (pmul (ls a) (ls c))).size ≤ 100000 by rw [st_size]; have := pmul_len (ls a) (ls c); omega)
  have l0 := trim_le (ls a)
  have l1 := trim_le (ls b)
  have l2 := pmul_len (ls a) (ls b)
  have p1 := List.length_pos_iff.2 ha
  have p2 := List.length_pos_iff.2 hb
  have hp := pmul_length ha hb
  have HP := Lib.hid hp
  have hd : (((pmul (ls a) (ls b)).length : Int) - 1 != ((trim (ls a)).length : Int) - 1 + (((trim (ls b)).length : Int) - 1)) = false := by simp; omega
  clear hp ha hb
  have hst := st_toList
  have hsz := st_size
  go_enter Try.func6, Try.ntmps6
  go_wp2_with fail
  refine (few_any _ _ _ _).mono ?_
  rintro e wz ⟨rfl, rfl⟩
  rw [hf]
  go_wp2_with fail
  refine (padd_two w _ _ _ _ (by omega) (by omega) (Keeps.refl w)).mono ?_
  rintro e wk1 ⟨rfl, hk1⟩
  go_wp2_with fail
  refine (padd_two w _ _ _ _ (by omega) (by omega) hk1).mono ?_
  rintro e wk2 ⟨rfl, hk2⟩
  clear hk1
  rw [padd_comm (ls b) (ls a)]
  go_wp2_with fail
  refine (padd_two w _ _ _ _ (by omega) (by omega) hk2).mono ?_
  rintro e wk3 ⟨rfl, hk3⟩
  clear hk2
  go_wp2_with fail
  refine (padd_two w _ _ _ _ (by omega) Zbc.out hk3).mono ?_
  rintro e wk4 ⟨rfl, hk4⟩
  clear hk3
  rw [ls_st, ← padd_assoc]
  go_wp2_with fail
  refine (padd_three w _ _ _ _ _ (by omega) (by omega) (by omega) hk4).mono ?_
  rintro e wk5 ⟨rfl, hk5⟩
  clear hk4
  go_wp2_with fail
  refine (padd_two w _ _ _ _ (by omega) (by omega) hk5).mono ?_
  rintro e wk6 ⟨rfl, hk6⟩
  clear hk5
  rw [padd_self]
  go_wp2_with fail
  refine (pmul_any w _ _ _ (by omega) (by omega) hk6).mono ?_
  rintro e wk7 ⟨rfl, hk7⟩
  clear hk6
  go_wp2_with fail
  refine (pmul_any w _ _ _ (by omega) (by omega) hk7).mono ?_
  rintro e wk8 ⟨rfl, hk8⟩
  clear hk7
  rw [pmul_comm (ls b) (ls a)]
  go_wp2_with fail
  refine (pmul_any w _ _ _ (by omega) (by omega) hk8).mono ?_
  rintro e wk9 ⟨rfl, hk9⟩
  clear hk8
  go_wp2_with fail
  refine (pmul_any w _ _ _ Mab.out (by omega) hk9).mono ?_
  rintro e wk10 ⟨rfl, hk10⟩
  clear hk9
  rw [ls_st, pmul_assoc]
  go_wp2_with fail
  refine (pmul_any w _ _ _ (by omega) (by omega) hk10).mono ?_
  rintro e wk11 ⟨rfl, hk11⟩
  clear hk10
  go_wp2_with fail
  refine (pmul_any w _ _ _ (by omega) Mbc.out hk11).mono ?_
  rintro e wk12 ⟨rfl, hk12⟩
  clear hk11
  rw [ls_st]
  go_wp2_with fail
  refine (pmul_any w _ _ _ (by omega) (by decide) hk12).mono ?_
  rintro e wk13 ⟨rfl, hk13⟩
  clear hk12
  rw [show pmul (ls a) (ls { data := #[1] }) = trim (ls a) from pmul_one _]
  go_wp2_with fail
  refine (ptrim_any w _ _ (by omega) hk13).mono ?_
  rintro e wk14 ⟨rfl, hk14⟩
  clear hk13
  go_wp2_with fail
  refine (pmul_any w _ _ _ (by omega) (by omega) hk14).mono ?_
  rintro e wk15 ⟨rfl, hk15⟩
  clear hk14
  go_wp2_with fail
  refine (pdeg_any w _ _ Mab.out hk15).mono ?_
  rintro e wk16 ⟨rfl, hk16⟩
  clear hk15
  rw [ls_st, pmul_trim]
  go_wp2_with fail
  refine (pdeg_any w _ _ (by omega) hk16).mono ?_
  rintro e wk17 ⟨rfl, hk17⟩
  clear hk16
  go_wp2_with fail
  refine (pdeg_any w _ _ (by omega) hk17).mono ?_
  rintro e wk18 ⟨rfl, hk18⟩
  clear hk17
  go_wp2_with fail
  refine (pdeg_any w _ _ (by omega) hk18).mono ?_
  rintro e wk19 ⟨rfl, hk19⟩
  clear hk18
  go_wp2_with fail
  refine (pdeg_any w _ _ (by omega) hk19).mono ?_
  rintro e wk20 ⟨rfl, hk20⟩
  clear hk19
  go_wp2_with fail
  refine (pdeg_any w _ _ (by omega) hk20).mono ?_
  rintro e wk21 ⟨rfl, hk21⟩
  clear hk20
  go_wp2_with fail
  refine (pdeg_any w _ _ (by omega) hk21).mono ?_
  rintro e wk22 ⟨rfl, hk22⟩
  clear hk21
  go_wp2_with fail
  refine (padd_two w _ _ _ _ (by omega) (by omega) hk22).mono ?_
  rintro e wk23 ⟨rfl, hk23⟩
  clear hk22
  go_wp2_with fail
  refine (pmul_any w _ _ _ (by omega) Zbc.out hk23).mono ?_
  rintro e wk24 ⟨rfl, hk24⟩
  clear hk23
  rw [ls_st, pmul_padd]
  go_wp2_with fail
  refine (pmul_any w _ _ _ (by omega) (by omega) hk24).mono ?_
  rintro e wk25 ⟨rfl, hk25⟩
  clear hk24
  go_wp2_with fail
  refine (pmul_any w _ _ _ (by omega) (by omega) hk25).mono ?_
  rintro e wk26 ⟨rfl, hk26⟩
  clear hk25
  go_wp2_with fail
  refine (padd_two w _ _ _ _ Mab.out Mac.out hk26).mono ?_
  rintro e wk27 ⟨rfl, hk27⟩
  clear hk26
  rw [ls_st, ls_st]
  go_wp2_with fail
  refine (awake2_any w _ hk27).mono ?_
  rintro e wk28 ⟨rfl, hk28⟩
  clear hk27
  go_wp2
  go_ret
  exact ⟨rfl, hk28⟩
set_option maxRecDepth 100000 in
set_option maxHeartbeats 4000000 in
theorem core_z (a b c : ByteArray) (w : World) (hf : fewB a b c = true) (ha : trim (ls a) = []) :
    Calls Try.prog 6 #[.string a, .string b, .string c] w fun e w' => e = .returned (.bool true) ∧ Keeps w w' := by
  obtain ⟨sa, sb, sc⟩ := few_true hf
  have la := ls_len sa
  have lb := ls_len sb
  have lc := ls_len sc
  have Zab := Lib.hid (show (st (padd (ls a) (ls b))).size ≤ 100000 by rw [st_size]; have := padd_len (ls a) (ls b); omega)
  have Zbc := Lib.hid (show (st (padd (ls b) (ls c))).size ≤ 100000 by rw [st_size]; have := padd_len (ls b) (ls c); omega)
  have Mab := Lib.hid (show (st (pmul (ls a) (ls b))).size ≤ 100000 by rw [st_size]; have := pmul_len (ls a) (ls b); omega)
  have Mbc := Lib.hid (show (st (pmul (ls b) (ls c))).size ≤ 100000 by rw [st_size]; have := pmul_len (ls b) (ls c); omega)
  have Mac := Lib.hid (show (st (pmul (ls a) (ls c))).size ≤ 100000 by rw [st_size]; have := pmul_len (ls a) (ls c); omega)
  have l0 := trim_le (ls a)
  have l1 := trim_le (ls b)
  have l2 := pmul_len (ls a) (ls b)
  have hn : pmul (ls a) (ls b) = [] := pmul_length_nil (Or.inl ha)
  have p1 : (trim (ls a)).length = 0 := by rw [ha]; rfl
  have HN := Lib.hid hn
  have hd : (((pmul (ls a) (ls b)).length : Int) - 1) = -1 := by rw [hn]; rfl
  clear hn ha
  have hst := st_toList
  have hsz := st_size
  go_enter Try.func6, Try.ntmps6
  go_wp2_with fail
  refine (few_any _ _ _ _).mono ?_
  rintro e wz ⟨rfl, rfl⟩
  rw [hf]
  go_wp2_with fail
  refine (padd_two w _ _ _ _ (by omega) (by omega) (Keeps.refl w)).mono ?_
  rintro e wk1 ⟨rfl, hk1⟩
  go_wp2_with fail
  refine (padd_two w _ _ _ _ (by omega) (by omega) hk1).mono ?_
  rintro e wk2 ⟨rfl, hk2⟩
  clear hk1
  rw [padd_comm (ls b) (ls a)]
  go_wp2_with fail
  refine (padd_two w _ _ _ _ (by omega) (by omega) hk2).mono ?_
  rintro e wk3 ⟨rfl, hk3⟩
  clear hk2
  go_wp2_with fail
  refine (padd_two w _ _ _ _ (by omega) Zbc.out hk3).mono ?_
  rintro e wk4 ⟨rfl, hk4⟩
  clear hk3
  rw [ls_st, ← padd_assoc]
  go_wp2_with fail
  refine (padd_three w _ _ _ _ _ (by omega) (by omega) (by omega) hk4).mono ?_
  rintro e wk5 ⟨rfl, hk5⟩
  clear hk4
  go_wp2_with fail
  refine (padd_two w _ _ _ _ (by omega) (by omega) hk5).mono ?_
  rintro e wk6 ⟨rfl, hk6⟩
  clear hk5
  rw [padd_self]
  go_wp2_with fail
  refine (pmul_any w _ _ _ (by omega) (by omega) hk6).mono ?_
  rintro e wk7 ⟨rfl, hk7⟩
  clear hk6
  go_wp2_with fail
  refine (pmul_any w _ _ _ (by omega) (by omega) hk7).mono ?_
  rintro e wk8 ⟨rfl, hk8⟩
  clear hk7
  rw [pmul_comm (ls b) (ls a)]
  go_wp2_with fail
  refine (pmul_any w _ _ _ (by omega) (by omega) hk8).mono ?_
  rintro e wk9 ⟨rfl, hk9⟩
  clear hk8
  go_wp2_with fail
  refine (pmul_any w _ _ _ Mab.out (by omega) hk9).mono ?_
  rintro e wk10 ⟨rfl, hk10⟩
  clear hk9
  rw [ls_st, pmul_assoc]
  go_wp2_with fail
  refine (pmul_any w _ _ _ (by omega) (by omega) hk10).mono ?_
  rintro e wk11 ⟨rfl, hk11⟩
  clear hk10
  go_wp2_with fail
  refine (pmul_any w _ _ _ (by omega) Mbc.out hk11).mono ?_
  rintro e wk12 ⟨rfl, hk12⟩
  clear hk11
  rw [ls_st]
  go_wp2_with fail
  refine (pmul_any w _ _ _ (by omega) (by decide) hk12).mono ?_
  rintro e wk13 ⟨rfl, hk13⟩
  clear hk12
  rw [show pmul (ls a) (ls { data := #[1] }) = trim (ls a) from pmul_one _]
  go_wp2_with fail
  refine (ptrim_any w _ _ (by omega) hk13).mono ?_
  rintro e wk14 ⟨rfl, hk14⟩
  clear hk13
  go_wp2_with fail
  refine (pmul_any w _ _ _ (by omega) (by omega) hk14).mono ?_
  rintro e wk15 ⟨rfl, hk15⟩
  clear hk14
  go_wp2_with fail
  refine (pdeg_any w _ _ Mab.out hk15).mono ?_
  rintro e wk16 ⟨rfl, hk16⟩
  clear hk15
  rw [ls_st, pmul_trim]
  go_wp2_with fail
  refine (pdeg_any w _ _ (by omega) hk16).mono ?_
  rintro e wk17 ⟨rfl, hk17⟩
  clear hk16
  go_wp2_with fail
  refine (pdeg_any w _ _ (by omega) hk17).mono ?_
  rintro e wk18 ⟨rfl, hk18⟩
  clear hk17
  go_wp2_with fail
  refine (padd_two w _ _ _ _ (by omega) (by omega) hk18).mono ?_
  rintro e wk19 ⟨rfl, hk19⟩
  clear hk18
  go_wp2_with fail
  refine (pmul_any w _ _ _ (by omega) Zbc.out hk19).mono ?_
  rintro e wk20 ⟨rfl, hk20⟩
  clear hk19
  rw [ls_st, pmul_padd]
  go_wp2_with fail
  refine (pmul_any w _ _ _ (by omega) (by omega) hk20).mono ?_
  rintro e wk21 ⟨rfl, hk21⟩
  clear hk20
  go_wp2_with fail
  refine (pmul_any w _ _ _ (by omega) (by omega) hk21).mono ?_
  rintro e wk22 ⟨rfl, hk22⟩
  clear hk21
  go_wp2_with fail
  refine (padd_two w _ _ _ _ Mab.out Mac.out hk22).mono ?_
  rintro e wk23 ⟨rfl, hk23⟩
  clear hk22
  rw [ls_st, ls_st]
  go_wp2_with fail
  refine (awake2_any w _ hk23).mono ?_
  rintro e wk24 ⟨rfl, hk24⟩
  clear hk23
  go_wp2
  go_ret
  exact ⟨rfl, hk24⟩
set_option maxRecDepth 100000 in
set_option maxHeartbeats 4000000 in
theorem core_nz (a b c : ByteArray) (w : World) (hf : fewB a b c = true) (ha : trim (ls a) ≠ []) (hb : trim (ls b) = []) :
    Calls Try.prog 6 #[.string a, .string b, .string c] w fun e w' => e = .returned (.bool true) ∧ Keeps w w' := by
  obtain ⟨sa, sb, sc⟩ := few_true hf
  have la := ls_len sa
  have lb := ls_len sb
  have lc := ls_len sc
  have Zab := Lib.hid (show (st (padd (ls a) (ls b))).size ≤ 100000 by rw [st_size]; have := padd_len (ls a) (ls b); omega)
  have Zbc := Lib.hid (show (st (padd (ls b) (ls c))).size ≤ 100000 by rw [st_size]; have := padd_len (ls b) (ls c); omega)
  have Mab := Lib.hid (show (st (pmul (ls a) (ls b))).size ≤ 100000 by rw [st_size]; have := pmul_len (ls a) (ls b); omega)
  have Mbc := Lib.hid (show (st (pmul (ls b) (ls c))).size ≤ 100000 by rw [st_size]; have := pmul_len (ls b) (ls c); omega)
  have Mac := Lib.hid (show (st (pmul (ls a) (ls c))).size ≤ 100000 by rw [st_size]; have := pmul_len (ls a) (ls c); omega)
  have l0 := trim_le (ls a)
  have l1 := trim_le (ls b)
  have l2 := pmul_len (ls a) (ls b)
  have p1 := List.length_pos_iff.2 ha
  have hn : pmul (ls a) (ls b) = [] := pmul_length_nil (Or.inr hb)
  have p2 : (trim (ls b)).length = 0 := by rw [hb]; rfl
  have hd : (((pmul (ls a) (ls b)).length : Int) - 1) = -1 := by rw [hn]; rfl
  clear hn ha hb
  have hst := st_toList
  have hsz := st_size
  go_enter Try.func6, Try.ntmps6
  go_wp2_with fail
  refine (few_any _ _ _ _).mono ?_
  rintro e wz ⟨rfl, rfl⟩
  rw [hf]
  go_wp2_with fail
  refine (padd_two w _ _ _ _ (by omega) (by omega) (Keeps.refl w)).mono ?_
  rintro e wk1 ⟨rfl, hk1⟩
  go_wp2_with fail
  refine (padd_two w _ _ _ _ (by omega) (by omega) hk1).mono ?_
  rintro e wk2 ⟨rfl, hk2⟩
  clear hk1
  rw [padd_comm (ls b) (ls a)]
  go_wp2_with fail
  refine (padd_two w _ _ _ _ (by omega) (by omega) hk2).mono ?_
  rintro e wk3 ⟨rfl, hk3⟩
  clear hk2
  go_wp2_with fail
  refine (padd_two w _ _ _ _ (by omega) Zbc.out hk3).mono ?_
  rintro e wk4 ⟨rfl, hk4⟩
  clear hk3
  rw [ls_st, ← padd_assoc]
  go_wp2_with fail
  refine (padd_three w _ _ _ _ _ (by omega) (by omega) (by omega) hk4).mono ?_
  rintro e wk5 ⟨rfl, hk5⟩
  clear hk4
  go_wp2_with fail
  refine (padd_two w _ _ _ _ (by omega) (by omega) hk5).mono ?_
  rintro e wk6 ⟨rfl, hk6⟩
  clear hk5
  rw [padd_self]
  go_wp2_with fail
  refine (pmul_any w _ _ _ (by omega) (by omega) hk6).mono ?_
  rintro e wk7 ⟨rfl, hk7⟩
  clear hk6
  go_wp2_with fail
  refine (pmul_any w _ _ _ (by omega) (by omega) hk7).mono ?_
  rintro e wk8 ⟨rfl, hk8⟩
  clear hk7
  rw [pmul_comm (ls b) (ls a)]
  go_wp2_with fail
  refine (pmul_any w _ _ _ (by omega) (by omega) hk8).mono ?_
  rintro e wk9 ⟨rfl, hk9⟩
  clear hk8
  go_wp2_with fail
  refine (pmul_any w _ _ _ Mab.out (by omega) hk9).mono ?_
  rintro e wk10 ⟨rfl, hk10⟩
  clear hk9
  rw [ls_st, pmul_assoc]
  go_wp2_with fail
  refine (pmul_any w _ _ _ (by omega) (by omega) hk10).mono ?_
  rintro e wk11 ⟨rfl, hk11⟩
  clear hk10
  go_wp2_with fail
  refine (pmul_any w _ _ _ (by omega) Mbc.out hk11).mono ?_
  rintro e wk12 ⟨rfl, hk12⟩
  clear hk11
  rw [ls_st]
  go_wp2_with fail
  refine (pmul_any w _ _ _ (by omega) (by decide) hk12).mono ?_
  rintro e wk13 ⟨rfl, hk13⟩
  clear hk12
  rw [show pmul (ls a) (ls { data := #[1] }) = trim (ls a) from pmul_one _]
  go_wp2_with fail
  refine (ptrim_any w _ _ (by omega) hk13).mono ?_
  rintro e wk14 ⟨rfl, hk14⟩
  clear hk13
  go_wp2_with fail
  refine (pmul_any w _ _ _ (by omega) (by omega) hk14).mono ?_
  rintro e wk15 ⟨rfl, hk15⟩
  clear hk14
  go_wp2_with fail
  refine (pdeg_any w _ _ Mab.out hk15).mono ?_
  rintro e wk16 ⟨rfl, hk16⟩
  clear hk15
  rw [ls_st, pmul_trim]
  go_wp2_with fail
  refine (pdeg_any w _ _ (by omega) hk16).mono ?_
  rintro e wk17 ⟨rfl, hk17⟩
  clear hk16
  go_wp2_with fail
  refine (pdeg_any w _ _ (by omega) hk17).mono ?_
  rintro e wk18 ⟨rfl, hk18⟩
  clear hk17
  go_wp2_with fail
  refine (pdeg_any w _ _ (by omega) hk18).mono ?_
  rintro e wk19 ⟨rfl, hk19⟩
  clear hk18
  go_wp2_with fail
  refine (pdeg_any w _ _ (by omega) hk19).mono ?_
  rintro e wk20 ⟨rfl, hk20⟩
  clear hk19
  go_wp2_with fail
  refine (padd_two w _ _ _ _ (by omega) (by omega) hk20).mono ?_
  rintro e wk21 ⟨rfl, hk21⟩
  clear hk20
  go_wp2_with fail
  refine (pmul_any w _ _ _ (by omega) Zbc.out hk21).mono ?_
  rintro e wk22 ⟨rfl, hk22⟩
  clear hk21
  rw [ls_st, pmul_padd]
  go_wp2_with fail
  refine (pmul_any w _ _ _ (by omega) (by omega) hk22).mono ?_
  rintro e wk23 ⟨rfl, hk23⟩
  clear hk22
  go_wp2_with fail
  refine (pmul_any w _ _ _ (by omega) (by omega) hk23).mono ?_
  rintro e wk24 ⟨rfl, hk24⟩
  clear hk23
  go_wp2_with fail
  refine (padd_two w _ _ _ _ Mab.out Mac.out hk24).mono ?_
  rintro e wk25 ⟨rfl, hk25⟩
  clear hk24
  rw [ls_st, ls_st]
  go_wp2_with fail
  refine (awake2_any w _ hk25).mono ?_
  rintro e wk26 ⟨rfl, hk26⟩
  clear hk25
  go_wp2
  go_ret
  exact ⟨rfl, hk26⟩
theorem walk (a : ByteArray) (wa : a.size ≤ maxLen) (b : ByteArray) (wb : b.size ≤ maxLen) (c : ByteArray) (wc : c.size ≤ maxLen) (w : World) :
    Calls Try.prog 6 #[.string a, .string b, .string c] w fun e w' => e = .returned (.bool true) ∧ Below w.heap.size w w' := by
  cases hf : fewB a b c
  · exact off a b c w hf
  · by_cases ha : trim (ls a) = []
    · exact core_z a b c w hf ha
    · by_cases hb : trim (ls b) = []
      · exact core_nz a b c w hf ha hb
      · exact core_nn a b c w hf ha hb

theorem own : ownKnob Try.prog.godebug = none := by kernel_rfl
theorem laidOut : laidOutB Try.prog = true := by kernel_rfl
set_option maxRecDepth 100000 in
theorem lifted (os : Os) (started : os.Started) (H : Type) (enc : TypeId × Value → H) :
    ReturnsInHanded {} Try.checked os 6 .any (Rows.polyRingSpec.pre6 enc Try.prog Try.f6 Rows.polyRingRow.domain false) (Rows.polyRingSpec.post enc Try.prog Try.f6 false true false false) := by
  refine returnsInHanded_of_change (C := Try.checked) own started (by kernel_rfl) Try.func6
    (ChangeSpec.witness6 (enc := enc) (C := Try.checked) false ⟨#[], #[.string ByteArray.empty, .string ByteArray.empty, .string ByteArray.empty], []⟩ 8 (by kernel_rfl) (by kernel_rfl) (by kernel_rfl) (by kernel_rfl)) ?_
  intro W base args ds gs before hval0 hW hcnd _
  have hval : ∀ (j : Nat) t v, Try.f6.params[j]? = some t → args[j]? = some v → Value.okWide Try.prog W .any base t v := hval0
  have hW' := hW
  obtain ⟨p, q, hA0, hV, rfl, hfz, hnd⟩ := hW
  have hA : DataW.TrodAll enc Try.prog W 0 (fun _ => true) true Try.f6.params.toList args.toList ds p := hA0
  rw [Try.params6] at hA hval
  obtain ⟨v0, vs0, d0, ds0, p0, q0, hargs, rfl, rfl, h0, r0⟩ := trodAll_cons hA
  obtain ⟨v1, vs1, d1, ds1, p1, q1, rfl, rfl, rfl, h1, r1⟩ := trodAll_cons r0
  obtain ⟨v2, vs2, d2, ds2, p2, q2, rfl, rfl, rfl, h2, r2⟩ := trodAll_cons r1
  obtain ⟨rfl, rfl, rfl⟩ := trodAll_nil r2
  obtain rfl : args = #[v0, v1, v2] := by cases args; simp_all
  obtain ⟨rfl, rfl⟩ := trodVars_none hV
  obtain ⟨a0, rfl, rfl, rfl, w0⟩ := open_string Try.underlying9 (hval 0 9 v0 rfl rfl) h0
  obtain ⟨a1, rfl, rfl, rfl, w1⟩ := open_string Try.underlying9 (hval 1 9 v1 rfl rfl) h1
  obtain ⟨a2, rfl, rfl, rfl, w2⟩ := open_string Try.underlying9 (hval 2 9 v2 rfl rfl) h2
  clear hA0 hval0
  refine (walk a0 w0 a1 w1 a2 w2 W).mono fun e W' ⟨he, bel⟩ => ?_
  subst he
  exact ⟨_, rfl, _, _, _, [], _, [], hW', trodAll_mk1 (shut_bool Try.underlying4 _), (trodAll_cons_mk (shut_string Try.underlying9 w0) (trodAll_cons_mk (shut_string Try.underlying9 w1) (trodAll_cons_mk (shut_string Try.underlying9 w2) trodAll_mk0))), rfl, bel.frame _, fun h => by cases h⟩

theorem over : Rows.polyRingRow.holds Try.pinned (OpenSpec.ofChange Rows.polyRingSpec) :=
  OpenClaim.holds_of_wide 6 Try.f6 rfl rfl rfl rfl rfl rfl rfl ⟨rfl, rfl, rfl, rfl, rfl⟩ rfl rfl rfl rfl rfl (by kernel_rfl) Try.func6 (by kernel_rfl)
    (of_decide_eq_true (by kernel_rfl)) (by unfold Func.isWrapper; first | (rw [if_pos (by decide +kernel)]; kernel_rfl) | (rw [if_neg (by decide +kernel)]; exact ⟨rfl, rfl⟩))
    (fun os started H enc _ => lifted os started H enc)

theorem proved : Rows.PolyRingSaid := over
#print axioms proved
end Go.Proofs.Ythaiamagdifhjaa.polyRing
