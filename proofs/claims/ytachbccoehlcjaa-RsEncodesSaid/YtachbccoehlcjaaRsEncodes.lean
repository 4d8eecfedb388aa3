/-
  For any two strings RsEncodes returns true: the parity makes a word of data, and the generator is the document's; nothing that was there is changed. No condition.
-/
import Derived.Test.YtachbccoehlcjaaRows
import Derived.Test.YtachbccoehlcjaaRsLaw
import Derived.OpenShut
import Derived.ShutString
import Derived.ChangeOld
import Derived.Carry
import Derived.WalkLawsBesides
namespace Go.Proofs.Ytachbccoehlcjaa.rsEncodes
open Go.ChangeShapes Go.WideShapes Go.ChangeAt Go.RowKit Gf
open Go.ChangeMaps (open_string shut_string)
set_option linter.unusedVariables false
set_option maxRecDepth 100000 in
set_option maxHeartbeats 4000000 in
theorem off1 (a b : ByteArray) (w : World) (h : 191 < (a.size : Int)) :
    Calls Try.prog 3 #[.string a, .string b] w fun e w' => e = .returned (.bool true) ∧ Keeps w w' := by
  go_enter Try.func3, Try.ntmps3
  go_wp2_with fail
  refine (awake3_any w _ (Keeps.refl w)).mono ?_
  rintro e wk1 ⟨rfl, hk1⟩
  go_wp2
  go_ret
  exact ⟨rfl, hk1⟩
set_option maxRecDepth 100000 in
set_option maxHeartbeats 4000000 in
theorem off2 (a b : ByteArray) (w : World) (h0 : (a.size : Int) ≤ 191) (h : 400 < (b.size : Int)) :
    Calls Try.prog 3 #[.string a, .string b] w fun e w' => e = .returned (.bool true) ∧ Keeps w w' := by
  go_enter Try.func3, Try.ntmps3
  go_wp2_with fail
  refine (awake3_any w _ (Keeps.refl w)).mono ?_
  rintro e wk1 ⟨rfl, hk1⟩
  go_wp2
  go_ret
  exact ⟨rfl, hk1⟩
set_option maxRecDepth 100000 in
set_option maxHeartbeats 4000000 in
theorem core_eq (a b : ByteArray) (w : World) (h0 : (a.size : Int) ≤ 191) (h1 : (b.size : Int) ≤ 400) (hb : b.size = 191) :
    Calls Try.prog 3 #[.string a, .string b] w fun e w' => e = .returned (.bool true) ∧ Keeps w w' := by
  have hd : (st (ls a ++ z8 (191 - a.size))).size = 191 := by rw [st_size, List.length_append, z8_length, ← ls_size]; omega
  have HD := Lib.hid hd
  clear hd
  have hst := st_toList
  have hsz := st_size
  have hne : (((b.size : Nat) : Int) != 191) = false := by simp; omega
  go_enter Try.func3, Try.ntmps3
  go_wp2_with fail
  refine (full_any w _ 191 _ (by omega) (by omega) (Keeps.refl w)).mono ?_
  rintro e wk1 ⟨rfl, hk1⟩
  generalize hdd : ls a ++ z8 (191 - a.size) = dd at *
  have HDD := Lib.hid hdd
  clear hdd
  go_wp2_with fail
  refine (enc_any w _ _ HD.out hk1).mono ?_
  rintro e wk2 ⟨p2, rfl, hp2, hw2, hk2⟩
  clear hk1
  rw [ls_st] at hw2
  rw [id]
  have HP2 := Lib.hid hp2
  have HW2 := Lib.hid hw2
  have hl2 : (p2.length : Int) = 64 := by omega
  clear hp2 hw2
  go_wp2_with fail
  refine (word_any w _ _ HD.out hk2).mono ?_
  rintro e wk3 ⟨p3, rfl, hp3, hw3, hk3⟩
  clear hk2
  rw [ls_st] at hw3
  obtain rfl : p2 = p3 := parity_one HP2.out hp3 HW2.out hw3
  rw [ls_st]
  clear hp3 hw3
  go_wp2_with fail
  refine (short_any w _ _ (by omega) hk3).mono ?_
  rintro e wk4 ⟨p4, rfl, hp4, hw4, hk4⟩
  clear hk3
  rw [HDD.out] at hw4
  obtain rfl : p2 = p4 := parity_one HP2.out hp4 HW2.out hw4
  rw [id]
  clear hp4 hw4
  have hcat := cat_st (st dd) p2
  rw [ls_st] at hcat
  have HIS := Lib.hid (show isB (ls (st (dd ++ p2))) = true by rw [ls_st]; exact (isB_iff _).2 HW2.out)
  have hds : (dd.length : Int) = 191 := by have := HD.out; rw [st_size] at this; omega
  go_wp2_with fail
  refine (ris_any w _ _ hk4).mono ?_
  rintro e wk5 ⟨rfl, hk5⟩
  clear hk4
  rw [HIS.out]
  go_wp2_with fail
  refine (short_any w _ _ (by omega) hk5).mono ?_
  rintro e wk6 ⟨p6, rfl, hp6, hw6, hk6⟩
  clear hk5
  clear hp6 hw6
  go_wp2_with fail
  refine (rsgen_any w _ hk6).mono ?_
  rintro e wk7 ⟨rfl, hk7⟩
  clear hk6
  go_wp2_with fail
  refine (rgen_any w _ hk7).mono ?_
  rintro e wk8 ⟨rfl, hk8⟩
  clear hk7
  go_wp2_with fail
  refine (awake3_any w _ hk8).mono ?_
  rintro e wk9 ⟨rfl, hk9⟩
  clear hk8
  go_wp2
  go_ret
  exact ⟨rfl, hk9⟩
set_option maxRecDepth 100000 in
set_option maxHeartbeats 4000000 in
theorem core_lt (a b : ByteArray) (w : World) (h0 : (a.size : Int) ≤ 191) (h1 : (b.size : Int) ≤ 400) (hb : b.size < 191) :
    Calls Try.prog 3 #[.string a, .string b] w fun e w' => e = .returned (.bool true) ∧ Keeps w w' := by
  have hd : (st (ls a ++ z8 (191 - a.size))).size = 191 := by rw [st_size, List.length_append, z8_length, ← ls_size]; omega
  have HD := Lib.hid hd
  clear hd
  have hst := st_toList
  have hsz := st_size
  have hne : (((b.size : Nat) : Int) != 191) = true := by rw [bne_iff_ne]; omega
  have HN := Lib.hid (show ¬ b.size = 191 by omega)
  go_enter Try.func3, Try.ntmps3
  go_wp2_with fail
  refine (full_any w _ 191 _ (by omega) (by omega) (Keeps.refl w)).mono ?_
  rintro e wk1 ⟨rfl, hk1⟩
  generalize hdd : ls a ++ z8 (191 - a.size) = dd at *
  have HDD := Lib.hid hdd
  clear hdd
  go_wp2_with fail
  refine (enc_any w _ _ HD.out hk1).mono ?_
  rintro e wk2 ⟨p2, rfl, hp2, hw2, hk2⟩
  clear hk1
  rw [ls_st] at hw2
  rw [id]
  have HP2 := Lib.hid hp2
  have HW2 := Lib.hid hw2
  have hl2 : (p2.length : Int) = 64 := by omega
  clear hp2 hw2
  go_wp2_with fail
  refine (word_any w _ _ HD.out hk2).mono ?_
  rintro e wk3 ⟨p3, rfl, hp3, hw3, hk3⟩
  clear hk2
  rw [ls_st] at hw3
  obtain rfl : p2 = p3 := parity_one HP2.out hp3 HW2.out hw3
  rw [ls_st]
  clear hp3 hw3
  go_wp2_with fail
  refine (short_any w _ _ (by omega) hk3).mono ?_
  rintro e wk4 ⟨p4, rfl, hp4, hw4, hk4⟩
  clear hk3
  rw [HDD.out] at hw4
  obtain rfl : p2 = p4 := parity_one HP2.out hp4 HW2.out hw4
  rw [id]
  clear hp4 hw4
  have hcat := cat_st (st dd) p2
  rw [ls_st] at hcat
  have HIS := Lib.hid (show isB (ls (st (dd ++ p2))) = true by rw [ls_st]; exact (isB_iff _).2 HW2.out)
  have hds : (dd.length : Int) = 191 := by have := HD.out; rw [st_size] at this; omega
  go_wp2_with fail
  refine (ris_any w _ _ hk4).mono ?_
  rintro e wk5 ⟨rfl, hk5⟩
  clear hk4
  rw [HIS.out]
  go_wp2_with fail
  refine (enc_arg w _ _ HN.out (by omega) hk5).mono ?_
  rintro e wk6 ⟨rfl, hk6⟩
  clear hk5
  go_wp2_with fail
  refine (word_arg w _ _ HN.out (by omega) hk6).mono ?_
  rintro e wk7 ⟨rfl, hk7⟩
  clear hk6
  go_wp2_with fail
  refine (short_any w _ _ (by omega) hk7).mono ?_
  rintro e wk8 ⟨p8, rfl, hp8, hw8, hk8⟩
  clear hk7
  clear hp8 hw8
  go_wp2_with fail
  refine (rsgen_any w _ hk8).mono ?_
  rintro e wk9 ⟨rfl, hk9⟩
  clear hk8
  go_wp2_with fail
  refine (rgen_any w _ hk9).mono ?_
  rintro e wk10 ⟨rfl, hk10⟩
  clear hk9
  go_wp2_with fail
  refine (awake3_any w _ hk10).mono ?_
  rintro e wk11 ⟨rfl, hk11⟩
  clear hk10
  go_wp2
  go_ret
  exact ⟨rfl, hk11⟩
set_option maxRecDepth 100000 in
set_option maxHeartbeats 4000000 in
theorem core_gt (a b : ByteArray) (w : World) (h0 : (a.size : Int) ≤ 191) (h1 : (b.size : Int) ≤ 400) (hb : 191 < b.size) :
    Calls Try.prog 3 #[.string a, .string b] w fun e w' => e = .returned (.bool true) ∧ Keeps w w' := by
  have hd : (st (ls a ++ z8 (191 - a.size))).size = 191 := by rw [st_size, List.length_append, z8_length, ← ls_size]; omega
  have HD := Lib.hid hd
  clear hd
  have hst := st_toList
  have hsz := st_size
  have hne : (((b.size : Nat) : Int) != 191) = true := by rw [bne_iff_ne]; omega
  have HN := Lib.hid (show ¬ b.size = 191 by omega)
  go_enter Try.func3, Try.ntmps3
  go_wp2_with fail
  refine (full_any w _ 191 _ (by omega) (by omega) (Keeps.refl w)).mono ?_
  rintro e wk1 ⟨rfl, hk1⟩
  generalize hdd : ls a ++ z8 (191 - a.size) = dd at *
  have HDD := Lib.hid hdd
  clear hdd
  go_wp2_with fail
  refine (enc_any w _ _ HD.out hk1).mono ?_
  rintro e wk2 ⟨p2, rfl, hp2, hw2, hk2⟩
  clear hk1
  rw [ls_st] at hw2
  rw [id]
  have HP2 := Lib.hid hp2
  have HW2 := Lib.hid hw2
  have hl2 : (p2.length : Int) = 64 := by omega
  clear hp2 hw2
  go_wp2_with fail
  refine (word_any w _ _ HD.out hk2).mono ?_
  rintro e wk3 ⟨p3, rfl, hp3, hw3, hk3⟩
  clear hk2
  rw [ls_st] at hw3
  obtain rfl : p2 = p3 := parity_one HP2.out hp3 HW2.out hw3
  rw [ls_st]
  clear hp3 hw3
  go_wp2_with fail
  refine (short_any w _ _ (by omega) hk3).mono ?_
  rintro e wk4 ⟨p4, rfl, hp4, hw4, hk4⟩
  clear hk3
  rw [HDD.out] at hw4
  obtain rfl : p2 = p4 := parity_one HP2.out hp4 HW2.out hw4
  rw [id]
  clear hp4 hw4
  have hcat := cat_st (st dd) p2
  rw [ls_st] at hcat
  have HIS := Lib.hid (show isB (ls (st (dd ++ p2))) = true by rw [ls_st]; exact (isB_iff _).2 HW2.out)
  have hds : (dd.length : Int) = 191 := by have := HD.out; rw [st_size] at this; omega
  go_wp2_with fail
  refine (ris_any w _ _ hk4).mono ?_
  rintro e wk5 ⟨rfl, hk5⟩
  clear hk4
  rw [HIS.out]
  go_wp2_with fail
  refine (enc_arg w _ _ HN.out (by omega) hk5).mono ?_
  rintro e wk6 ⟨rfl, hk6⟩
  clear hk5
  go_wp2_with fail
  refine (word_arg w _ _ HN.out (by omega) hk6).mono ?_
  rintro e wk7 ⟨rfl, hk7⟩
  clear hk6
  go_wp2_with fail
  refine (short_arg w _ _ (by omega) (by omega) hk7).mono ?_
  rintro e wk8 ⟨rfl, hk8⟩
  clear hk7
  go_wp2_with fail
  refine (rsgen_any w _ hk8).mono ?_
  rintro e wk9 ⟨rfl, hk9⟩
  clear hk8
  go_wp2_with fail
  refine (rgen_any w _ hk9).mono ?_
  rintro e wk10 ⟨rfl, hk10⟩
  clear hk9
  go_wp2_with fail
  refine (awake3_any w _ hk10).mono ?_
  rintro e wk11 ⟨rfl, hk11⟩
  clear hk10
  go_wp2
  go_ret
  exact ⟨rfl, hk11⟩
theorem walk (a : ByteArray) (wa : a.size ≤ maxLen) (b : ByteArray) (wb : b.size ≤ maxLen) (w : World) :
    Calls Try.prog 3 #[.string a, .string b] w fun e w' => e = .returned (.bool true) ∧ Below w.heap.size w w' := by
  by_cases h0 : 191 < (a.size : Int)
  · exact off1 a b w h0
  by_cases h1 : 400 < (b.size : Int)
  · exact off2 a b w (by omega) h1
  rcases Nat.lt_trichotomy b.size 191 with h | h | h
  · exact core_lt a b w (by omega) (by omega) h
  · exact core_eq a b w (by omega) (by omega) h
  · exact core_gt a b w (by omega) (by omega) h

theorem own : ownKnob Try.prog.godebug = none := by kernel_rfl
theorem laidOut : laidOutB Try.prog = true := by kernel_rfl
set_option maxRecDepth 100000 in
theorem lifted (os : Os) (started : os.Started) (H : Type) (enc : TypeId × Value → H) :
    ReturnsInHanded {} Try.checked os 3 .any (Rows.rsEncodesSpec.pre6 enc Try.prog Try.f3 Rows.rsEncodesRow.domain false) (Rows.rsEncodesSpec.post enc Try.prog Try.f3 false true false false) := by
  refine returnsInHanded_of_change (C := Try.checked) own started (by kernel_rfl) Try.func3
    (ChangeSpec.witness6 (enc := enc) (C := Try.checked) false ⟨#[], #[.string ByteArray.empty, .string ByteArray.empty], []⟩ 8 (by kernel_rfl) (by kernel_rfl) (by kernel_rfl) (by kernel_rfl)) ?_
  intro W base args ds gs before hval0 hW hcnd _
  have hval : ∀ (j : Nat) t v, Try.f3.params[j]? = some t → args[j]? = some v → Value.okWide Try.prog W .any base t v := hval0
  have hW' := hW
  obtain ⟨p, q, hA0, hV, rfl, hfz, hnd⟩ := hW
  have hA : DataW.TrodAll enc Try.prog W 0 (fun _ => true) true Try.f3.params.toList args.toList ds p := hA0
  rw [Try.params3] at hA hval
  obtain ⟨v0, vs0, d0, ds0, p0, q0, hargs, rfl, rfl, h0, r0⟩ := trodAll_cons hA
  obtain ⟨v1, vs1, d1, ds1, p1, q1, rfl, rfl, rfl, h1, r1⟩ := trodAll_cons r0
  obtain ⟨rfl, rfl, rfl⟩ := trodAll_nil r1
  obtain rfl : args = #[v0, v1] := by cases args; simp_all
  obtain ⟨rfl, rfl⟩ := trodVars_none hV
  obtain ⟨a0, rfl, rfl, rfl, w0⟩ := open_string Try.underlying9 (hval 0 9 v0 rfl rfl) h0
  obtain ⟨a1, rfl, rfl, rfl, w1⟩ := open_string Try.underlying9 (hval 1 9 v1 rfl rfl) h1
  clear hA0 hval0
  refine (walk a0 w0 a1 w1 W).mono fun e W' ⟨he, bel⟩ => ?_
  subst he
  exact ⟨_, rfl, _, _, _, [], _, [], hW', trodAll_mk1 (shut_bool Try.underlying4 _), (trodAll_cons_mk (shut_string Try.underlying9 w0) (trodAll_cons_mk (shut_string Try.underlying9 w1) trodAll_mk0)), rfl, bel.frame _, fun h => by cases h⟩

theorem over : Rows.rsEncodesRow.holds Try.pinned (OpenSpec.ofChange Rows.rsEncodesSpec) :=
  OpenClaim.holds_of_wide 3 Try.f3 rfl rfl rfl rfl rfl rfl rfl ⟨rfl, rfl, rfl, rfl, rfl⟩ rfl rfl rfl rfl rfl (by kernel_rfl) Try.func3 (by kernel_rfl)
    (of_decide_eq_true (by kernel_rfl)) (by unfold Func.isWrapper; first | (rw [if_pos (by decide +kernel)]; kernel_rfl) | (rw [if_neg (by decide +kernel)]; exact ⟨rfl, rfl⟩))
    (fun os started H enc _ => lifted os started H enc)

theorem proved : Rows.RsEncodesSaid := over
#print axioms proved
end Go.Proofs.Ytachbccoehlcjaa.rsEncodes
