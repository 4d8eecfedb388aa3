/-
  For any two strings and any byte PolyRoots returns true: values of products and sums, where Roots is 0, and the rest behind x + a; nothing that was there is changed. No condition.
-/
import Derived.Test.YthaiamagdifhjaaRows
import Derived.Test.YthaiamagdifhjaaPolyLaw
import Derived.OpenShut
import Derived.ShutString
import Derived.ChangeOld
import Derived.Carry
import Derived.WalkLawsBesides
namespace Go.Proofs.Ythaiamagdifhjaa.polyRoots
open Go.ChangeShapes Go.WideShapes Go.ChangeAt Go.RowKit Gf
open Go.ChangeMaps (open_string shut_string)
set_option linter.unusedVariables false
set_option maxRecDepth 100000 in
set_option maxHeartbeats 4000000 in
theorem off (a b : ByteArray) (x : UInt8) (w : World) (hf : fewB a b { data := #[] } = false) :
    Calls Try.prog 7 #[.string a, .string b, .int .u8 (x.toNat : Int)] w fun e w' => e = .returned (.bool true) ∧ Keeps w w' := by
  go_enter Try.func7, Try.ntmps7
  go_wp2_with fail
  refine (few_any _ _ _ _).mono ?_
  rintro e wz ⟨rfl, rfl⟩
  rw [hf]
  go_wp2_with fail
  refine (awake2_any w _ (Keeps.refl w)).mono ?_
  rintro e wk1 ⟨rfl, hk1⟩
  go_wp2
  go_ret
  exact ⟨rfl, hk1⟩
set_option maxRecDepth 100000 in
set_option maxHeartbeats 4000000 in
theorem off2 (a b : ByteArray) (x : UInt8) (w : World) (hf : fewB a b { data := #[] } = true) (hl : 20 < b.size) :
    Calls Try.prog 7 #[.string a, .string b, .int .u8 (x.toNat : Int)] w fun e w' => e = .returned (.bool true) ∧ Keeps w w' := by
  obtain ⟨sa, sb, sc⟩ := few_true hf
  have h2 : (20 : Int) < (b.size : Int) := by omega
  go_enter Try.func7, Try.ntmps7
  go_wp2_with fail
  refine (few_any _ _ _ _).mono ?_
  rintro e wz ⟨rfl, rfl⟩
  rw [hf]
  go_wp2_with fail
  refine (awake2_any w _ (Keeps.refl w)).mono ?_
  rintro e wk1 ⟨rfl, hk1⟩
  go_wp2
  go_ret
  exact ⟨rfl, hk1⟩
theorem rest_at {q r a : List UInt8} {x : UInt8} (hr : trim r = r) (hl : r.length < (trim [x, 1]).length) (hd : padd (pmul q [x, 1]) r = trim a) : r = trim [pat a x] := by
  rw [trim_x] at hl
  have hv : pat r x = pat a x := by
    have h := congrArg (fun p => pat p x) hd
    simp only [pat_padd, pat_pmul, pat_two, xor_s, fm_zero, z_xor, pat_trim] at h; exact h
  match r, hl with
  | [], _ => rw [← hv]; rfl
  | [c], _ => rw [← hv, pat_one]; exact hr.symm
theorem trim_c {c : UInt8} (h : c ≠ 0) : trim [c] = [c] := trim_self fun _ => h
def inB (l : List UInt8) (x : UInt8) : Bool := l.contains x
def rRel (l : List UInt8) (x : UInt8) (v i : Value) : Prop := ∃ k : Nat, k ≤ l.length ∧ v = .bool (inB (l.take k) x) ∧ i = .int .i64 k
theorem inB_next {l : List UInt8} {k : Nat} (h : k < l.length) (x : UInt8) : inB (l.take (k + 1)) x = (inB (l.take k) x || cf l k == x) := by
  unfold inB
  rw [Bool.eq_iff_iff]
  simp only [List.contains_iff_mem, Bool.or_eq_true, beq_iff_eq]
  rw [List.take_succ_eq_append_getElem h, cf_lt h]
  simp only [List.mem_append, List.mem_singleton]
  constructor
  · rintro (h1 | h1)
    · exact Or.inl h1
    · exact Or.inr h1.symm
  · rintro (h1 | h1)
    · exact Or.inl h1
    · exact Or.inr h1.symm
theorem root_in (l : List UInt8) (x : UInt8) : (((pat (proots l) x).toNat : Int) == 0) = inB l x := by
  rw [Bool.eq_iff_iff]
  unfold inB
  simp only [beq_iff_eq, List.contains_iff_mem]
  rw [← proots_zero l x]
  constructor
  · exact u8_zero
  · intro h; rw [h]; rfl
theorem u8_eq (a b : UInt8) : ((a.toNat : Int) == (b.toNat : Int)) = (a == b) := by
  rw [Bool.eq_iff_iff]; simp only [beq_iff_eq]
  constructor
  · intro h; exact u8_ext (by omega)
  · intro h; rw [h]
set_option maxRecDepth 100000 in
set_option maxHeartbeats 4000000 in
theorem core0 (a b : ByteArray) (x : UInt8) (w : World) (hf : fewB a b { data := #[] } = true) (hl : ¬ 20 < b.size) (hv : pat (ls a) x = 0) :
    Calls Try.prog 7 #[.string a, .string b, .int .u8 (x.toNat : Int)] w fun e w' => e = .returned (.bool true) ∧ Keeps w w' := by
  obtain ⟨sa, sb, sc⟩ := few_true hf
  have la := ls_len sa
  have lb := ls_len sb
  have lc := ls_len sc
  have Zab := Lib.hid (show (st (padd (ls a) (ls b))).size ≤ 100000 by rw [st_size]; have := padd_len (ls a) (ls b); omega)
  have Mab := Lib.hid (show (st (pmul (ls a) (ls b))).size ≤ 100000 by rw [st_size]; have := pmul_len (ls a) (ls b); omega)
  have ZR := Lib.hid (show (st (proots (ls b))).size ≤ 100000 by rw [st_size, proots_length]; omega)
  have h20 : (b.size : Int) ≤ 20 := by omega
  have HD := Lib.hid (show ((trim (ls (st (proots (ls b))))).length : Int) - 1 = (b.size : Int) by rw [ls_st, proots_trim, proots_length, ls_size]; omega)
  have HI := Lib.hid (root_in (ls b) x)
  have HV := Lib.hid hv
  clear hv
  have hst := st_toList
  go_enter Try.func7, Try.ntmps7
  go_wp2_with fail
  refine (few_any _ _ _ _).mono ?_
  rintro e wz ⟨rfl, rfl⟩
  rw [hf]
  go_wp2_with fail
  refine (pmul_any w _ _ _ (by omega) (by omega) (Keeps.refl w)).mono ?_
  rintro e wk1 ⟨rfl, hk1⟩
  go_wp2_with fail
  refine (pat_any w _ x _ Mab.out hk1).mono ?_
  rintro e wk2 ⟨rfl, hk2⟩
  clear hk1
  rw [ls_st, pat_pmul]
  go_wp2_with fail
  refine (pat_any w _ x _ (by omega) hk2).mono ?_
  rintro e wk3 ⟨rfl, hk3⟩
  clear hk2
  go_wp2_with fail
  refine (pat_any w _ x _ (by omega) hk3).mono ?_
  rintro e wk4 ⟨rfl, hk4⟩
  clear hk3
  go_wp2_with fail
  refine (rmul8 _ _ _).mono ?_
  rintro e wz ⟨rfl, rfl⟩
  go_wp2_with fail
  refine (padd_two w _ _ _ _ (by omega) (by omega) hk4).mono ?_
  rintro e wk5 ⟨rfl, hk5⟩
  clear hk4
  go_wp2_with fail
  refine (pat_any w _ x _ Zab.out hk5).mono ?_
  rintro e wk6 ⟨rfl, hk6⟩
  clear hk5
  rw [ls_st, pat_padd]
  go_wp2_with fail
  refine (pat_any w _ x _ (by omega) hk6).mono ?_
  rintro e wk7 ⟨rfl, hk7⟩
  clear hk6
  go_wp2_with fail
  refine (pat_any w _ x _ (by omega) hk7).mono ?_
  rintro e wk8 ⟨rfl, hk8⟩
  clear hk7
  go_wp2_with fail
  refine (radd8 _ _ _).mono ?_
  rintro e wz ⟨rfl, rfl⟩
  go_wp2_with fail
  refine (proots_any w _ _ (by omega) hk8).mono ?_
  rintro e wk9 ⟨rfl, hk9⟩
  clear hk8
  go_wp2
  go_loop [8, 9] (fun v i => rRel (ls b) x v i) (fun _ i => b.size - (intOf i).toNat)
  case atStart => exact ⟨0, by omega, rfl, rfl⟩
  case round =>
    obtain ⟨k, hk, rfl, rfl⟩ := hrel
    rw [← ls_size] at hk
    by_cases hlt : k < b.size
    · have HG := Lib.hid (ls_get b k hlt)
      have HN := Lib.hid (inB_next (l := ls b) (k := k) (by rw [← ls_size]; exact hlt) x)
      have HU := Lib.hid (u8_eq b[k] x)
      cases hin : inB ((ls b).take k) x
      · have HX := Lib.hid hin
        clear hin
        go_wp2
        go_round
        case rel => exact ⟨k + 1, by rw [← ls_size]; omega, by rw [HN.out, HX.out, HU.out, HG.out]; rfl, by go_num⟩
        case measure => simp [intOf]; omega
      · have HX := Lib.hid hin
        clear hin
        go_wp2
        go_round
        case rel => exact ⟨k + 1, by rw [← ls_size]; omega, by rw [HN.out, HX.out]; rfl, by go_num⟩
        case measure => simp [intOf]; omega
    · have HE := Lib.hid (show inB ((ls b).take k) x = inB (ls b) x by rw [List.take_of_length_le (by rw [← ls_size]; omega)])
      rw [HE.out]
      generalize hin : inB (ls b) x = c at *
      have HIN := Lib.hid hin
      clear hin
      go_wp2_with fail
      refine (pat_any w _ x _ ZR.out hk9).mono ?_
      rintro e wk10 ⟨rfl, hk10⟩
      clear hk9
      rw [ls_st]
      have hroot := HI.out
      go_wp2_with fail
      refine (pdeg_any w _ _ ZR.out hk10).mono ?_
      rintro e wk11 ⟨rfl, hk11⟩
      clear hk10
      rw [HD.out]
      clear hroot
      have hcv : (convert 35 9 (.slice (some ⟨wk11.heap.size, 0, none⟩) 2 2)).run Try.prog (wk11.alloc (.cells #[.int .u8 (x.toNat : Int), .int .u8 1] 5)) =
          .ok (.string (st [x, 1])) (wk11.alloc (.cells #[.int .u8 (x.toNat : Int), .int .u8 1] 5)) := text2 wk11 x 1
      go_wp2_with fail
      refine (pdiv_any w _ _ _ (by omega) (by rw [st_size]; simp) (by rw [ls_st, trim_x]; simp) (hk11.alloc _)).mono ?_
      rintro e w9 ⟨q, r, rfl, hq, hr, hl2, hd, hk9⟩
      clear hk11 hcv
      rw [ls_st] at hl2 hd
      have hrr := rest_at hr hl2 hd
      clear hq hr hl2 hd
      rw [HV.out] at hrr
      subst hrr
      rw [show trim [(0 : UInt8)] = [] by decide]
      go_wp2_with fail
      refine (pat_any w _ x _ (by omega) hk9).mono ?_
      rintro e wk21 ⟨rfl, hk21⟩
      clear hk9
      rw [HV.out]
      go_wp2_with fail
      refine (awake2_any w _ hk21).mono ?_
      rintro e wk22 ⟨rfl, hk22⟩
      clear hk21
      go_wp2
      go_ret
      exact ⟨rfl, hk22⟩
set_option maxRecDepth 100000 in
set_option maxHeartbeats 4000000 in
theorem core1 (a b : ByteArray) (x : UInt8) (w : World) (hf : fewB a b { data := #[] } = true) (hl : ¬ 20 < b.size) (hv : pat (ls a) x ≠ 0) :
    Calls Try.prog 7 #[.string a, .string b, .int .u8 (x.toNat : Int)] w fun e w' => e = .returned (.bool true) ∧ Keeps w w' := by
  obtain ⟨sa, sb, sc⟩ := few_true hf
  have la := ls_len sa
  have lb := ls_len sb
  have lc := ls_len sc
  have Zab := Lib.hid (show (st (padd (ls a) (ls b))).size ≤ 100000 by rw [st_size]; have := padd_len (ls a) (ls b); omega)
  have Mab := Lib.hid (show (st (pmul (ls a) (ls b))).size ≤ 100000 by rw [st_size]; have := pmul_len (ls a) (ls b); omega)
  have ZR := Lib.hid (show (st (proots (ls b))).size ≤ 100000 by rw [st_size, proots_length]; omega)
  have h20 : (b.size : Int) ≤ 20 := by omega
  have HD := Lib.hid (show ((trim (ls (st (proots (ls b))))).length : Int) - 1 = (b.size : Int) by rw [ls_st, proots_trim, proots_length, ls_size]; omega)
  have HI := Lib.hid (root_in (ls b) x)
  have HV := Lib.hid hv
  have hv0 : (((pat (ls a) x).toNat : Int) == 0) = false := by rw [beq_eq_false_iff_ne]; intro e; exact hv (u8_zero e)
  have hv1 : (((pat (ls a) x).toNat : Int) != 0) = true := by rw [bne_iff_ne]; intro e; exact hv (u8_zero e)
  clear hv
  have hst := st_toList
  go_enter Try.func7, Try.ntmps7
  go_wp2_with fail
  refine (few_any _ _ _ _).mono ?_
  rintro e wz ⟨rfl, rfl⟩
  rw [hf]
  go_wp2_with fail
  refine (pmul_any w _ _ _ (by omega) (by omega) (Keeps.refl w)).mono ?_
  rintro e wk1 ⟨rfl, hk1⟩
  go_wp2_with fail
  refine (pat_any w _ x _ Mab.out hk1).mono ?_
  rintro e wk2 ⟨rfl, hk2⟩
  clear hk1
  rw [ls_st, pat_pmul]
  go_wp2_with fail
  refine (pat_any w _ x _ (by omega) hk2).mono ?_
  rintro e wk3 ⟨rfl, hk3⟩
  clear hk2
  go_wp2_with fail
  refine (pat_any w _ x _ (by omega) hk3).mono ?_
  rintro e wk4 ⟨rfl, hk4⟩
  clear hk3
  go_wp2_with fail
  refine (rmul8 _ _ _).mono ?_
  rintro e wz ⟨rfl, rfl⟩
  go_wp2_with fail
  refine (padd_two w _ _ _ _ (by omega) (by omega) hk4).mono ?_
  rintro e wk5 ⟨rfl, hk5⟩
  clear hk4
  go_wp2_with fail
  refine (pat_any w _ x _ Zab.out hk5).mono ?_
  rintro e wk6 ⟨rfl, hk6⟩
  clear hk5
  rw [ls_st, pat_padd]
  go_wp2_with fail
  refine (pat_any w _ x _ (by omega) hk6).mono ?_
  rintro e wk7 ⟨rfl, hk7⟩
  clear hk6
  go_wp2_with fail
  refine (pat_any w _ x _ (by omega) hk7).mono ?_
  rintro e wk8 ⟨rfl, hk8⟩
  clear hk7
  go_wp2_with fail
  refine (radd8 _ _ _).mono ?_
  rintro e wz ⟨rfl, rfl⟩
  go_wp2_with fail
  refine (proots_any w _ _ (by omega) hk8).mono ?_
  rintro e wk9 ⟨rfl, hk9⟩
  clear hk8
  go_wp2
  go_loop [8, 9] (fun v i => rRel (ls b) x v i) (fun _ i => b.size - (intOf i).toNat)
  case atStart => exact ⟨0, by omega, rfl, rfl⟩
  case round =>
    obtain ⟨k, hk, rfl, rfl⟩ := hrel
    rw [← ls_size] at hk
    by_cases hlt : k < b.size
    · have HG := Lib.hid (ls_get b k hlt)
      have HN := Lib.hid (inB_next (l := ls b) (k := k) (by rw [← ls_size]; exact hlt) x)
      have HU := Lib.hid (u8_eq b[k] x)
      cases hin : inB ((ls b).take k) x
      · have HX := Lib.hid hin
        clear hin
        go_wp2
        go_round
        case rel => exact ⟨k + 1, by rw [← ls_size]; omega, by rw [HN.out, HX.out, HU.out, HG.out]; rfl, by go_num⟩
        case measure => simp [intOf]; omega
      · have HX := Lib.hid hin
        clear hin
        go_wp2
        go_round
        case rel => exact ⟨k + 1, by rw [← ls_size]; omega, by rw [HN.out, HX.out]; rfl, by go_num⟩
        case measure => simp [intOf]; omega
    · have HE := Lib.hid (show inB ((ls b).take k) x = inB (ls b) x by rw [List.take_of_length_le (by rw [← ls_size]; omega)])
      rw [HE.out]
      generalize hin : inB (ls b) x = c at *
      have HIN := Lib.hid hin
      clear hin
      go_wp2_with fail
      refine (pat_any w _ x _ ZR.out hk9).mono ?_
      rintro e wk10 ⟨rfl, hk10⟩
      clear hk9
      rw [ls_st]
      have hroot := HI.out
      go_wp2_with fail
      refine (pdeg_any w _ _ ZR.out hk10).mono ?_
      rintro e wk11 ⟨rfl, hk11⟩
      clear hk10
      rw [HD.out]
      clear hroot
      have hcv : (convert 35 9 (.slice (some ⟨wk11.heap.size, 0, none⟩) 2 2)).run Try.prog (wk11.alloc (.cells #[.int .u8 (x.toNat : Int), .int .u8 1] 5)) =
          .ok (.string (st [x, 1])) (wk11.alloc (.cells #[.int .u8 (x.toNat : Int), .int .u8 1] 5)) := text2 wk11 x 1
      go_wp2_with fail
      refine (pdiv_any w _ _ _ (by omega) (by rw [st_size]; simp) (by rw [ls_st, trim_x]; simp) (hk11.alloc _)).mono ?_
      rintro e w9 ⟨q, r, rfl, hq, hr, hl2, hd, hk9⟩
      clear hk11 hcv
      rw [ls_st] at hl2 hd
      have hrr := rest_at hr hl2 hd
      clear hq hr hl2 hd
      rw [trim_c HV.out] at hrr
      subst hrr
      go_wp2_with fail
      refine (pat_any w _ x _ (by omega) hk9).mono ?_
      rintro e wk21 ⟨rfl, hk21⟩
      clear hk9
      have hcv1 := text1 wk21 (pat (ls a) x)
      go_wp2_with fail
      refine (awake2_any w _ (hk21.alloc _)).mono ?_
      rintro e wk22 ⟨rfl, hk22⟩
      clear hk21
      go_wp2
      go_ret
      exact ⟨rfl, hk22⟩
theorem walk (a : ByteArray) (wa : a.size ≤ maxLen) (b : ByteArray) (wb : b.size ≤ maxLen) (n : Int) (wn : (Lit.int .u8 n).wf = true) (w : World) :
    Calls Try.prog 7 #[.string a, .string b, .int .u8 n] w fun e w' => e = .returned (.bool true) ∧ Below w.heap.size w w' := by
  obtain ⟨x, rfl⟩ := u8_of (bounds_u8 wn)
  cases hf : fewB a b { data := #[] }
  · exact off a b x w hf
  · by_cases hl : 20 < b.size
    · exact off2 a b x w hf hl
    · by_cases hv : pat (ls a) x = 0
      · exact core0 a b x w hf hl hv
      · exact core1 a b x w hf hl hv

theorem own : ownKnob Try.prog.godebug = none := by kernel_rfl
theorem laidOut : laidOutB Try.prog = true := by kernel_rfl
set_option maxRecDepth 100000 in
theorem lifted (os : Os) (started : os.Started) (H : Type) (enc : TypeId × Value → H) :
    ReturnsInHanded {} Try.checked os 7 .any (Rows.polyRootsSpec.pre6 enc Try.prog Try.f7 Rows.polyRootsRow.domain false) (Rows.polyRootsSpec.post enc Try.prog Try.f7 false true false false) := by
  refine returnsInHanded_of_change (C := Try.checked) own started (by kernel_rfl) Try.func7
    (ChangeSpec.witness6 (enc := enc) (C := Try.checked) false ⟨#[], #[.string ByteArray.empty, .string ByteArray.empty, .int .u8 0], []⟩ 8 (by kernel_rfl) (by kernel_rfl) (by kernel_rfl) (by kernel_rfl)) ?_
  intro W base args ds gs before hval0 hW hcnd _
  have hval : ∀ (j : Nat) t v, Try.f7.params[j]? = some t → args[j]? = some v → Value.okWide Try.prog W .any base t v := hval0
  have hW' := hW
  obtain ⟨p, q, hA0, hV, rfl, hfz, hnd⟩ := hW
  have hA : DataW.TrodAll enc Try.prog W 0 (fun _ => true) true Try.f7.params.toList args.toList ds p := hA0
  rw [Try.params7] at hA hval
  obtain ⟨v0, vs0, d0, ds0, p0, q0, hargs, rfl, rfl, h0, r0⟩ := trodAll_cons hA
  obtain ⟨v1, vs1, d1, ds1, p1, q1, rfl, rfl, rfl, h1, r1⟩ := trodAll_cons r0
  obtain ⟨v2, vs2, d2, ds2, p2, q2, rfl, rfl, rfl, h2, r2⟩ := trodAll_cons r1
  obtain ⟨rfl, rfl, rfl⟩ := trodAll_nil r2
  obtain rfl : args = #[v0, v1, v2] := by cases args; simp_all
  obtain ⟨rfl, rfl⟩ := trodVars_none hV
  obtain ⟨a0, rfl, rfl, rfl, w0⟩ := open_string Try.underlying9 (hval 0 9 v0 rfl rfl) h0
  obtain ⟨a1, rfl, rfl, rfl, w1⟩ := open_string Try.underlying9 (hval 1 9 v1 rfl rfl) h1
  obtain ⟨a2, rfl, rfl, rfl, w2⟩ := open_int Try.underlying5 (hval 2 5 v2 rfl rfl) h2
  clear hA0 hval0
  refine (walk a0 w0 a1 w1 a2 w2 W).mono fun e W' ⟨he, bel⟩ => ?_
  subst he
  exact ⟨_, rfl, _, _, _, [], _, [], hW', trodAll_mk1 (shut_bool Try.underlying4 _), (trodAll_cons_mk (shut_string Try.underlying9 w0) (trodAll_cons_mk (shut_string Try.underlying9 w1) (trodAll_cons_mk (shut_int Try.underlying5 w2) trodAll_mk0))), rfl, bel.frame _, fun h => by cases h⟩

theorem over : Rows.polyRootsRow.holds Try.pinned (OpenSpec.ofChange Rows.polyRootsSpec) :=
  OpenClaim.holds_of_wide 7 Try.f7 rfl rfl rfl rfl rfl rfl rfl ⟨rfl, rfl, rfl, rfl, rfl⟩ rfl rfl rfl rfl rfl (by kernel_rfl) Try.func7 (by kernel_rfl)
    (of_decide_eq_true (by kernel_rfl)) (by unfold Func.isWrapper; first | (rw [if_pos (by decide +kernel)]; kernel_rfl) | (rw [if_neg (by decide +kernel)]; exact ⟨rfl, rfl⟩))
    (fun os started H enc _ => lifted os started H enc)

theorem proved : Rows.PolyRootsSaid := over
#print axioms proved
end Go.Proofs.Ythaiamagdifhjaa.polyRoots
