/-
  For any string and any list of places MendSure returns true: what is answered of any text is a word that it is near, or ErrMend, and a word is mended to itself; nothing that was there is changed. No condition.
-/
import Derived.Test.YtdlcloenihkkgaaRows
import Derived.Test.YtdlcloenihkkgaaMendLaw
import Derived.Deep.RegionWith
import Derived.OpenShut
import Derived.ShutString
import Derived.ChangeOld
import Derived.Carry
import Derived.WalkLawsBesides
namespace Go.Proofs.Ytdlcloenihkkgaa.mendSure
open Go.ChangeShapes Go.WideShapes Go.ChangeAt Go.RowKit Gf
set_option maxRecDepth 100000
open Go.ChangeMaps (open_string shut_string)
set_option linter.unusedVariables false
set_option maxRecDepth 100000 in
set_option maxHeartbeats 4000000 in
theorem off (a : Option Addr) (len cap : Nat) (d : ByteArray) (w : World) (h : 255 < (d.size : Int) ∨ ((d.size : Int) ≤ 255 ∧ 80 < (len : Int))) :
    Calls Try.prog 5 #[.string d, .slice a len cap] w fun e w' => e = .returned (.bool true) ∧ Keeps w w' := by
  rcases h with h | ⟨h1, h⟩
  all_goals
    go_enter Try.func5, Try.ntmps5
    go_wp2_with fail
    refine (awake4_any w _ (Keeps.refl w)).mono ?_
    rintro e wk1 ⟨rfl, hk1⟩
    go_wp2
    go_ret
    exact ⟨rfl, hk1⟩
set_option maxRecDepth 100000 in
set_option maxHeartbeats 4000000 in
theorem coreA (a : Option Addr) (len cap : Nat) (l : List Int) (d : ByteArray) (s : List UInt8) (w : World) (hr : IsI w a len l) (h0 : (d.size : Int) ≤ 255) (h1 : (len : Int) ≤ 80) (hs : ls d ++ z8 (255 - d.size) = s) (hsl : s.length = 255) (hok : ¬ OkP l l.length) :
    Calls Try.prog 5 #[.string d, .slice a len cap] w fun e w' => e = .returned (.bool true) ∧ Keeps w w' := by
  have hst := st_toList
  have hs255 : (st s).size ≤ 1000 := by rw [st_size, hsl]; omega
  have HR := Lib.hid hr
  have HSL := Lib.hid hsl
  clear hr hsl
  have HOK := Lib.hid (show ¬ (s.length = 255 ∧ OkP l l.length) from fun h => hok h.2)
  have HB := Lib.hid (places_no hok)
  clear hok
  go_enter Try.func5, Try.ntmps5
  go_wp2_with fail
  refine (full_any w _ 255 _ (by omega) (by omega) (Keeps.refl w)).mono ?_
  rintro e w1 ⟨rfl, hk1⟩
  rw [hs]
  go_wp2_with fail
  refine (mword_any (st s) a len cap l w1 (HR.out.kept hk1) hs255 (by omega)).mono ?_
  rintro e w2 ⟨r1, ps1, er1, a1, n1, c1, rfl, hm1, hi1, hk2⟩
  rw [ls_st] at hm1
  obtain ⟨x1, x2, x3⟩ := hm1.args HOK.out
  rw [x2] at hi1
  rw [x1, x3]
  have HI1 := Lib.hid hi1
  have HN1 := Lib.hid hi1.1
  clear hm1 hi1 x1 x2 x3
  go_wp2_with fail
  refine (mdata_any (st s) a len cap l w2 ((HR.out.kept hk1).kept hk2) hs255 (by omega)).mono ?_
  rintro e w3 ⟨r1, ps1, er1, rfl, hm1, hk3⟩
  rw [ls_st] at hm1
  obtain ⟨x1, x2, x3⟩ := hm1.args HOK.out
  rw [x1, x3]
  clear hm1 x1 x2 x3
  have HR3 := Lib.hid (HR.out.kept ((hk1.over hk2).over hk3))
  have HK3 := Lib.hid ((hk1.over hk2).over hk3)
  have HI3 := Lib.hid (HI1.out.kept hk3)
  clear hk1 hk2 hk3
  have ht : ([] : List UInt8).take 191 = [] := rfl
  rw [ht]
  have hn1 : n1 = 0 := HN1.out.symm
  subst hn1
  go_wp2_with fail
  refine (rplaces_any a len cap l w3 HR3.out (by omega)).mono ?_
  rintro e w4 ⟨rfl, he4⟩
  rw [HB.out]
  have HK4 := Lib.hid (HK3.out.eqv he4)
  by_cases hl64 : (64 : Int) < (len : Int)
  · go_wp2_with fail
    refine (awake4_any w w4 HK4.out).mono ?_
    rintro e wk1 ⟨rfl, hk1⟩
    go_wp2
    go_ret
    exact ⟨rfl, hk1⟩
  · have hl64' : (len : Int) ≤ 64 := by omega
    clear hl64
    go_wp2_with fail
    refine (awake4_any w w4 HK4.out).mono ?_
    rintro e wk1 ⟨rfl, hk1⟩
    go_wp2
    go_ret
    exact ⟨rfl, hk1⟩
set_option maxRecDepth 100000 in
set_option maxHeartbeats 4000000 in
theorem coreB (a : Option Addr) (len cap : Nat) (l : List Int) (d : ByteArray) (s : List UInt8) (w : World) (hr : IsI w a len l) (h0 : (d.size : Int) ≤ 255) (h1 : (len : Int) ≤ 80) (hs : ls d ++ z8 (255 - d.size) = s) (hsl : s.length = 255) (hok : OkP l l.length) (hno : ∀ v, ¬ Near s l v) :
    Calls Try.prog 5 #[.string d, .slice a len cap] w fun e w' => e = .returned (.bool true) ∧ Keeps w w' := by
  have hst := st_toList
  have hs255 : (st s).size ≤ 1000 := by rw [st_size, hsl]; omega
  have HR := Lib.hid hr
  have HSL := Lib.hid hsl
  clear hr hsl
  have HOK := Lib.hid hok
  have HB := Lib.hid (places_yes hok)
  have HANS := Lib.hid (show MAns s l [] [] 19 from .inl ⟨HSL.out, hok, .inr ⟨hno, rfl, rfl, rfl⟩⟩)
  have HNW := Lib.hid (show (len : Int) ≤ 64 → isB s = false from fun h => by
    cases hb : isB s
    · rfl
    · exact absurd (near_self ((isB_iff s).1 hb) (L := l) (by rw [HR.out.1]; omega)) (hno s))
  clear hok hno
  go_enter Try.func5, Try.ntmps5
  go_wp2_with fail
  refine (full_any w _ 255 _ (by omega) (by omega) (Keeps.refl w)).mono ?_
  rintro e w1 ⟨rfl, hk1⟩
  rw [hs]
  go_wp2_with fail
  refine (mword_any (st s) a len cap l w1 (HR.out.kept hk1) hs255 (by omega)).mono ?_
  rintro e w2 ⟨r1, ps1, er1, a1, n1, c1, rfl, hm1, hi1, hk2⟩
  rw [ls_st] at hm1
  obtain ⟨x1, x2, x3⟩ := hm1.one HANS.out
  rw [x2] at hi1
  rw [x1, x3]
  have HI1 := Lib.hid hi1
  have HN1 := Lib.hid hi1.1
  clear hm1 hi1 x1 x2 x3
  go_wp2_with fail
  refine (mdata_any (st s) a len cap l w2 ((HR.out.kept hk1).kept hk2) hs255 (by omega)).mono ?_
  rintro e w3 ⟨r1, ps1, er1, rfl, hm1, hk3⟩
  rw [ls_st] at hm1
  obtain ⟨x1, x2, x3⟩ := hm1.one HANS.out
  rw [x1, x3]
  clear hm1 x1 x2 x3
  have HR3 := Lib.hid (HR.out.kept ((hk1.over hk2).over hk3))
  have HK3 := Lib.hid ((hk1.over hk2).over hk3)
  have HI3 := Lib.hid (HI1.out.kept hk3)
  clear hk1 hk2 hk3
  have ht : ([] : List UInt8).take 191 = [] := rfl
  rw [ht]
  have hn1 : n1 = 0 := HN1.out.symm
  subst hn1
  go_wp2_with fail
  refine (rplaces_any a len cap l w3 HR3.out (by omega)).mono ?_
  rintro e w4 ⟨rfl, he4⟩
  rw [HB.out]
  have HK4 := Lib.hid (HK3.out.eqv he4)
  by_cases hl64 : (64 : Int) < (len : Int)
  · go_wp2_with fail
    refine (awake4_any w w4 HK4.out).mono ?_
    rintro e wk1 ⟨rfl, hk1⟩
    go_wp2
    go_ret
    exact ⟨rfl, hk1⟩
  · have hl64' : (len : Int) ≤ 64 := by omega
    have HNI := Lib.hid (HNW.out hl64')
    clear hl64
    go_wp2_with fail
    refine (ris_any w (st s) w4 HK4.out).mono ?_
    rintro e w5 ⟨rfl, hk5⟩
    rw [ls_st, HNI.out]
    go_wp2_with fail
    refine (awake4_any w w5 hk5).mono ?_
    rintro e wk1 ⟨rfl, hk1⟩
    go_wp2
    go_ret
    exact ⟨rfl, hk1⟩
def csRel (w : World) (l ps : List Int) (nv i : Value) (wr : World) : Prop := ∃ k : Nat, k ≤ ps.length ∧ nv = .int .i64 (((ps.take k).countP (fun x => !inL l x) : Nat) : Int) ∧ i = .int .i64 (k : Int) ∧ w = wr
theorem count_next {l ps : List Int} {k : Nat} (h : k < ps.length) : (ps.take (k + 1)).countP (fun x => !inL l x) = (ps.take k).countP (fun x => !inL l x) + (if inL l (ps.getD k 0) then 0 else 1) := by
  rw [List.take_succ_eq_append_getElem h, List.countP_append, List.getD_eq_getElem?_getD, List.getElem?_eq_getElem h]
  congr 1
  simp only [Option.getD_some]
  rw [List.countP_singleton]
  by_cases hi : inL l ps[k] = true
  · simp [hi]
  · simp [hi]
set_option maxRecDepth 100000 in
set_option maxHeartbeats 4000000 in
theorem coreC (a : Option Addr) (len cap : Nat) (l : List Int) (d : ByteArray) (s : List UInt8) (w : World) (hr : IsI w a len l) (h0 : (d.size : Int) ≤ 255) (h1 : (len : Int) ≤ 80) (hs : ls d ++ z8 (255 - d.size) = s) (hsl : s.length = 255) (hok : OkP l l.length) (v : List UInt8) (hv : Near s l v) :
    Calls Try.prog 5 #[.string d, .slice a len cap] w fun e w' => e = .returned (.bool true) ∧ Keeps w w' := by
  have hst := st_toList
  have hs255 : (st s).size ≤ 1000 := by rw [st_size, hsl]; omega
  have HR := Lib.hid hr
  have HSL := Lib.hid hsl
  clear hr hsl
  have HOK := Lib.hid hok
  have HB := Lib.hid (places_yes hok)
  have HV := Lib.hid hv
  have hl64 : (len : Int) ≤ 64 := by
    have h := hv.2
    unfold roomZ at h
    rw [HR.out.1] at h
    split at h <;> omega
  have hvl := hv.1.1
  have e1 : (st v).size = 255 := by rw [st_size]; exact hvl
  have hxt : (st v).extract 0 191 = st (v.take 191) := by
    have h := ls_extract (st v) 191
    rw [ls_st] at h
    rw [← h, st_ls]
  have HIS := Lib.hid ((isB_iff v).2 hv.1)
  have hpsl : (unlAll s v).length ≤ 255 := by have := unlAll_length s v; rw [HSL.out] at this; exact this
  have HCN := Lib.hid (unlAll_count (v := v) HSL.out l)
  have HRM := Lib.hid (show ((dif s v l : Nat) : Int) ≤ roomZ (len : Int) by have h := hv.2; rw [HR.out.1] at h; exact h)
  obtain ⟨PS, hPS⟩ : ∃ PS, unlAll s v = PS := ⟨_, rfl⟩
  rw [hPS] at hpsl HCN
  clear hok hv
  go_enter Try.func5, Try.ntmps5
  go_wp2_with fail
  refine (full_any w _ 255 _ (by omega) (by omega) (Keeps.refl w)).mono ?_
  rintro e w1 ⟨rfl, hk1⟩
  rw [hs]
  go_wp2_with fail
  refine (mword_any (st s) a len cap l w1 (HR.out.kept hk1) hs255 (by omega)).mono ?_
  rintro e w2 ⟨r1, ps1, er1, a1, n1, c1, rfl, hm1, hi1, hk2⟩
  rw [ls_st] at hm1
  obtain ⟨x1, x2, x3⟩ := hm1.found HSL.out HOK.out HV.out
  rw [x2, hPS] at hi1
  rw [x1, x3]
  have HI1 := Lib.hid hi1
  have HN1 := Lib.hid hi1.1
  clear hm1 hi1 x1 x2 x3
  go_wp2_with fail
  refine (mdata_any (st s) a len cap l w2 ((HR.out.kept hk1).kept hk2) hs255 (by omega)).mono ?_
  rintro e w3 ⟨r1, ps1, er1, rfl, hm1, hk3⟩
  rw [ls_st] at hm1
  obtain ⟨x1, x2, x3⟩ := hm1.found HSL.out HOK.out HV.out
  rw [x1, x3]
  clear hm1 x1 x2 x3
  have HR3 := Lib.hid (HR.out.kept ((hk1.over hk2).over hk3))
  have HK3 := Lib.hid ((hk1.over hk2).over hk3)
  have HI3 := Lib.hid (HI1.out.kept hk3)
  clear hk1 hk2 hk3
  have hn1 : PS.length = n1 := HN1.out
  go_wp2_with fail
  refine (rplaces_any a len cap l w3 HR3.out (by omega)).mono ?_
  rintro e w4 ⟨rfl, he4⟩
  rw [HB.out]
  have HK4 := Lib.hid (HK3.out.eqv he4)
  have HR4 := Lib.hid (HR3.out.eqv he4)
  have HI4 := Lib.hid (HI3.out.eqv he4)
  clear he4
  go_wp2_with fail
  refine (ris_any w4 (st v) w4 (Keeps.refl w4)).mono ?_
  rintro e w5 ⟨rfl, hk5⟩
  rw [ls_st, HIS.out]
  go_wp2_with fail
  refine (runlike_any (st s) (st v) w5 (by omega) (by rw [e1, st_size, HSL.out]; omega)).mono ?_
  rintro e w6 ⟨uv, rfl, hown, hk6⟩
  rw [ls_st, ls_st, hPS] at hown
  obtain ⟨au, cu, rfl, hiu⟩ := hown.isI
  have HI6 := Lib.hid ((HI4.out.kept hk5).kept hk6)
  have HR6 := Lib.hid ((HR4.out.kept hk5).kept hk6)
  have HK6 := Lib.hid ((HK4.out.over hk5).over hk6)
  have HIU := Lib.hid hiu
  clear hown hiu hk5 hk6
  have hib : intsB PS PS = true := decide_eq_true rfl
  have HN := Lib.hid hn1
  rw [hn1] at hpsl HIU
  rw [hn1]
  clear hn1
  go_wp2_with fail
  refine (ints_any a1 au n1 c1 n1 cu PS PS w6 HI6.out HIU.out (by omega) (by omega)).mono ?_
  rintro e w7 ⟨rfl, he7⟩
  rw [hib]
  have HI7 := Lib.hid (HI6.out.eqv he7)
  have HR7 := Lib.hid (HR6.out.eqv he7)
  have HK7 := Lib.hid (HK6.out.eqv he7)
  clear he7
  go_wp2
  go_loopw [12, 13] (fun nv i wx => csRel w7 l PS nv i wx) (fun _ i _ => n1 - (intOf i).toNat)
  case atStart => exact ⟨0, Nat.zero_le _, rfl, rfl, rfl⟩
  case round =>
    obtain ⟨k, hk, rfl, rfl, rfl⟩ := hrel
    rw [HN.out] at hk
    by_cases hlt : k < n1
    · obtain ⟨b, of, rfl, hb, hc⟩ := HI7.out.2 (by omega)
      have hck := hc k hlt
      have HCX := Lib.hid (count_next (l := l) (ps := PS) (k := k) (by rw [HN.out]; exact hlt))
      obtain ⟨x, hx⟩ : ∃ x, PS.getD k 0 = x := ⟨_, rfl⟩
      rw [hx] at hck HCX
      have hcb : (PS.take k).countP (fun x => !inL l x) ≤ 255 := by
        have := List.countP_le_length (p := fun x => !inL l x) (l := PS.take k)
        rw [List.length_take] at this; omega
      obtain ⟨C, hC⟩ : ∃ C, (PS.take k).countP (fun x => !inL l x) = C := ⟨_, rfl⟩
      rw [hC] at HCX hcb
      rw [hC]
      have hkl : (k : Int) < (n1 : Int) := by omega
      clear hc hx hC
      go_wp2_with fail
      refine (rin_any a len cap l x w7 HR7.out (by omega)).mono ?_
      rintro e w8 ⟨rfl, rfl⟩
      cases hin : inL l x
      · rw [hin] at HCX
        go_wp2
        go_roundw
        case rel => exact ⟨k + 1, by rw [HN.out]; omega, by rw [HCX.out]; go_num, by go_num, rfl⟩
        case measure => simp [intOf]; omega
      · rw [hin] at HCX
        go_wp2
        go_roundw
        case rel => exact ⟨k + 1, by rw [HN.out]; omega, by rw [HCX.out]; go_num, by go_num, rfl⟩
        case measure => simp [intOf]; omega
    · have hge : (n1 : Int) ≤ (k : Int) := by omega
      have HC := Lib.hid (show (PS.take k).countP (fun x => !inL l x) = dif s v l by
        rw [List.take_of_length_le (by rw [HN.out]; omega)]; exact HCN.out)
      rw [HC.out]
      have hrm := HRM.out
      obtain ⟨D, hD⟩ : ∃ D, dif s v l = D := ⟨_, rfl⟩
      rw [hD] at hrm
      rw [hD]
      have HUS := Lib.hid (show unlAll v v = [] from unl_self v _)
      clear hD
      go_wp2_with fail
      refine (mword_any (st v) a len cap l w7 HR7.out (by omega) (by omega)).mono ?_
      rintro e w8 ⟨r1, ps1, er1, a2, n2, c2, rfl, hm1, hi1, hk8⟩
      rw [ls_st] at hm1
      obtain ⟨x1, x2, x3⟩ := hm1.found hvl HOK.out (near_self HV.out.1 (by rw [HR.out.1]; omega))
      rw [x2, HUS.out] at hi1
      have hn2 : n2 = 0 := hi1.1.symm
      subst hn2
      rw [x1, x3]
      clear hm1 hi1 x1 x2 x3
      go_wp2_with fail
      refine (rroom_any (len : Int) w8).mono ?_
      rintro e w9 ⟨rfl, rfl⟩
      obtain ⟨RM, hRM⟩ : ∃ RM, roomZ (len : Int) = RM := ⟨_, rfl⟩
      rw [hRM] at hrm
      rw [hRM]
      clear hRM
      go_wp2_with fail
      refine (awake4_any w w8 (HK7.out.over hk8)).mono ?_
      rintro e wk1 ⟨rfl, hk1⟩
      go_wp2
      go_ret
      exact ⟨rfl, hk1⟩
theorem walk (d : ByteArray) (wd : d.size ≤ maxLen) (a : Option Addr) (len cap : Nat) (l : List Int) (w : World) (hr : IsA w a len cap l) :
    Calls Try.prog 5 #[.string d, .slice a len cap] w fun e w' => e = .returned (.bool true) ∧ Below w.heap.size w w' := by
  by_cases h : (d.size : Int) ≤ 255 ∧ (len : Int) ≤ 80
  · have hsl : (ls d ++ z8 (255 - d.size)).length = 255 := by rw [List.length_append, z8_len, ← ls_size]; omega
    by_cases hok : OkP l l.length
    · by_cases hex : ∃ v, Near (ls d ++ z8 (255 - d.size)) l v
      · obtain ⟨v, hv⟩ := hex
        exact coreC a len cap l d _ w hr.1 h.1 h.2 rfl hsl hok v hv
      · exact coreB a len cap l d _ w hr.1 h.1 h.2 rfl hsl hok (fun v hv => hex ⟨v, hv⟩)
    · exact coreA a len cap l d _ w hr.1 h.1 h.2 rfl hsl hok
  · exact off a len cap d w (by omega)

theorem own : ownKnob Try.prog.godebug = none := by kernel_rfl
theorem laidOut : laidOutB Try.prog = true := by kernel_rfl
set_option maxRecDepth 100000 in
theorem lifted (os : Os) (started : os.Started) (H : Type) (enc : TypeId × Value → H) :
    ReturnsInHanded {} Try.checked os 5 .any (Rows.mendSureSpec.pre6 enc Try.prog Try.f5 Rows.mendSureRow.domain false) (Rows.mendSureSpec.post enc Try.prog Try.f5 false true false false) := by
  refine returnsInHanded_of_change (C := Try.checked) own started (by kernel_rfl) Try.func5
    (ChangeSpec.witness6 (enc := enc) (C := Try.checked) false ⟨#[], #[.string ByteArray.empty, .slice none 0 0], []⟩ 8 (by kernel_rfl) (by kernel_rfl) (by kernel_rfl) (by kernel_rfl)) ?_
  intro W base args ds gs before hval0 hW hcnd _
  have hval : ∀ (j : Nat) t v, Try.f5.params[j]? = some t → args[j]? = some v → Value.okWide Try.prog W .any base t v := hval0
  have hW' := hW
  obtain ⟨p, q, hA0, hV, rfl, hfz, hnd⟩ := hW
  have hA : DataW.TrodAll enc Try.prog W 0 (fun _ => true) true Try.f5.params.toList args.toList ds p := hA0
  rw [Try.params5] at hA hval
  obtain ⟨v0, vs0, d0, ds0, p0, q0, hargs, rfl, rfl, h0, r0⟩ := trodAll_cons hA
  obtain ⟨v1, vs1, d1, ds1, p1, q1, rfl, rfl, rfl, h1, r1⟩ := trodAll_cons r0
  obtain ⟨rfl, rfl, rfl⟩ := trodAll_nil r1
  obtain rfl : args = #[v0, v1] := by cases args; simp_all
  obtain ⟨rfl, rfl⟩ := trodVars_none hV
  obtain ⟨a0, rfl, rfl, rfl, w0⟩ := open_string Try.underlying9 (hval 0 9 v0 rfl rfl) h0
  obtain ⟨a1, len1, cap1, rfl⟩ := okWide_slice Try.underlying22 (hval 1 22 v1 rfl rfl)
  have k1 := h1
  have lt1 : ∀ x ∈ p1, x.block < W.heap.size := by obtain ⟨m, hm⟩ := k1; exact DataW.trod_lt m _ _ _ hm
  obtain ⟨z1, w1⟩ := open_irow h1
  clear hA0 hval0
  refine (walk a0 w0 a1 len1 cap1 z1 W w1).mono fun e W' ⟨he, bel⟩ => ?_
  subst he
  exact ⟨_, rfl, _, _, _, [], _, [], hW', trodAll_mk1 (shut_bool Try.underlying4 _), (trodAll_cons_mk (shut_string Try.underlying9 w0) (trodAll_cons_mk (Below.trod laidOut (by kernel_rfl) (of_decide_eq_true (by kernel_rfl)) k1 bel lt1) trodAll_mk0)), rfl, bel.frame _, fun h => by cases h⟩

theorem over : Rows.mendSureRow.holds Try.pinned (OpenSpec.ofChange Rows.mendSureSpec) :=
  OpenClaim.holds_of_wide 5 Try.f5 rfl rfl rfl rfl rfl rfl rfl ⟨rfl, rfl, rfl, rfl, rfl⟩ rfl rfl rfl rfl rfl (by kernel_rfl) Try.func5 (by kernel_rfl)
    (of_decide_eq_true (by kernel_rfl)) (by unfold Func.isWrapper; first | (rw [if_pos (by decide +kernel)]; kernel_rfl) | (rw [if_neg (by decide +kernel)]; exact ⟨rfl, rfl⟩))
    (fun os started H enc _ => lifted os started H enc)

theorem proved : Rows.MendSureSaid := over
#print axioms proved
end Go.Proofs.Ytdlcloenihkkgaa.mendSure
