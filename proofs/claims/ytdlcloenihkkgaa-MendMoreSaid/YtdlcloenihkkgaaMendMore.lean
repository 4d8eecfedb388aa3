/-
  For any string, any list of places and any number MendMore returns true: what is found with some places lost is found with fewer of them told, too, if none of the others was turned, and the order does not count; nothing that was there is changed. No condition.
-/
import Derived.Test.YtdlcloenihkkgaaRows
import Derived.Test.YtdlcloenihkkgaaMendLaw
import Derived.Deep.RegionWith
import Derived.OpenShut
import Derived.ShutString
import Derived.ChangeOld
import Derived.Carry
import Derived.WalkLawsBesides
namespace Go.Proofs.Ytdlcloenihkkgaa.mendMore
open Go.ChangeShapes Go.WideShapes Go.ChangeAt Go.RowKit Gf
set_option maxRecDepth 100000
open Go.ChangeMaps (open_string shut_string)
set_option linter.unusedVariables false
set_option maxRecDepth 100000 in
set_option maxHeartbeats 4000000 in
theorem off (a : Option Addr) (len cap : Nat) (d : ByteArray) (n : Int) (w : World) (h : 255 < (d.size : Int) ∨ ((d.size : Int) ≤ 255 ∧ 64 < (len : Int)) ∨ ((d.size : Int) ≤ 255 ∧ (len : Int) ≤ 64 ∧ n < 0) ∨ ((d.size : Int) ≤ 255 ∧ (len : Int) ≤ 64 ∧ 0 ≤ n ∧ (len : Int) < n)) :
    Calls Try.prog 7 #[.string d, .slice a len cap, .int .i64 n] w fun e w' => e = .returned (.bool true) ∧ Keeps w w' := by
  rcases h with h | ⟨h1, h⟩ | ⟨h1, h2, h⟩ | ⟨h1, h2, h3, h⟩
  all_goals
    go_enter Try.func7, Try.ntmps7
    go_wp2_with fail
    refine (awake4_any w _ (Keeps.refl w)).mono ?_
    rintro e wk1 ⟨rfl, hk1⟩
    go_wp2
    go_ret
    exact ⟨rfl, hk1⟩
set_option maxRecDepth 100000 in
set_option maxHeartbeats 4000000 in
theorem offP (a : Option Addr) (len cap : Nat) (l : List Int) (d : ByteArray) (n : Nat) (w : World) (hr : IsI w a len l) (h0 : (d.size : Int) ≤ 255) (h1 : (len : Int) ≤ 64) (h2 : (n : Int) ≤ (len : Int)) (hok : ¬ OkP l l.length) :
    Calls Try.prog 7 #[.string d, .slice a len cap, .int .i64 (n : Int)] w fun e w' => e = .returned (.bool true) ∧ Keeps w w' := by
  have HB := Lib.hid (places_no hok)
  have HR := Lib.hid hr
  clear hok hr
  go_enter Try.func7, Try.ntmps7
  go_wp2_with fail
  refine (rplaces_any a len cap l w HR.out (by omega)).mono ?_
  rintro e w1 ⟨rfl, he1⟩
  rw [HB.out]
  go_wp2_with fail
  refine (awake4_any w w1 ((Keeps.refl w).eqv he1)).mono ?_
  rintro e wk1 ⟨rfl, hk1⟩
  go_wp2
  go_ret
  exact ⟨rfl, hk1⟩
/-- The last k numbers, back to front. -/
def bk (l : List Int) (k : Nat) : List Int := (l.drop (l.length - k)).reverse
theorem bk_succ {l : List Int} {k : Nat} (h : k < l.length) : bk l (k + 1) = bk l k ++ [l.getD (l.length - 1 - k) 0] := by
  unfold bk
  rw [List.drop_eq_getElem_cons (show l.length - (k + 1) < l.length by omega), List.reverse_cons, show l.length - (k + 1) + 1 = l.length - k by omega]
  congr 2
  rw [List.getD_eq_getElem?_getD, List.getElem?_eq_getElem (show l.length - 1 - k < l.length by omega)]
  simp only [Option.getD_some]
  congr 1
  omega
theorem bk_length {l : List Int} {k : Nat} (h : k ≤ l.length) : (bk l k).length = k := by unfold bk; rw [List.length_reverse, List.length_drop]; omega
theorem bk_zero (l : List Int) : bk l 0 = [] := by unfold bk; rw [Nat.sub_zero, List.drop_length]; rfl
theorem bk_all (l : List Int) : bk l l.length = l.reverse := by unfold bk; rw [Nat.sub_self, List.drop_zero]
def bkRel (w : World) (l : List Int) (v i : Value) (wr : World) : Prop := ∃ k : Nat, k ≤ l.length ∧ i = .int .i64 ((l.length : Int) - 1 - (k : Int)) ∧ OwnI wr w.heap.size v (bk l k) ∧ Keeps w wr
def moRel (w : World) (l ps : List Int) (n : Nat) (i : Value) (wr : World) : Prop := ∃ m : Nat, n ≤ m ∧ m ≤ l.length ∧ i = .int .i64 (m : Int) ∧ (∀ j, n ≤ j → j < m → l.getD j 0 ∉ ps) ∧ w = wr
set_option maxRecDepth 100000 in
set_option maxHeartbeats 4000000 in
theorem core (a : Option Addr) (len cap : Nat) (l : List Int) (d : ByteArray) (n : Nat) (w : World) (hr : IsI w a len l) (hcap : len ≤ cap) (h0 : (d.size : Int) ≤ 255) (h1 : (len : Int) ≤ 64) (h2 : (n : Int) ≤ (len : Int)) (hok : OkP l l.length) :
    Calls Try.prog 7 #[.string d, .slice a len cap, .int .i64 (n : Int)] w fun e w' => e = .returned (.bool true) ∧ Keeps w w' := by
  have HB := Lib.hid (places_yes hok)
  have hst := st_toList
  have hll := hr.1
  have HOK := Lib.hid hok
  have HR := Lib.hid hr
  clear hok hr
  go_enter Try.func7, Try.ntmps7
  go_wp2_with fail
  refine (rplaces_any a len cap l w HR.out (by omega)).mono ?_
  rintro e w1 ⟨rfl, he1⟩
  rw [HB.out]
  have hk1 := (Keeps.refl w).eqv he1
  clear he1
  go_wp2_with fail
  refine (full_any w _ 255 _ (by omega) (by omega) hk1).mono ?_
  rintro e w2 ⟨rfl, hk2⟩
  clear hk1
  have HSL := Lib.hid (show (ls d ++ z8 (255 - d.size)).length = 255 by rw [List.length_append, z8_len, ← ls_size]; omega)
  obtain ⟨s, hs⟩ : ∃ s, ls d ++ z8 (255 - d.size) = s := ⟨_, rfl⟩
  rw [hs] at HSL
  rw [hs]
  clear hs
  have hs255 : (st s).size ≤ 1000 := by rw [st_size, HSL.out]; omega
  go_wp2
  go_loopw [8, 9] (fun v i wr => bkRel w2 l v i wr) (fun _ i _ => (intOf i + 1).toNat)
  case atStart => exact ⟨0, Nat.zero_le _, by rw [hll]; go_num, by rw [bk_zero]; exact OwnI.nil _ _, Keeps.refl w2⟩
  case round =>
    obtain ⟨k, hk, rfl, hown, hkp⟩ := hrel
    by_cases hlt : k < len
    · obtain ⟨m, hm⟩ : ∃ m : Nat, ((l.length : Int) - 1 - (k : Int)) = (m : Int) := ⟨len - 1 - k, by omega⟩
      rw [hm]
      have hml : (m : Int) < (len : Int) := by omega
      obtain ⟨b, of, rfl, hb, hc⟩ := ((HR.out.kept (hk2.over hkp)).2 (by omega))
      have hcm := hc m (by omega)
      have HS := Lib.hid (bk_succ (l := l) (k := k) (by omega))
      rw [show l.length - 1 - k = m by omega] at HS
      obtain ⟨x, hx⟩ : ∃ x, l.getD m 0 = x := ⟨_, rfl⟩
      rw [hx] at hcm HS
      have hbl : (bk l k).length ≤ 1000000000 := by rw [bk_length hk]; omega
      have HM := Lib.hid hm
      clear hm hc hx
      go_wp2_with (at_builtin; refine wp_pushI rfl _ _ rfl x hown rfl rfl hbl hkp ?_; intro v2 w3 hown2 hkp2)
      go_roundw
      case rel => exact ⟨k + 1, by omega, (by have e : (m : Int) - 1 = (l.length : Int) - 1 - ((k + 1 : Nat) : Int) := by have := HM.out; omega
                                              rw [← e]), by rw [HS.out]; exact hown2, hkp2⟩
      case measure => simp [intOf]
    · have hke : k = l.length := by omega
      have hm1 : ((l.length : Int) - 1 - (k : Int)) = -1 := by omega
      rw [hm1]
      rw [hke, bk_all] at hown
      obtain ⟨ab, cb, rfl, hib⟩ := hown.isI
      rw [List.length_reverse, hll] at hib
      rw [List.length_reverse, hll]
      have HIB := Lib.hid hib
      have HKW := Lib.hid (hk2.over hkp)
      clear hown hib hkp hk2
      go_wp2_with fail
      refine (mword_any (st s) a len cap l wr (HR.out.kept HKW.out) hs255 (by omega)).mono ?_
      rintro e w3 ⟨r1, ps1, er1, a1, n1, c1, rfl, hm1', hi1, hk3⟩
      rw [ls_st] at hm1'
      have HM1 := Lib.hid hm1'
      have HI1 := Lib.hid hi1
      have HN0 := Lib.hid hi1.1
      clear hm1' hi1
      go_wp2_with fail
      refine (mword_any (st s) ab len cb l.reverse w3 (HIB.out.kept hk3) hs255 (by omega)).mono ?_
      rintro e w4 ⟨r2, ps2, er2, a2, n2, c2, rfl, hm2, hi2, hk4⟩
      rw [ls_st] at hm2
      obtain ⟨x1, x2, x3⟩ := hm2.reverse.one HM1.out
      rw [x1, x3]
      rw [x2] at hi2
      have HI2 := Lib.hid hi2
      have hn2 := hi2.1
      clear hm2 hi2 x1 x2 x3
      have HRT := Lib.hid (show IsI w4 a n (l.take n) from ⟨by rw [List.length_take]; omega, fun h => by
        obtain ⟨b, of, e, hb, hc⟩ := ((HR.out.kept HKW.out).kept (hk3.over hk4)).2 (by omega)
        refine ⟨b, of, e, hb, fun i hi => ?_⟩
        rw [hc i (by omega), List.getD_eq_getElem?_getD, List.getD_eq_getElem?_getD, List.getElem?_take_of_lt hi]⟩)
      have hps : ps1.length ≤ 255 := by
        rcases HM1.out with ⟨hsl, _, ⟨v, _, _, e, _⟩ | ⟨_, _, e, _⟩⟩ | ⟨_, _, e, _⟩
        · rw [e]; have := unlAll_length s v; omega
        · rw [e]; simp
        · rw [e]; simp
      have hn2l : n2 ≤ 1000 := by omega
      have HN1 := Lib.hid (show n1 = n2 by have := HN0.out; omega)
      rw [HN1.out] at HI1
      rw [HN1.out]
      have HN2 := Lib.hid hn2
      clear hn2
      go_wp2_with fail
      refine (mword_any (st s) a n cap (l.take n) w4 HRT.out hs255 (by omega)).mono ?_
      rintro e w5 ⟨r3, ps3, er3, a3, n3, c3, rfl, hm3, hi3, hk5⟩
      rw [ls_st] at hm3
      have HM3 := Lib.hid hm3
      have HI5 := Lib.hid ((HI1.out.kept hk4).kept hk5)
      have HJ5 := Lib.hid (HI2.out.kept hk5)
      have HR5 := Lib.hid ((HR.out.kept HKW.out).kept ((hk3.over hk4).over hk5))
      have HK5 := Lib.hid (HKW.out.over ((hk3.over hk4).over hk5))
      clear hm3 hi3 hk3 hk4 hk5
      have hib : intsB ps1 ps1 = true := decide_eq_true rfl
      go_wp2_with fail
      refine (ints_any a1 a2 n2 c1 n2 c2 ps1 ps1 w5 HI5.out HJ5.out (by omega) (by omega)).mono ?_
      rintro e w6 ⟨rfl, he6⟩
      rw [hib]
      have HI6 := Lib.hid (HI5.out.eqv he6)
      have HR6 := Lib.hid (HR5.out.eqv he6)
      have HK6 := Lib.hid (HK5.out.eqv he6)
      clear he6
      go_wp2
      go_loopw [19] (fun i wx => moRel w6 l ps1 n i wx) (fun i _ => len - (intOf i).toNat)
      case atStart => exact ⟨n, Nat.le_refl _, by omega, rfl, (fun j h1 h2 => by omega), rfl⟩
      case round =>
        obtain ⟨m, hnm, hml, rfl, hno, rfl⟩ := hrel
        rw [hll] at hml
        have HNO := Lib.hid hno
        clear hno
        by_cases hmlt : m < len
        · obtain ⟨b, of, rfl, hb, hc⟩ := HR6.out.2 (by omega)
          have hcm := hc m hmlt
          obtain ⟨x, hx⟩ : ∃ x, l.getD m 0 = x := ⟨_, rfl⟩
          rw [hx] at hcm
          have HXX := Lib.hid hx
          have hmi : (m : Int) < (len : Int) := by omega
          clear hc hx
          go_wp2_with fail
          refine (rin_any a1 n2 c1 ps1 x w6 HI6.out (by omega)).mono ?_
          rintro e w7 ⟨rfl, rfl⟩
          cases hin : inL ps1 x
          · go_wp2
            go_roundw
            case rel =>
              refine ⟨m + 1, by omega, by omega, by go_num, fun j hj1 hj2 => ?_, rfl⟩
              by_cases ej : j = m
              · rw [ej, HXX.out]; exact of_decide_eq_false hin
              · exact HNO.out j hj1 (by omega)
            case measure => simp [intOf]; omega
          · go_wp2_with fail
            refine (awake4_any w w6 HK6.out).mono ?_
            rintro e w8 ⟨rfl, hk8⟩
            go_wp2
            go_ret
            exact ⟨rfl, hk8⟩
        · have hge : (len : Int) ≤ (m : Int) := by omega
          have HFIN := Lib.hid (show er1 = 0 → er3 = 0 ∧ r3 = r1 from fun h => by
            rcases HM1.out with ⟨hsl, _, ⟨v, hv, e1, e2, e3⟩ | ⟨_, _, _, e⟩⟩ | ⟨_, _, _, e⟩
            · have hnt := near_take (n := n) hsl hv (by omega) (fun j hj1 hj2 => by rw [← e2]; exact HNO.out j hj1 (by omega))
              obtain ⟨g1, _, g3⟩ := HM3.out.found hsl (okp_take HOK.out n) hnt
              exact ⟨g3, by rw [g1, e1]⟩
            · omega
            · omega)
          by_cases her : er1 = 0
          · obtain ⟨g1, g2⟩ := HFIN.out her
            subst her g1 g2
            go_wp2_with fail
            refine (awake4_any w w6 HK6.out).mono ?_
            rintro e w8 ⟨rfl, hk8⟩
            go_wp2
            go_ret
            exact ⟨rfl, hk8⟩
          · have hb0 : (er1 == 0) = false := by simpa using her
            go_wp2_with fail
            refine (awake4_any w w6 HK6.out).mono ?_
            rintro e w8 ⟨rfl, hk8⟩
            go_wp2
            go_ret
            exact ⟨rfl, hk8⟩
theorem walk (d : ByteArray) (wd : d.size ≤ maxLen) (a : Option Addr) (len cap : Nat) (l : List Int) (w : World) (hr : IsA w a len cap l) (n : Int) (wn : (Lit.int .i64 n).wf = true) :
    Calls Try.prog 7 #[.string d, .slice a len cap, .int .i64 n] w fun e w' => e = .returned (.bool true) ∧ Below w.heap.size w w' := by
  by_cases h : (d.size : Int) ≤ 255 ∧ (len : Int) ≤ 64 ∧ 0 ≤ n ∧ n ≤ (len : Int)
  · obtain ⟨m, rfl⟩ : ∃ m : Nat, n = (m : Int) := ⟨n.toNat, by omega⟩
    by_cases hok : OkP l l.length
    · exact core a len cap l d m w hr.1 hr.2 h.1 h.2.1 h.2.2.2 hok
    · exact offP a len cap l d m w hr.1 h.1 h.2.1 h.2.2.2 hok
  · exact off a len cap d n w (by omega)

theorem own : ownKnob Try.prog.godebug = none := by kernel_rfl
theorem laidOut : laidOutB Try.prog = true := by kernel_rfl
set_option maxRecDepth 100000 in
theorem lifted (os : Os) (started : os.Started) (H : Type) (enc : TypeId × Value → H) :
    ReturnsInHanded {} Try.checked os 7 .any (Rows.mendMoreSpec.pre6 enc Try.prog Try.f7 Rows.mendMoreRow.domain false) (Rows.mendMoreSpec.post enc Try.prog Try.f7 false true false false) := by
  refine returnsInHanded_of_change (C := Try.checked) own started (by kernel_rfl) Try.func7
    (ChangeSpec.witness6 (enc := enc) (C := Try.checked) false ⟨#[], #[.string ByteArray.empty, .slice none 0 0, .int .i64 0], []⟩ 8 (by kernel_rfl) (by kernel_rfl) (by kernel_rfl) (by kernel_rfl)) ?_
  intro W base args ds gs before hval0 hW hcnd _
  have hval : ∀ (j : Nat) t v, Try.f7.params[j]? = some t → args[j]? = some v → Value.okWide Try.prog W .any base t v := hval0
  have hW' := hW
  obtain ⟨p, q, hA0, hV, rfl, hfz, hnd⟩ := hW
  have hA : DataW.TrodAll enc Try.prog W 0 (fun _ => true) true Try.f7.params.toList args.toList ds p := hA0
  rw [Try.params7] at hA hval
  obtain ⟨v0, vs0, d0, ds0, p0, q0, hargs, rfl, rfl, h0, r0⟩ := trodAll_cons hA
  obtain ⟨v1, vs1, d1, ds1, p1, q1, rfl, rfl, rfl, h1, r1⟩ := trodAll_cons r0
  obtain ⟨v2, vs2, d2, ds2, p2, q2, rfl, rfl, rfl, h2, r2⟩ := trodAll_cons r1
  obtain ⟨rfl, rfl, rfl⟩ := trodAll_nil r2
  obtain rfl : args = #[v0, v1, v2] := by cases args; simp_all
  obtain ⟨rfl, rfl⟩ := trodVars_none hV
  obtain ⟨a0, rfl, rfl, rfl, w0⟩ := open_string Try.underlying9 (hval 0 9 v0 rfl rfl) h0
  obtain ⟨a1, len1, cap1, rfl⟩ := okWide_slice Try.underlying22 (hval 1 22 v1 rfl rfl)
  have k1 := h1
  have lt1 : ∀ x ∈ p1, x.block < W.heap.size := by obtain ⟨m, hm⟩ := k1; exact DataW.trod_lt m _ _ _ hm
  obtain ⟨z1, w1⟩ := open_irow h1
  obtain ⟨a2, rfl, rfl, rfl, w2⟩ := open_int Try.underlying3 (hval 2 3 v2 rfl rfl) h2
  clear hA0 hval0
  refine (walk a0 w0 a1 len1 cap1 z1 W w1 a2 w2).mono fun e W' ⟨he, bel⟩ => ?_
  subst he
  exact ⟨_, rfl, _, _, _, [], _, [], hW', trodAll_mk1 (shut_bool Try.underlying4 _), (trodAll_cons_mk (shut_string Try.underlying9 w0) (trodAll_cons_mk (Below.trod laidOut (by kernel_rfl) (of_decide_eq_true (by kernel_rfl)) k1 bel lt1) (trodAll_cons_mk (shut_int Try.underlying3 w2) trodAll_mk0))), rfl, bel.frame _, fun h => by cases h⟩

theorem over : Rows.mendMoreRow.holds Try.pinned (OpenSpec.ofChange Rows.mendMoreSpec) :=
  OpenClaim.holds_of_wide 7 Try.f7 rfl rfl rfl rfl rfl rfl rfl ⟨rfl, rfl, rfl, rfl, rfl⟩ rfl rfl rfl rfl rfl (by kernel_rfl) Try.func7 (by kernel_rfl)
    (of_decide_eq_true (by kernel_rfl)) (by unfold Func.isWrapper; first | (rw [if_pos (by decide +kernel)]; kernel_rfl) | (rw [if_neg (by decide +kernel)]; exact ⟨rfl, rfl⟩))
    (fun os started H enc _ => lifted os started H enc)

theorem proved : Rows.MendMoreSaid := over
#print axioms proved
end Go.Proofs.Ytdlcloenihkkgaa.mendMore
