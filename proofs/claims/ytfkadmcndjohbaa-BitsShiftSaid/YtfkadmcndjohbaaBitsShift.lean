/-
  For any string, any number and any number of bits BitsShift returns true: what is written behind some bits stands as many bits further on, and bits are counted; nothing that was there is changed. No condition.
-/
import Derived.Test.YtfkadmcndjohbaaRows
import Derived.Test.YtfkadmcndjohbaaBitsLaw
import Derived.Test.YtfkadmcndjohbaaArgs
namespace Go.Proofs.Ytfkadmcndjohbaa.bitsShift
open Go.ChangeShapes Go.WideShapes Go.ChangeAt Go.RowKit Gf Bit
set_option maxRecDepth 100000
open Go.ChangeMaps (open_string shut_string)
set_option linter.unusedVariables false
theorem nx_mid (A : List Bool) (l : List UInt8) : nx (st (pack (A ++ ob l))) A.length l.length = l := by
  unfold nx
  have h := part_pack A (ob l) []
  rw [List.append_nil, ob_length] at h
  rw [ls_st, h, pack_ob]
theorem lb_two (y : UInt8) : lb (y.toNat / 16) 4 ++ lb y.toNat 4 = lb y.toNat 8 := (lb_split y.toNat 4 4).symm
def shRel (w : World) (b : Nat) (l : List UInt8) (i : Value) (wr : World) : Prop := ∃ k : Nat, k ≤ l.length ∧ i = .int .i64 (k : Int) ∧ OutAt b (ob (l.take k)) wr ∧ Keeps w wr
set_option maxHeartbeats 8000000 in
theorem core (s : ByteArray) (x N : Nat) (w : World) (hs : s.size ≤ 60) (hx : x < 2 ^ 64) (hN : N ≤ 64) :
    Calls Try.prog 8 #[.string s, .int .u64 (un x), .int .i64 (N : Int)] w fun e w' => e = .returned (.bool true) ∧ Below w.heap.size w w' := by
  have HX := Lib.hid hx
  clear hx
  have hlen : (ls s).length = s.size := (ls_size s).symm
  have hO := out_zero w
  have hk := Keeps.alloc (Keeps.refl w) (.cells zout 30)
  obtain ⟨w1, hw1⟩ : ∃ w1, w.alloc (.cells zout 30) = w1 := ⟨_, rfl⟩
  rw [hw1] at hO hk
  obtain ⟨b, hb⟩ : ∃ b, w.heap.size = b := ⟨_, rfl⟩
  rw [hb] at hO
  have HB := Lib.hid hb
  have HO := Lib.hid hO
  have HK := Lib.hid hk
  clear hO hk
  have hn0 : ¬ ((N : Int) < 0) := by omega
  have hn1 : ¬ ((64 : Int) < (N : Int)) := by omega
  have hs0 : ¬ ((60 : Int) < (s.size : Int)) := by omega
  go_enter Try.func8, Try.ntmps8
  obtain ⟨P, hP⟩ : ∃ P, st (pack (lb x N ++ ob (ls s))) = P := ⟨_, rfl⟩
  have hLl : (lb x N ++ ob (ls s)).length = N + 8 * s.size := by rw [List.length_append, lb_length, ob_length, ls_size]
  have hPs : P.size = (N + 8 * s.size + 7) / 8 := by rw [← hP, st_size, pack_length, hLl]
  have hnx : st (nx P N s.size) = s := by
    have h := nx_mid (lb x N) (ls s)
    rw [lb_length, hP, ← ls_size] at h
    rw [h, st_ls]
  have HPS := Lib.hid hPs
  have hPb : N + 8 * s.size ≤ 8 * P.size ∧ P.size ≤ 1000 := by omega
  clear hPs
  go_wp2_with (first | (with_reducible refine wpList_allocZ infoOut rfl rfl ?_; rw [hw1, hb]) | (go_at_call 24; refine (put_ok HO.out x N HX.out hN (by simp; omega)).mono ?_; rintro _ w2 ⟨rfl, hO2, k2⟩; rw [List.nil_append] at hO2; have HO2 := Lib.hid hO2; have HK2 := Lib.hid (k2.kept HK.out (by rw [HB.out]; exact Nat.le_refl _)); clear hO2 k2) | (go_at_call 25; refine (otext_one HO2.out s (by rw [lb_length]; omega)).mono ?_; rintro _ w3 ⟨⟨v3, rfl⟩, hO3, k3⟩; have HO3 := Lib.hid hO3; have HK3 := Lib.hid (k3.kept HK2.out (by rw [HB.out]; exact Nat.le_refl _)); clear hO3 k3) | (go_at_call 14; refine (string_any HO3.out (by rw [hLl]; omega)).mono ?_; rintro _ w4 ⟨rfl, k4⟩; rw [hP]; have HO4 := Lib.hid (OutR.keeps HO3.out k4); have HK4 := Lib.hid (HK3.out.more k4); clear k4) | (go_at_call 16; refine (read_any P w4).mono ?_; rintro _ w5 ⟨rfl, hR5, k5⟩; have HR5 := Lib.hid hR5; have HK5 := Lib.hid k5; clear hR5 k5) | (go_at_call 20; refine (get_ok HR5.out N hN (by omega) (by omega)).mono ?_; rintro _ w6 ⟨rfl, hR6, k6⟩; rw [Nat.zero_add] at hR6; have HR6 := Lib.hid hR6; have HK6 := Lib.hid (k6.kept HK5.out (Nat.le_refl _)); clear hR6 k6) | (go_at_call 19; refine (text_ok HR6.out s.size (by omega) (by omega)).mono ?_; rintro _ w7 ⟨rfl, hR7, k7⟩; rw [hnx]; have HR7 := Lib.hid hR7; have HK7 := Lib.hid (k7.kept HK6.out (Nat.le_refl _)); clear hR7 k7) | (with_reducible refine wpList_allocZ infoOut rfl rfl ?_; have hO8 := out_zero w7; have hk8 := Keeps.alloc (Keeps.refl w7) (.cells zout 30); have HO8 := Lib.hid hO8; have HK8 := Lib.hid hk8; clear hO8 hk8))
  go_loopw [12] (fun i wr => shRel w7 w7.heap.size (ls s) i wr) (fun i _ => s.size - (intOf i).toNat)
  case atStart => exact ⟨0, by omega, rfl, HO8.out, HK8.out⟩
  case round =>
    obtain ⟨k, hk, rfl, hO9, hk9⟩ := hrel
    rw [hlen] at hk
    have HO9 := Lib.hid hO9
    have HK9 := Lib.hid hk9
    clear hO9 hk9
    by_cases hlt : k < s.size
    · have hgm := ls_get s k hlt
      have HTS := Lib.hid (ob_take_succ (s := ls s) (k := k) (by rw [hlen]; exact hlt))
      have HL2 := Lib.hid (lb_two (cf (ls s) k))
      have hy := u8_bd (cf (ls s) k)
      have HY := Lib.hid (cf (ls s) k).toNat_lt
      have e16 : ((cf (ls s) k).toNat : Int) / 16 = un ((cf (ls s) k).toNat / 16) := by unfold un; omega
      have HLN := Lib.hid (show (ob ((ls s).take k)).length ≤ 480 by rw [ob_length, List.length_take]; omega)
      generalize cf (ls s) k = y at *
      go_wp2_with (first | (go_at_call 24; refine (put_ok HO10.out y.toNat 4 (by have := HY.out; omega) (by omega) (by rw [List.length_append, lb_length]; have := HLN.out; omega)).mono ?_; rintro _ w11 ⟨rfl, hO11, k11⟩; have HO11 := Lib.hid hO11; have HK11 := Lib.hid (k11.kept HK10.out (Nat.le_refl _)); clear hO11 k11) | (go_at_call 24; refine (put_ok HO9.out (y.toNat / 16) 4 (by have := HY.out; omega) (by omega) (by have := HLN.out; omega)).mono ?_; rintro _ w10 ⟨rfl, hO10, k10⟩; have HO10 := Lib.hid hO10; have HK10 := Lib.hid (k10.kept HK9.out (Nat.le_refl _)); clear hO10 k10))
      go_roundw
      case rel =>
        refine ⟨k + 1, by rw [hlen]; omega, by go_num, ?_, HK11.out⟩
        have h := HO11.out
        rw [List.append_assoc, HL2.out, ← HTS.out] at h
        exact h
      case measure => simp [intOf]; omega
    · have ht : (ls s).take k = ls s := List.take_of_length_le (by rw [hlen]; omega)
      rw [ht] at HO9
      have hks : ¬ ((k : Int) < (s.size : Int)) := by omega
      have HOA := Lib.hid (OutR.keeps HO4.out (HK7.out.more HK9.out))
      have HRA := Lib.hid (HR7.out.keeps HK9.out)
      have hpo : st (pack (ob (ls s))) = s := by rw [pack_ob, st_ls]
      have HLo := Lib.hid (show (ob (ls s)).length ≤ 480 by rw [ob_length]; omega)
      have e1 : ((lb x N ++ ob (ls s)).length : Int) = (N : Int) + 8 * (s.size : Int) := by rw [hLl]; omega
      have e2 : (P.size : Int) = ((N : Int) + 8 * (s.size : Int) + 7) / 8 := by have := HPS.out; omega
      have hLb := hLl
      clear hlen hnx
      go_wp2_with (first | (go_at_call 23; refine (rerr_any HRA.out).mono ?_; rintro _ w12 ⟨rfl, rfl⟩) | (go_at_call 13; first | (refine (olen_any HOB.out).mono ?_; rintro _ w12 ⟨rfl, rfl⟩; rw [e1]) | (refine (olen_any HOA.out).mono ?_; rintro _ w12 ⟨rfl, rfl⟩; rw [e1])) | (go_at_call 14; first | (refine (string_any HO13.out (by have := HLo.out; omega)).mono ?_; rintro _ w14 ⟨rfl, k14⟩; rw [hpo]; have HK14 := Lib.hid k14; clear k14) | (refine (string_any HOA.out (by rw [hLl]; omega)).mono ?_; rintro _ w13 ⟨rfl, k13⟩; rw [hP]; have HOB := Lib.hid (OutR.keeps HOA.out k13); have HO13 := Lib.hid (OutR.keeps HO9.out k13); have HK13 := Lib.hid k13; clear k13)) | (go_at_call 10; refine (awake6_any _).mono ?_; rintro _ w15 ⟨rfl, k15⟩))
      go_ret
      exact ⟨rfl, ((((((HK4.out.more HK7.out)).more HK9.out)).more HK13.out).more HK14.out).more k15⟩
theorem off (s : ByteArray) (x n : Int) (w : World) (h : 60 < (s.size : Int) ∨ (¬ (60 < (s.size : Int)) ∧ n < 0) ∨ (¬ (60 < (s.size : Int)) ∧ ¬ n < 0 ∧ 64 < n)) :
    Calls Try.prog 8 #[.string s, .int .u64 x, .int .i64 n] w fun e w' => e = .returned (.bool true) ∧ Below w.heap.size w w' := by
  go_enter Try.func8, Try.ntmps8
  rcases h with h | ⟨h, h1⟩ | ⟨h, h1, h2⟩
  all_goals go_wp2_with (go_at_call 10; refine (awake6_any _).mono ?_; rintro _ w15 ⟨rfl, k15⟩)
  all_goals go_ret
  all_goals exact ⟨rfl, k15⟩
theorem walk (s : ByteArray) (hs : s.size ≤ maxLen) (x : Int) (wx : (Lit.int .u64 x).wf = true) (n : Int) (wn : (Lit.int .i64 n).wf = true) (w : World) :
    Calls Try.prog 8 #[.string s, .int .u64 x, .int .i64 n] w fun e w' => e = .returned (.bool true) ∧ Below w.heap.size w w' := by
  obtain ⟨y, hy, rfl⟩ := un_of (bounds_u64 wx)
  by_cases h : 60 < (s.size : Int)
  · exact off s (un y) n w (.inl h)
  by_cases h1 : n < 0
  · exact off s (un y) n w (.inr (.inl ⟨h, h1⟩))
  by_cases h2 : 64 < n
  · exact off s (un y) n w (.inr (.inr ⟨h, h1, h2⟩))
  obtain ⟨N, rfl⟩ : ∃ N : Nat, n = (N : Int) := ⟨n.toNat, by omega⟩
  exact core s y N w (by omega) hy (by omega)

theorem own : ownKnob Try.prog.godebug = none := by kernel_rfl
theorem laidOut : laidOutB Try.prog = true := by kernel_rfl
set_option maxRecDepth 100000 in
theorem lifted (os : Os) (started : os.Started) (H : Type) (enc : TypeId × Value → H) :
    ReturnsInHanded {} Try.checked os 8 .any (Rows.bitsShiftSpec.pre6 enc Try.prog Try.f8 Rows.bitsShiftRow.domain false) (Rows.bitsShiftSpec.post enc Try.prog Try.f8 false true false false) := by
  refine returnsInHanded_of_change (C := Try.checked) own started (by kernel_rfl) Try.func8
    (ChangeSpec.witness6 (enc := enc) (C := Try.checked) false ⟨#[], #[.string ByteArray.empty, .int .u64 0, .int .i64 0], []⟩ 8 (by kernel_rfl) (by kernel_rfl) (by kernel_rfl) (by kernel_rfl)) ?_
  intro W base args ds gs before hval0 hW hcnd _
  have hval : ∀ (j : Nat) t v, Try.f8.params[j]? = some t → args[j]? = some v → Value.okWide Try.prog W .any base t v := hval0
  have hW' := hW
  obtain ⟨p, q, hA0, hV, rfl, hfz, hnd⟩ := hW
  have hA : DataW.TrodAll enc Try.prog W 0 (fun _ => true) true Try.f8.params.toList args.toList ds p := hA0
  rw [Try.params8] at hA hval
  obtain ⟨v0, vs0, d0, ds0, p0, q0, hargs, rfl, rfl, h0, r0⟩ := trodAll_cons hA
  obtain ⟨v1, vs1, d1, ds1, p1, q1, rfl, rfl, rfl, h1, r1⟩ := trodAll_cons r0
  obtain ⟨v2, vs2, d2, ds2, p2, q2, rfl, rfl, rfl, h2, r2⟩ := trodAll_cons r1
  obtain ⟨rfl, rfl, rfl⟩ := trodAll_nil r2
  obtain rfl : args = #[v0, v1, v2] := by cases args; simp_all
  obtain ⟨rfl, rfl⟩ := trodVars_none hV
  obtain ⟨a0, rfl, rfl, rfl, w0⟩ := open_string Try.underlying9 (hval 0 9 v0 rfl rfl) h0
  obtain ⟨a1, rfl, rfl, rfl, w1⟩ := open_int Try.underlying35 (hval 1 35 v1 rfl rfl) h1
  obtain ⟨a2, rfl, rfl, rfl, w2⟩ := open_int Try.underlying3 (hval 2 3 v2 rfl rfl) h2
  clear hA0 hval0
  refine (walk a0 w0 a1 w1 a2 w2 W).mono fun e W' ⟨he, bel⟩ => ?_
  subst he
  exact ⟨_, rfl, _, _, _, [], _, [], hW', trodAll_mk1 (shut_bool Try.underlying4 _), (trodAll_cons_mk (shut_string Try.underlying9 w0) (trodAll_cons_mk (shut_int Try.underlying35 w1) (trodAll_cons_mk (shut_int Try.underlying3 w2) trodAll_mk0))), rfl, bel.frame _, fun h => by cases h⟩

theorem over : Rows.bitsShiftRow.holds Try.pinned (OpenSpec.ofChange Rows.bitsShiftSpec) :=
  OpenClaim.holds_of_wide 8 Try.f8 rfl rfl rfl rfl rfl rfl rfl ⟨rfl, rfl, rfl, rfl, rfl⟩ rfl rfl rfl rfl rfl (by kernel_rfl) Try.func8 (by kernel_rfl)
    (of_decide_eq_true (by kernel_rfl)) (by unfold Func.isWrapper; first | (rw [if_pos (by decide +kernel)]; kernel_rfl) | (rw [if_neg (by decide +kernel)]; exact ⟨rfl, rfl⟩))
    (fun os started H enc _ => lifted os started H enc)

theorem proved : Rows.BitsShiftSaid := over
#print axioms proved
end Go.Proofs.Ytfkadmcndjohbaa.bitsShift
