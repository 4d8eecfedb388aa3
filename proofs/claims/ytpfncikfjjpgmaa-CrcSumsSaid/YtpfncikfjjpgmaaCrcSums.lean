/-
  For any list of strings and any register CrcSums returns true: what the check sum of parts is, what the register is behind bytes, and which table there is; nothing that was there is changed. No condition.
-/
import Derived.Test.YtpfncikfjjpgmaaRows
import Derived.Test.YtpfncikfjjpgmaaCrcLaw
namespace Go.Proofs.Ytpfncikfjjpgmaa.crcSums
open Go.ChangeShapes Go.WideShapes Go.ChangeAt Go.RowKit Gf Crc
set_option maxRecDepth 100000
open Go.ChangeMaps (open_string shut_string)
set_option linter.unusedVariables false
set_option maxHeartbeats 1600000 in
theorem off (a : Option Addr) (len cap : Nat) (n : Int) (w : World) (h : ¬ len ≤ 30) :
    Calls Try.prog 3 #[.slice a len cap, .int .u32 n] w fun e w' => e = .returned (.bool true) ∧ Below w.heap.size w w' := by
  go_enter Try.func3, Try.ntmps3
  go_wp2_with fail
  refine (awake5_any w w (Keeps.refl w)).mono ?_
  rintro e w9 ⟨rfl, hk9⟩
  go_wp2
  go_ret
  exact ⟨rfl, hk9⟩
/-- The first k parts are joined, and none is long. -/
def jRel (l : List (List UInt8)) (s i : Value) : Prop := ∃ k : Nat, k ≤ l.length ∧ s = .string (st (l.take k).flatten) ∧ i = .int .i64 k ∧ (∀ t ∈ l.take k, t.length ≤ 300) ∧ (l.take k).flatten.length ≤ 300 * k
theorem take_nx {l : List (List UInt8)} {k : Nat} (h : k < l.length) : l.take (k + 1) = l.take k ++ [l.getD k []] := by
  rw [List.take_succ_eq_append_getElem h, List.getD_eq_getElem?_getD, List.getElem?_eq_getElem h]; rfl
theorem jRel_next {l : List (List UInt8)} {k : Nat} (h : k < l.length) {t : List UInt8} (ht : l.getD k [] = t) (hl : t.length ≤ 300) (h1 : ∀ t ∈ l.take k, t.length ≤ 300) (h2 : (l.take k).flatten.length ≤ 300 * k) :
    jRel l (.string (st (l.take k).flatten ++ st t)) (.int .i64 ((k : Int) + 1)) := by
  refine ⟨k + 1, by omega, ?_, by go_num, ?_, ?_⟩
  · rw [take_nx h, ht, st_append, List.flatten_append]; simp
  · rw [take_nx h, ht]
    intro u hu
    rcases List.mem_append.1 hu with hu | hu
    · exact h1 u hu
    · rw [List.mem_singleton.1 hu]; exact hl
  · rw [take_nx h, ht, List.flatten_append, List.length_append]
    simp only [List.flatten_cons, List.flatten_nil, List.append_nil]
    omega
theorem tp_ru {k : Nat} (h : k < 256) : (k : Int) * 16777216 = ru (tp (UInt8.ofNat k)) := by
  unfold ru; rw [tp_toNat, UInt8.toNat_ofNat_of_lt' h]; omega
def nRel (wA : World) (i : Value) (wr : World) : Prop := ∃ k : Nat, k ≤ 256 ∧ i = .int .i64 k ∧ Eqv wA wr
theorem mo_one0 (r : Reg) : mo r (ls { data := #[0] }) = by8 r 0 := rfl
set_option maxHeartbeats 1600000 in
theorem core (a : Option Addr) (len cap : Nat) (l : List (List UInt8)) (r : Reg) (w : World) (hI : IsT w a len l) (h : len ≤ 30) :
    Calls Try.prog 3 #[.slice a len cap, .int .u32 (ru r)] w fun e w' => e = .returned (.bool true) ∧ Below w.heap.size w w' := by
  obtain ⟨rfl, _⟩ := id hI
  go_enter Try.func3, Try.ntmps3
  go_wp2
  go_loop [5, 6] (fun s i => jRel l s i) (fun _ i => l.length - (intOf i).toNat)
  case atStart => exact ⟨0, by omega, rfl, rfl, by simp, by simp⟩
  case round =>
    obtain ⟨k, hk, rfl, rfl, hall, hlen⟩ := hrel
    by_cases hlt : k < l.length
    · obtain ⟨b1, off1, rfl, hc⟩ := hI.get hlt
      obtain ⟨t, ht⟩ : ∃ t, l.getD k [] = t := ⟨_, rfl⟩
      rw [ht] at hc
      by_cases hl : t.length ≤ 300
      · have HJ := Lib.hid (jRel_next hlt ht hl hall hlen)
        have hz1 : (st t).size ≤ 300 := by rw [st_size]; exact hl
        have hz2 : (st (l.take k).flatten).size ≤ 9000 := by rw [st_size]; omega
        clear ht hall hlen
        generalize (l.take k).flatten = f at *
        go_wp2
        go_round
        case rel => exact HJ.out
        case measure => simp [intOf]; omega
      · have hz1 : 300 < (st t).size := by rw [st_size]; omega
        clear ht hall hlen
        generalize (l.take k).flatten = f at *
        go_wp2_with fail
        refine (awake5_any w w (Keeps.refl w)).mono ?_
        rintro e w9 ⟨rfl, hk9⟩
        go_wp2
        go_ret
        exact ⟨rfl, hk9⟩
    · obtain rfl : k = l.length := by omega
      rw [List.take_length] at hall hlen
      rw [List.take_length]
      have HA := Lib.hid hall
      have hz : (st l.flatten).size ≤ 9000 := by rw [st_size]; omega
      clear hall hlen hlt hk
      go_wp2_with fail
      refine (rows_any w).mono ?_
      rintro e w1 ⟨rfl, hk1⟩
      have hA := Arr.zero w1
      have hth := hA.there
      have hsz := sz256
      have h1 := one256
      have hP := hA.put
      have hkk : Keeps w ((w1.alloc (.cells z256 25)).setCells w1.heap.size 0 tbL.toArray.toList) :=
        (only_setCells _ _ _ _).keeps (hk1.alloc _) (Below.size hk1)
      obtain ⟨TL, hTL⟩ : ∃ TL, tbL = TL := ⟨_, rfl⟩
      rw [hTL] at hth hsz h1 hP hkk
      simp only [hTL]
      clear hTL hA
      go_wp2_with (first | (with_reducible refine wpList_a256 rfl rfl ?_) | (with_reducible refine wpList_store_mid rfl _ _ _ rfl w1.heap.size 0 TL.toArray rfl rfl hth hsz h1 ?_))
      obtain ⟨b, hb⟩ : ∃ b, w1.heap.size = b := ⟨_, rfl⟩
      rw [hb] at hP hkk
      rw [hb]
      obtain ⟨wA, hwA⟩ : ∃ wA, (w1.alloc (.cells z256 25)).setCells b 0 TL = wA := ⟨_, rfl⟩
      rw [hwA] at hP hkk
      rw [hwA]
      clear hwA hb hth hsz h1 hk1
      go_loopw [8] (fun i wr => nRel wA i wr) (fun i _ => 256 - (intOf i).toNat)
      case atStart => exact ⟨0, by omega, rfl, Eqv.refl _⟩
      case round =>
        obtain ⟨k, hk, rfl, he⟩ := hrel
        by_cases hlt : k < 256
        · have hcell := (hP.eqv he).cell k hlt
          have e1 : IntKind.u32.wrap (k : Int) = (k : Int) := by rw [IntKind.wrap_u32']; omega
          have e2 : IntKind.u32.wrap ((k : Int) * 16777216) = ru (tp (UInt8.ofNat k)) := by rw [← tp_ru hlt, IntKind.wrap_u32']; omega
          have HQ := Lib.hid (show Value.int .u32 (ru (mo (tp (UInt8.ofNat k)) (ls { data := #[0] }))) = .int .u32 (ru (tb k)) from rfl)
          have i1 : (k : Int) < 256 := by omega
          obtain ⟨q, hq⟩ : ∃ q, tp (UInt8.ofNat k) = q := ⟨_, rfl⟩
          rw [hq] at e2 HQ
          obtain ⟨v, hv⟩ : ∃ v, tb k = v := ⟨_, rfl⟩
          rw [hv] at hcell HQ
          clear hq hv
          go_wp2
          go_quiet ((go_at_call 10; exact quiet_eq HQ.out (rmore_any q _ _ (by decide))))
          go_wp2
          go_roundw
          case rel => exact ⟨k + 1, by omega, by go_num, he.trans (Eqv.drewN _ _)⟩
          case measure => simp [intOf]; omega
        · have hkw := hkk.eqv he
          have hIw := hI.keeps hkw
          have hge : 256 ≤ (k : Int) := by omega
          go_wp2_with fail
          refine (sum_any w _ _ _ l _ hIw (by omega) (fun t ht => by have := HA.out t ht; omega) hkw).mono ?_
          rintro e w2 ⟨rfl, hk2⟩
          go_wp2_with fail
          refine (rsum_any _ w2 (by omega)).mono ?_
          rintro e w3 ⟨rfl, rfl⟩
          rw [ls_st]
          generalize ru (mo ones l.flatten) = m1
          go_wp2_with fail
          refine (more_any w r _ _ (by omega) hk2).mono ?_
          rintro e w4 ⟨rfl, hk4⟩
          go_wp2_with fail
          refine (rmore_any r _ w4 (by omega)).mono ?_
          rintro e w5 ⟨rfl, rfl⟩
          rw [ls_st]
          generalize ru (mo r l.flatten) = m2
          go_wp2_with fail
          refine (awake5_any w w4 hk4).mono ?_
          rintro e w9 ⟨rfl, hk9⟩
          go_wp2
          go_ret
          exact ⟨rfl, hk9⟩
theorem walk (a : Option Addr) (len cap : Nat) (l : List (List UInt8)) (w : World) (hI : IsT w a len l ∧ len ≤ cap) (n : Int) (hn : (Lit.int .u32 n).wf = true) :
    Calls Try.prog 3 #[.slice a len cap, .int .u32 n] w fun e w' => e = .returned (.bool true) ∧ Below w.heap.size w w' := by
  by_cases h : len ≤ 30
  · obtain ⟨r, rfl⟩ := ru_of (bounds_u32 hn)
    exact core a len cap l r w hI.1 h
  · exact off a len cap n w h

theorem own : ownKnob Try.prog.godebug = none := by kernel_rfl
theorem laidOut : laidOutB Try.prog = true := by kernel_rfl
set_option maxRecDepth 100000 in
theorem lifted (os : Os) (started : os.Started) (H : Type) (enc : TypeId × Value → H) :
    ReturnsInHanded {} Try.checked os 3 .any (Rows.crcSumsSpec.pre6 enc Try.prog Try.f3 Rows.crcSumsRow.domain false) (Rows.crcSumsSpec.post enc Try.prog Try.f3 false true false false) := by
  refine returnsInHanded_of_change (C := Try.checked) own started (by kernel_rfl) Try.func3
    (ChangeSpec.witness6 (enc := enc) (C := Try.checked) false ⟨#[], #[.slice none 0 0, .int .u32 0], []⟩ 8 (by kernel_rfl) (by kernel_rfl) (by kernel_rfl) (by kernel_rfl)) ?_
  intro W base args ds gs before hval0 hW hcnd _
  have hval : ∀ (j : Nat) t v, Try.f3.params[j]? = some t → args[j]? = some v → Value.okWide Try.prog W .any base t v := hval0
  have hW' := hW
  obtain ⟨p, q, hA0, hV, rfl, hfz, hnd⟩ := hW
  have hA : DataW.TrodAll enc Try.prog W 0 (fun _ => true) true Try.f3.params.toList args.toList ds p := hA0
  rw [Try.params3] at hA hval
  obtain ⟨v0, vs0, d0, ds0, p0, q0, hargs, rfl, rfl, h0, r0⟩ := trodAll_cons hA
  obtain ⟨v1, vs1, d1, ds1, p1, q1, rfl, rfl, rfl, h1, r1⟩ := trodAll_cons r0
  obtain ⟨rfl, rfl, rfl⟩ := trodAll_nil r1
  obtain rfl : args = #[v0, v1] := by cases args; simp_all
  obtain ⟨rfl, rfl⟩ := trodVars_none hV
  obtain ⟨a0, len0, cap0, rfl⟩ := okWide_slice Try.underlying22 (hval 0 22 v0 rfl rfl)
  have k0 := h0
  have lt0 : ∀ x ∈ p0, x.block < W.heap.size := by obtain ⟨m, hm⟩ := k0; exact DataW.trod_lt m _ _ _ hm
  obtain ⟨z0, w0⟩ := open_trow h0
  obtain ⟨a1, rfl, rfl, rfl, w1⟩ := open_int Try.underlying23 (hval 1 23 v1 rfl rfl) h1
  clear hA0 hval0
  refine (walk a0 len0 cap0 z0 W w0 a1 w1).mono fun e W' ⟨he, bel⟩ => ?_
  subst he
  exact ⟨_, rfl, _, _, _, [], _, [], hW', trodAll_mk1 (shut_bool Try.underlying4 _), (trodAll_cons_mk (Below.trod laidOut (by kernel_rfl) (of_decide_eq_true (by kernel_rfl)) k0 bel lt0) (trodAll_cons_mk (shut_int Try.underlying23 w1) trodAll_mk0)), rfl, bel.frame _, fun h => by cases h⟩

theorem over : Rows.crcSumsRow.holds Try.pinned (OpenSpec.ofChange Rows.crcSumsSpec) :=
  OpenClaim.holds_of_wide 3 Try.f3 rfl rfl rfl rfl rfl rfl rfl ⟨rfl, rfl, rfl, rfl, rfl⟩ rfl rfl rfl rfl rfl (by kernel_rfl) Try.func3 (by kernel_rfl)
    (of_decide_eq_true (by kernel_rfl)) (by unfold Func.isWrapper; first | (rw [if_pos (by decide +kernel)]; kernel_rfl) | (rw [if_neg (by decide +kernel)]; exact ⟨rfl, rfl⟩))
    (fun os started H enc _ => lifted os started H enc)

theorem proved : Rows.CrcSumsSaid := over
#print axioms proved
end Go.Proofs.Ytpfncikfjjpgmaa.crcSums
