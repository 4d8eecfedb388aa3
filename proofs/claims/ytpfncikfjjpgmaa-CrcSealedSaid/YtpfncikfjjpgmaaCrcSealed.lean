/-
  For any two strings CrcSealed returns true: all that is sealed has the check sum 0, and two texts of one check sum are unlike in no four bytes in a row alone; nothing that was there is changed. No condition.
-/
import Derived.Test.YtpfncikfjjpgmaaRows
import Derived.Test.YtpfncikfjjpgmaaCrcLaw
namespace Go.Proofs.Ytpfncikfjjpgmaa.crcSealed
open Go.ChangeShapes Go.WideShapes Go.ChangeAt Go.RowKit Gf Crc
set_option maxRecDepth 100000
open Go.ChangeMaps (open_string shut_string)
set_option linter.unusedVariables false
set_option maxHeartbeats 1600000 in
theorem off (s t : ByteArray) (w : World) (h : 600 < s.size ∨ (s.size ≤ 600 ∧ 600 < t.size)) :
    Calls Try.prog 7 #[.string s, .string t] w fun e w' => e = .returned (.bool true) ∧ Below w.heap.size w w' := by
  rcases h with h | ⟨h, h2⟩
  all_goals
    go_enter Try.func7, Try.ntmps7
    go_wp2_with fail
    refine (awake5_any w w (Keeps.refl w)).mono ?_
    rintro e w5 ⟨rfl, hk5⟩
    go_wp2
    go_ret
    exact ⟨rfl, hk5⟩
theorem ex_ff : ru (mo 0#32 (four ones)) = 3338984827 := by kernel_rfl
theorem ex_twice (l : List UInt8) : ru (mo ones [sld l, sld (ls { data := #[] })].flatten) = 3338984827 := by
  have : mo ones [sld l, sld (ls { data := #[] })].flatten = mo 0#32 (four ones) := by
    simp only [List.flatten_cons, List.flatten_nil, List.append_nil]
    rw [mo_append, mo_sld]; rfl
  rw [this]; exact ex_ff
/-- Where two texts are unlike, behind k bytes. -/
def uRel (w : World) (a b : List UInt8) (f l i : Value) (wr : World) : Prop := ∃ k : Nat, k ≤ a.length ∧ i = .int .i64 k ∧ Keeps w wr ∧
  ((f = .int .i64 (-1) ∧ l = .int .i64 (-1) ∧ (∀ i, i < k → cf a i = cf b i)) ∨ ∃ x y : Nat, f = .int .i64 x ∧ l = .int .i64 y ∧ x ≤ y ∧ y < k ∧ (∀ i, i < k → cf a i ≠ cf b i → x ≤ i ∧ i ≤ y))
set_option maxHeartbeats 1600000 in
theorem on (s t : ByteArray) (w : World) (h : s.size ≤ 600) (h2 : t.size ≤ 600) :
    Calls Try.prog 7 #[.string s, .string t] w fun e w' => e = .returned (.bool true) ∧ Below w.heap.size w w' := by
  have hl : (st (sld (ls s))).size ≤ 1000 := by rw [st_size, sld_length, ← ls_size]; omega
  go_enter Try.func7, Try.ntmps7
  go_wp2_with fail
  refine (seal_any w s w (by omega) (Keeps.refl w)).mono ?_
  rintro e w1 ⟨rfl, hk1⟩
  go_wp2_with fail
  refine (sum_any w _ _ _ [ls (st (sld (ls s)))] _ (IsT.one w1 _ 9) (by simp) (by simp [← ls_size]; omega) (hk1.alloc _)).mono ?_
  rintro e w2 ⟨rfl, hk2⟩
  rw [ls_st, show mo ones [sld (ls s)].flatten = 0#32 by simp [mo_sld], show ru 0#32 = 0 from rfl]
  go_wp2_with fail
  refine (seal_any w s w2 (by omega) hk2).mono ?_
  rintro e w3 ⟨rfl, hk3⟩
  go_wp2_with fail
  refine (seal_any w _ w3 (by decide) hk3).mono ?_
  rintro e w4 ⟨rfl, hk4⟩
  go_wp2_with fail
  refine (sum_any w _ _ _ [ls (st (sld (ls s))), ls (st (sld (ls { data := #[] })))] _ (IsT.two w4 _ _ 9) (by simp) (by intro x hx; simp only [ls_st, List.mem_cons, List.not_mem_nil, or_false] at hx; rcases hx with rfl | rfl <;> rw [sld_length, ← ls_size] <;> first | omega | decide) (hk4.alloc _)).mono ?_
  rintro e w5 ⟨rfl, hk5⟩
  rw [ls_st, ls_st, ex_twice]
  go_wp2_with fail
  refine (sum_any w _ _ _ [] w5 (IsT.nil _ _) (by simp) (by simp) hk5).mono ?_
  rintro e w6 ⟨rfl, hk6⟩
  rw [show ru (mo ones ([] : List (List UInt8)).flatten) = 4294967295 from rfl]
  clear hk1 hk2 hk3 hk4 hk5
  clear hl
  by_cases hs : s.size = t.size
  · have hb : ((s.size : Int) != (t.size : Int)) = false := by simp [hs]
    by_cases he : ls s = ls t
    · have hc : (s.toList == t.toList) = true := by rw [ls_toList, ls_toList]; simp [he]
      go_wp2_with fail
      refine (awake5_any w w6 hk6).mono ?_
      rintro e w7 ⟨rfl, hk7⟩
      go_wp2
      go_ret
      exact ⟨rfl, hk7⟩
    · have hc : (s.toList == t.toList) = false := by rw [ls_toList, ls_toList]; simp [he]
      have HE := Lib.hid he
      have HS := Lib.hid hs
      clear he
      go_wp2_with fail
      refine (sum_any w _ _ _ [ls s] _ (IsT.one w6 _ 9) (by simp) (by simp [← ls_size]; omega) (hk6.alloc _)).mono ?_
      rintro e w7 ⟨rfl, hk7⟩
      go_wp2_with fail
      refine (sum_any w _ _ _ [ls t] _ (IsT.one w7 _ 9) (by simp) (by simp [← ls_size]; omega) (hk7.alloc _)).mono ?_
      rintro e w8 ⟨rfl, hk8⟩
      rw [show [ls t].flatten = ls t by simp]
      clear hk6 hk7
      by_cases hm : mo ones (ls s) = mo ones (ls t)
      · have hd : (ru (mo ones (ls s)) != ru (mo ones (ls t))) = false := by rw [hm]; simp
        have HM := Lib.hid hm
        clear hm
        go_wp2
        clear hb hc hd
        go_loopw [5, 6, 7] (fun f l i wr => uRel w (ls s) (ls t) f l i wr) (fun _ _ i _ => s.size - (intOf i).toNat)
        case atStart => exact ⟨0, by omega, rfl, hk8, .inl ⟨rfl, rfl, by omega⟩⟩
        case round =>
          obtain ⟨k, hk, rfl, hkp, hR⟩ := hrel
          rw [← ls_size] at hk
          by_cases hlt : k < s.size
          · have hlt2 : k < t.size := by omega
            have HA := Lib.hid (ls_get s k hlt)
            have HB := Lib.hid (ls_get t k hlt2)
            by_cases hq : s[k] = t[k]
            · have hb : ((s[k].toNat : Int) != (t[k].toNat : Int)) = false := by simp [hq]
              have HQ := Lib.hid (show cf (ls s) k = cf (ls t) k by rw [← HA.out, ← HB.out, hq])
              clear hq
              rcases hR with ⟨rfl, rfl, hR⟩ | ⟨x, y, rfl, rfl, hxy, hyk, hR⟩
              · go_wp2
                go_quiet (fail)
                go_wp2
                go_roundw
                case rel =>
                  refine ⟨k + 1, by rw [← ls_size]; omega, by go_num, hkp.trans (below_drewN (Below.refl _ _) _), .inl ⟨rfl, rfl, fun i hi => ?_⟩⟩
                  by_cases e : i = k
                  · subst e; exact HQ.out
                  · exact hR i (by omega)
                case measure => simp [intOf]; omega
              · go_wp2
                go_quiet (fail)
                go_wp2
                go_roundw
                case rel =>
                  refine ⟨k + 1, by rw [← ls_size]; omega, by go_num, hkp.trans (below_drewN (Below.refl _ _) _), .inr ⟨x, y, rfl, rfl, hxy, by omega, fun i hi hn => ?_⟩⟩
                  by_cases e : i = k
                  · subst e; exact absurd HQ.out hn
                  · exact hR i (by omega) hn
                case measure => simp [intOf]; omega
            · have hb : ((s[k].toNat : Int) != (t[k].toNat : Int)) = true := by
                rw [bne_iff_ne]
                exact fun e => hq (UInt8.toNat_inj.1 (by omega))
              clear hq
              rcases hR with ⟨rfl, rfl, hR⟩ | ⟨x, y, rfl, rfl, hxy, hyk, hR⟩
              · go_wp2
                go_quiet (fail)
                go_wp2
                go_roundw
                case rel =>
                  refine ⟨k + 1, by rw [← ls_size]; omega, by go_num, hkp.trans (below_drewN (Below.refl _ _) _), .inr ⟨k, k, rfl, rfl, by omega, by omega, fun i hi hn => ?_⟩⟩
                  by_cases e : i = k
                  · omega
                  · exact absurd (hR i (by omega)) hn
                case measure => simp [intOf]; omega
              · go_wp2
                go_quiet (fail)
                go_wp2
                go_roundw
                case rel =>
                  refine ⟨k + 1, by rw [← ls_size]; omega, by go_num, hkp.trans (below_drewN (Below.refl _ _) _), .inr ⟨x, k, rfl, rfl, by omega, by omega, fun i hi hn => ?_⟩⟩
                  by_cases e : i = k
                  · omega
                  · have := hR i (by omega) hn; omega
                case measure => simp [intOf]; omega
          · rcases hR with ⟨rfl, rfl, hR⟩ | ⟨x, y, rfl, rfl, hxy, hyk, hR⟩
            · exact absurd (list_ext_cf (by rw [← ls_size, ← ls_size]; exact hs) fun i hi => hR i (by rw [← ls_size] at hi; omega)) HE.out
            · have h4 : x + 4 ≤ y := by
                refine Decidable.byContradiction fun hn => ?_
                exact HE.out (mo_near ones _ _ (by rw [← ls_size, ← ls_size]; exact hs) x (fun i hi hn2 => by
                  rw [← ls_size] at hi
                  have := hR i (by omega) hn2
                  omega) HM.out)
              clear hR
              have h5 : (4 : Int) ≤ (y : Int) - (x : Int) := by omega
              go_wp2_with fail
              refine (awake5_any w wr hkp).mono ?_
              rintro e w9 ⟨rfl, hk9⟩
              go_wp2
              go_ret
              exact ⟨rfl, hk9⟩
      · have hd : (ru (mo ones (ls s)) != ru (mo ones (ls t))) = true := by rw [bne_iff_ne]; exact fun e => hm (ru_inj e)
        go_wp2_with fail
        refine (awake5_any w w8 hk8).mono ?_
        rintro e w9 ⟨rfl, hk9⟩
        go_wp2
        go_ret
        exact ⟨rfl, hk9⟩
  · have hb : ((s.size : Int) != (t.size : Int)) = true := by rw [bne_iff_ne]; omega
    go_wp2_with fail
    refine (awake5_any w w6 hk6).mono ?_
    rintro e w7 ⟨rfl, hk7⟩
    go_wp2
    go_ret
    exact ⟨rfl, hk7⟩
theorem walk (s : ByteArray) (hw : s.size ≤ maxLen) (t : ByteArray) (hw2 : t.size ≤ maxLen) (w : World) :
    Calls Try.prog 7 #[.string s, .string t] w fun e w' => e = .returned (.bool true) ∧ Below w.heap.size w w' := by
  by_cases h : s.size ≤ 600
  · by_cases h2 : t.size ≤ 600
    · exact on s t w h h2
    · exact off s t w (.inr ⟨h, by omega⟩)
  · exact off s t w (.inl (by omega))

theorem own : ownKnob Try.prog.godebug = none := by kernel_rfl
theorem laidOut : laidOutB Try.prog = true := by kernel_rfl
set_option maxRecDepth 100000 in
theorem lifted (os : Os) (started : os.Started) (H : Type) (enc : TypeId × Value → H) :
    ReturnsInHanded {} Try.checked os 7 .any (Rows.crcSealedSpec.pre6 enc Try.prog Try.f7 Rows.crcSealedRow.domain false) (Rows.crcSealedSpec.post enc Try.prog Try.f7 false true false false) := by
  refine returnsInHanded_of_change (C := Try.checked) own started (by kernel_rfl) Try.func7
    (ChangeSpec.witness6 (enc := enc) (C := Try.checked) false ⟨#[], #[.string ByteArray.empty, .string ByteArray.empty], []⟩ 8 (by kernel_rfl) (by kernel_rfl) (by kernel_rfl) (by kernel_rfl)) ?_
  intro W base args ds gs before hval0 hW hcnd _
  have hval : ∀ (j : Nat) t v, Try.f7.params[j]? = some t → args[j]? = some v → Value.okWide Try.prog W .any base t v := hval0
  have hW' := hW
  obtain ⟨p, q, hA0, hV, rfl, hfz, hnd⟩ := hW
  have hA : DataW.TrodAll enc Try.prog W 0 (fun _ => true) true Try.f7.params.toList args.toList ds p := hA0
  rw [Try.params7] at hA hval
  obtain ⟨v0, vs0, d0, ds0, p0, q0, hargs, rfl, rfl, h0, r0⟩ := trodAll_cons hA
  obtain ⟨v1, vs1, d1, ds1, p1, q1, rfl, rfl, rfl, h1, r1⟩ := trodAll_cons r0
  obtain ⟨rfl, rfl, rfl⟩ := trodAll_nil r1
  obtain rfl : args = #[v0, v1] := by cases args; simp_all
  obtain ⟨rfl, rfl⟩ := trodVars_none hV
  obtain ⟨a0, rfl, rfl, rfl, w0⟩ := open_string Try.underlying9 (hval 0 9 v0 rfl rfl) h0
  obtain ⟨a1, rfl, rfl, rfl, w1⟩ := open_string Try.underlying9 (hval 1 9 v1 rfl rfl) h1
  clear hA0 hval0
  refine (walk a0 w0 a1 w1 W).mono fun e W' ⟨he, bel⟩ => ?_
  subst he
  exact ⟨_, rfl, _, _, _, [], _, [], hW', trodAll_mk1 (shut_bool Try.underlying4 _), (trodAll_cons_mk (shut_string Try.underlying9 w0) (trodAll_cons_mk (shut_string Try.underlying9 w1) trodAll_mk0)), rfl, bel.frame _, fun h => by cases h⟩

theorem over : Rows.crcSealedRow.holds Try.pinned (OpenSpec.ofChange Rows.crcSealedSpec) :=
  OpenClaim.holds_of_wide 7 Try.f7 rfl rfl rfl rfl rfl rfl rfl ⟨rfl, rfl, rfl, rfl, rfl⟩ rfl rfl rfl rfl rfl (by kernel_rfl) Try.func7 (by kernel_rfl)
    (of_decide_eq_true (by kernel_rfl)) (by unfold Func.isWrapper; first | (rw [if_pos (by decide +kernel)]; kernel_rfl) | (rw [if_neg (by decide +kernel)]; exact ⟨rfl, rfl⟩))
    (fun os started H enc _ => lifted os started H enc)

theorem proved : Rows.CrcSealedSaid := over
#print axioms proved
end Go.Proofs.Ytpfncikfjjpgmaa.crcSealed
