/-
  For any call and any number TableNil returns true: a nil table has nothing; nothing that was there is changed. No condition.
-/
import Derived.Test.YtpkidopnkofccaaRows
import Derived.Test.YtpkidopnkofccaaTbLaw
namespace Go.Proofs.Ytpkidopnkofccaa.tableNil
open Go.ChangeShapes Go.WideShapes Go.ChangeAt Go.RowKit Gf
set_option maxRecDepth 100000
open Go.ChangeMaps (open_string shut_string)
set_option linter.unusedVariables false
set_option maxHeartbeats 12800000 in
theorem walk (P : Opt) (n : Int) (hn : (Lit.int .i64 n).wf = true) (w : World) :
    Calls Try.prog 4 #[optV P, .int .i64 n] w fun e w' => e = .returned (.bool true) ∧ Below w.heap.size w w' := by
  obtain ⟨b, hb⟩ : ∃ b, w.heap.size = b := ⟨_, rfl⟩
  obtain ⟨wA, hA⟩ : ∃ wX, w.alloc (.cells #[.int .i64 P.ask, .int .i64 P.a, .int .i64 P.n, .int .u8 (P.b.toNat : Int), .string P.t] 35) = wX := ⟨_, rfl⟩
  have HP0 := Lib.hid (show CsAt b (optC P) wA by rw [← hb, ← hA]; exact CsAt.made w #[.int .i64 P.ask, .int .i64 P.a, .int .i64 P.n, .int .u8 (P.b.toNat : Int), .string P.t] _ (by simp))
  have HK0 := Lib.hid (show Keeps w wA by rw [← hA]; exact (Keeps.refl w).alloc _)
  have HK1 := Lib.hid (HK0.out.alloc (.cells #[.int .i64 P.ask, .int .i64 P.a, .int .i64 P.n, .int .u8 (P.b.toNat : Int), .string P.t] 35))
  have HP1 := Lib.hid (HP0.out.keeps ((Keeps.refl wA).alloc (.cells #[.int .i64 P.ask, .int .i64 P.a, .int .i64 P.n, .int .u8 (P.b.toNat : Int), .string P.t] 35)))
  have HBB := Lib.hid (HP1.out.old)
  have HF := Lib.hid (tbfew_any (wA.alloc (.cells #[.int .i64 P.ask, .int .i64 P.a, .int .i64 P.n, .int .u8 (P.b.toNat : Int), .string P.t] 35)) (cap := 1) (IsE.lit (T := optT) wA [P] #[.int .i64 P.ask, .int .i64 P.a, .int .i64 P.n, .int .u8 (P.b.toNat : Int), .string P.t] 35 rfl rfl) (show 1 ≤ maxLen by unfold maxLen; decide))
  have hfw : fewO [P] = decide (okO P) := by unfold fewO; simp
  rw [hfw] at HF
  clear hfw
  have HAW := Lib.hid (fun W => awake13_any W W (Keeps.refl W))
  by_cases h5 : okO P
  · rw [decide_eq_true h5] at HF
    have HBY := Lib.hid (fun W => tbbytes_any P W)
    obtain ⟨D, hD⟩ : ∃ D, optB P = D := ⟨_, rfl⟩
    rw [hD] at HBY
    have HCO := Lib.hid (fun W => tbcolumn_any P.n P.b W (by have := h5.2.1; omega))
    obtain ⟨C, hC⟩ : ∃ C, st (colT P.n.toNat P.b) = C := ⟨_, rfl⟩
    rw [hC] at HCO
    obtain ⟨gask, gat, gn, gb, gt⟩ := P
    simp only at hA HF HBY HCO
    have HNA := Lib.hid (fun W => tbat_nil n W)
    have HNL := Lib.hid (fun W => tblost_nil n W)
    have HNM := Lib.hid (fun W => tbmend_nil W)
    have HNC := Lib.hid (fun W => tbclear_nil W)
    have HNP := Lib.hid (fun W => tbput_nil gat D W)
    have HNR := Lib.hid (fun W => tbpar_nil gat C W)
    have HND := Lib.hid (fun W => tbpad_nil gn W)
    have HNO := Lib.hid (fun W => tbout_nil W)
    have d0 : wA.cell? ⟨b, 0, none⟩ = some (.int .i64 gask) := HP0.out.cell 0 rfl
    have d1 : wA.cell? ⟨b, 1, none⟩ = some (.int .i64 gat) := HP0.out.cell 1 rfl
    have d2 : wA.cell? ⟨b, 2, none⟩ = some (.int .i64 gn) := HP0.out.cell 2 rfl
    have d3 : wA.cell? ⟨b, 3, none⟩ = some (.int .u8 (gb.toNat : Int)) := HP0.out.cell 3 rfl
    have d4 : wA.cell? ⟨b, 4, none⟩ = some (.string gt) := HP0.out.cell 4 rfl
    clear h5 hD hC
    go_enter Try.func4, Try.ntmps4
    go_wp2_with (first | (go_at_call 8; refine HF.out.mono ?_; rintro _ _ ⟨rfl, rfl⟩) | (go_at_call 11; refine (HNA.out _).mono ?_; rintro _ _ ⟨rfl, rfl⟩) | (go_at_call 12; refine (HNL.out _).mono ?_; rintro _ _ ⟨rfl, rfl⟩) | (go_at_call 15; refine (HNM.out _).mono ?_; rintro _ _ ⟨rfl, rfl⟩) | (go_at_call 16; refine (HNC.out _).mono ?_; rintro _ _ ⟨rfl, rfl⟩))
    obtain ⟨wB, hB⟩ : ∃ wB, (wA.alloc (.cells #[.int .i64 gask, .int .i64 gat, .int .i64 gn, .int .u8 (gb.toNat : Int), .string gt] 35)) = wB := ⟨_, rfl⟩
    rw [hB]
    have HK1 := Lib.hid (show Keeps w wB by rw [← hB]; exact HK1.out)
    have HP1 := Lib.hid (show CsAt b (optC ⟨gask, gat, gn, gb, gt⟩) wB by rw [← hB]; exact HP1.out)
    have HBB := Lib.hid (HP1.out.old)
    clear hB d0 d1 d2 d3 d4
    refine wp_draw (by kernel_rfl) [.int .u8 0, .bool true, .bool true, .bool false, .bool true, .bool true, .bool true, .int .i64 0, .bool true, .bool true, .bool true, .int .i64 2, .bool true, .bool true, .bool true, .int .i64 0, .bool true, .bool true, .bool true, .int .i64 0, .bool true, .bool true, .bool true, .pointer none, .pointer (some ⟨b, 1, none⟩), .int .i64 gat, .agg #[.int .i64 gask, .int .i64 gat, .int .i64 gn, .int .u8 (gb.toNat : Int), .string gt], .string D, .int .i64 2, .int .i64 2, .bool true, .bool true, .bool true, .pointer none, .pointer (some ⟨b, 1, none⟩), .int .i64 gat, .pointer (some ⟨b, 2, none⟩), .int .i64 gn, .pointer (some ⟨b, 3, none⟩), .int .u8 (gb.toNat : Int), .string C, .int .i64 2, .int .i64 2, .bool true, .bool true, .bool true, .pointer none, .pointer (some ⟨b, 2, none⟩), .int .i64 gn, .int .i64 2, .int .i64 2, .bool true, .bool true, .bool true, .pointer none, .slice none 0 0, .int .i64 0, .bool true, .bool true, .bool true, .bool true, .bool true, .bool true]
      (fun _ W => Keeps wB W) rfl (by kernel_rfl) (fin := ?fin0) ?hfin0 ((Keeps.refl wB).eqv (Eqv.drew wB)) ?each0 ?hend0
    case hfin0 => simp [seqA, dstOf, Act.put]; rfl
    case each0 =>
      refine ⟨?_, ?_, ?_, ?_, ?_, ?_, ?_, ?_, ?_, ?_, ?_, ?_, ?_, ?_, ?_, ?_, ?_, ?_, ?_, ?_, ?_, ?_, ?_, ?_, ?_, ?_, ?_, ?_, ?_, ?_, ?_, ?_, ?_, ?_, ?_, ?_, ?_, ?_, ?_, ?_, ?_, ?_, ?_, ?_, ?_, ?_, ?_, ?_, ?_, ?_, ?_, ?_, ?_, ?_, ?_, ?_, ?_, ?_, ?_, ?_, ?_, ?_, ?_, trivial⟩
      all_goals try rw [if_pos (by rfl)]
      all_goals intro L w5 h0 hd hs hw
      all_goals try rw [if_pos (by rfl)]
      all_goals unfold Does
      all_goals have q0 : w5.cell? ⟨b, 0, none⟩ = some (.int .i64 gask) := (Below.cell hw (p := ⟨b, 0, none⟩) HBB.out).trans (HP1.out.cell 0 rfl)
      all_goals have q1 : w5.cell? ⟨b, 1, none⟩ = some (.int .i64 gat) := (Below.cell hw (p := ⟨b, 1, none⟩) HBB.out).trans (HP1.out.cell 1 rfl)
      all_goals have q2 : w5.cell? ⟨b, 2, none⟩ = some (.int .i64 gn) := (Below.cell hw (p := ⟨b, 2, none⟩) HBB.out).trans (HP1.out.cell 2 rfl)
      all_goals have q3 : w5.cell? ⟨b, 3, none⟩ = some (.int .u8 (gb.toNat : Int)) := (Below.cell hw (p := ⟨b, 3, none⟩) HBB.out).trans (HP1.out.cell 3 rfl)
      all_goals have q4 : w5.cell? ⟨b, 4, none⟩ = some (.string gt) := (Below.cell hw (p := ⟨b, 4, none⟩) HBB.out).trans (HP1.out.cell 4 rfl)
      all_goals go_simp
      all_goals first | exact fun L' k => hw | ((with_reducible refine (HBY.out w5).mono ?_); rintro _ w9 ⟨rfl, k9⟩; exact ⟨_, rfl, rfl, fun _ _ => hw.trans k9⟩) | ((with_reducible refine (HCO.out w5).mono ?_); rintro _ w9 ⟨rfl, k9⟩; exact ⟨_, rfl, rfl, fun _ _ => hw.trans k9⟩) | ((with_reducible refine (HNP.out w5).mono ?_); rintro _ w9 ⟨rfl, rfl⟩; exact ⟨_, rfl, rfl, fun _ _ => hw⟩) | ((with_reducible refine (HNR.out w5).mono ?_); rintro _ w9 ⟨rfl, rfl⟩; exact ⟨_, rfl, rfl, fun _ _ => hw⟩) | ((with_reducible refine (HND.out w5).mono ?_); rintro _ w9 ⟨rfl, rfl⟩; exact ⟨_, rfl, rfl, fun _ _ => hw⟩) | ((with_reducible refine (HNO.out w5).mono ?_); rintro _ w9 ⟨rfl, rfl⟩; exact ⟨_, rfl, rfl, fun _ _ => hw⟩) | ((with_reducible refine (HAW.out w5).mono ?_); rintro _ w9 ⟨rfl, k9⟩; exact ⟨_, rfl, rfl, fun _ _ => hw.trans k9⟩)
    case hend0 =>
    intro L w5 hL hw
    have HW5 := Lib.hid (HK1.out.trans hw)
    clear hL hw
    go_wp2
    go_ret
    exact ⟨rfl, HW5.out⟩
  · rw [decide_eq_false h5] at HF
    obtain ⟨gask, gat, gn, gb, gt⟩ := P
    simp only at hA HF
    have d0 : wA.cell? ⟨b, 0, none⟩ = some (.int .i64 gask) := HP0.out.cell 0 rfl
    have d1 : wA.cell? ⟨b, 1, none⟩ = some (.int .i64 gat) := HP0.out.cell 1 rfl
    have d2 : wA.cell? ⟨b, 2, none⟩ = some (.int .i64 gn) := HP0.out.cell 2 rfl
    have d3 : wA.cell? ⟨b, 3, none⟩ = some (.int .u8 (gb.toNat : Int)) := HP0.out.cell 3 rfl
    have d4 : wA.cell? ⟨b, 4, none⟩ = some (.string gt) := HP0.out.cell 4 rfl
    clear h5
    go_enter Try.func4, Try.ntmps4
    go_wp2_with (first | (go_at_call 8; refine HF.out.mono ?_; rintro _ _ ⟨rfl, rfl⟩) | (go_at_call 7; refine (HAW.out _).mono ?_; rintro _ w99 ⟨rfl, k99⟩))
    go_ret
    exact ⟨rfl, HK1.out.trans k99⟩


theorem own : ownKnob Try.prog.godebug = none := by kernel_rfl
theorem laidOut : laidOutB Try.prog = true := by kernel_rfl
set_option maxRecDepth 100000 in
theorem lifted (os : Os) (started : os.Started) (H : Type) (enc : TypeId × Value → H) :
    ReturnsInHanded {} Try.checked os 4 .any (Rows.tableNilSpec.pre6 enc Try.prog Try.f4 Rows.tableNilRow.domain false) (Rows.tableNilSpec.post enc Try.prog Try.f4 false true false false) := by
  refine returnsInHanded_of_change (C := Try.checked) own started (by kernel_rfl) Try.func4
    (ChangeSpec.witness6 (enc := enc) (C := Try.checked) false ⟨#[], #[.agg #[.int .i64 0, .int .i64 0, .int .i64 0, .int .u8 0, .string ByteArray.empty], .int .i64 0], []⟩ 8 (by kernel_rfl) (by kernel_rfl) (by kernel_rfl) (by kernel_rfl)) ?_
  intro W base args ds gs before hval0 hW hcnd _
  have hval : ∀ (j : Nat) t v, Try.f4.params[j]? = some t → args[j]? = some v → Value.okWide Try.prog W .any base t v := hval0
  have hW' := hW
  obtain ⟨p, q, hA0, hV, rfl, hfz, hnd⟩ := hW
  have hA : DataW.TrodAll enc Try.prog W 0 (fun _ => true) true Try.f4.params.toList args.toList ds p := hA0
  rw [Try.params4] at hA hval
  obtain ⟨v0, vs0, d0, ds0, p0, q0, hargs, rfl, rfl, h0, r0⟩ := trodAll_cons hA
  obtain ⟨v1, vs1, d1, ds1, p1, q1, rfl, rfl, rfl, h1, r1⟩ := trodAll_cons r0
  obtain ⟨rfl, rfl, rfl⟩ := trodAll_nil r1
  obtain rfl : args = #[v0, v1] := by cases args; simp_all
  obtain ⟨rfl, rfl⟩ := trodVars_none hV
  have k0 := h0
  have lt0 : ∀ x ∈ p0, x.block < W.heap.size := by obtain ⟨m, hm⟩ := k0; exact DataW.trod_lt m _ _ _ hm
  obtain ⟨P0, rfl⟩ := open_opt (hval 0 35 v0 rfl rfl) h0
  obtain ⟨a1, rfl, rfl, rfl, w1⟩ := open_int Try.underlying3 (hval 1 3 v1 rfl rfl) h1
  clear hA0 hval0
  refine (walk P0 a1 w1 W).mono fun e W' ⟨he, bel⟩ => ?_
  subst he
  exact ⟨_, rfl, _, _, _, [], _, [], hW', trodAll_mk1 (shut_bool Try.underlying4 _), (trodAll_cons_mk (Below.trod laidOut (by kernel_rfl) (of_decide_eq_true (by kernel_rfl)) k0 bel lt0) (trodAll_cons_mk (shut_int Try.underlying3 w1) trodAll_mk0)), rfl, bel.frame _, fun h => by cases h⟩

theorem over : Rows.tableNilRow.holds Try.pinned (OpenSpec.ofChange Rows.tableNilSpec) :=
  OpenClaim.holds_of_wide 4 Try.f4 rfl rfl rfl rfl rfl rfl rfl ⟨rfl, rfl, rfl, rfl, rfl⟩ rfl rfl rfl rfl rfl (by kernel_rfl) Try.func4 (by kernel_rfl)
    (of_decide_eq_true (by kernel_rfl)) (by unfold Func.isWrapper; first | (rw [if_pos (by decide +kernel)]; kernel_rfl) | (rw [if_neg (by decide +kernel)]; exact ⟨rfl, rfl⟩))
    (fun os started H enc _ => lifted os started H enc)

theorem proved : Rows.TableNilSaid := over
#print axioms proved
end Go.Proofs.Ytpkidopnkofccaa.tableNil
