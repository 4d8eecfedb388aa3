/-
  For any two Slices and any two Places DescrApart returns true: two that are not the same have descriptors that are not the same; nothing that was there is changed. The tables of widths of package descr start as the program lays them.
-/
import Derived.SevenTiedAt
import Derived.Test.YtlghkdkaifcliaaDoorRows
import Derived.Test.YtlghkdkaifcliaaDoorCards
import Derived.Test.YtlghkdkaifcliaaDoorTie
import Derived.Test.YtlghkdkaifcliaaDoorDsH
import Derived.Test.YtlghkdkaifcliaaDoorDsI
import Derived.Test.YtlghkdkaifcliaaDoorDsE
namespace Go.Proofs.YtlghkdkaifcliaaDoor.descrApart
open Go.ChangeShapes Go.WideShapes Go.ChangeAt Go.RowKit Gf Ds
set_option maxRecDepth 100000
open Go.ChangeMaps (open_string shut_string)
set_option linter.unusedVariables false
set_option linter.unusedSimpArgs false
theorem does_eq {o : Oper} {ρ : Operand → Value} {w : World} {R : Value → World → Prop} {op : BinOp} {T U : TypeId} {xs ys : Array Value} {r : Bool} (hrun : (binOp op T (.agg xs) (.agg ys)).run Tryd.prog w = .ok (.bool r) w)
    (hm : Tryd.prog.eqGuardType Tryd.prog.depth T = false) (x y : Operand) (ho : o.op = .binOp op T x y U) (hx : ρ x = .agg xs) (hy : ρ y = .agg ys) (k : R (.bool r) w) : Does Tryd.prog o ρ w R := by
  have e : (execOp ρ o).run Tryd.prog w = .ok (.value (.bool r)) w := by
    unfold execOp
    simp only [ho, hx, hy, Sem.run_bind, run_eqGuard_agg w op T x y xs ys hm, hrun, Result.andThen_ok]
    rfl
  unfold Does
  rw [e]
  exact k
set_option maxHeartbeats 6400000 in
theorem walk (x y : Slc) (hx : inI x.rows) (hy : inI y.rows) (p q : Plc) (w : World) (tS : TSX w) (tP : TPX w) :
    Calls Tryd.prog 9 #[.agg (slC x ++ slC y).toArray, .agg (plC p ++ plC q).toArray] w fun e w' => e = .returned (.bool true) ∧ Below w.heap.size w w' := by
  have HAW := Lib.hid (fun W (k : Keeps w W) => awake18_any W (tS.keeps k))
  have HM0 := Lib.hid (fun W (k : Keeps w W) => dmk_any x hx W (tS.keeps k))
  have HM1 := Lib.hid (fun W (k : Keeps w W) => dmk_any y hy W (tS.keeps k))
  have HN0 := Lib.hid (fun W (k : Keeps w W) => pmk_any p W (tP.keeps k))
  have HN1 := Lib.hid (fun W (k : Keeps w W) => pmk_any q W (tP.keeps k))
  have hsm : (mkS x).2 = 0 → (mkS y).2 = 0 → sameDd (mkS x).1 (mkS y).1 = sameSl x y := fun h k => by
    have ox : okSl x := by
      by_cases o : slE x = 0
      · exact slE_ok.1 o
      · unfold mkS at h; rw [if_neg o] at h; exact absurd h o
    have oy : okSl y := by
      by_cases o : slE y = 0
      · exact slE_ok.1 o
      · unfold mkS at k; rw [if_neg o] at k; exact absurd k o
    rw [mkS_ok ox, mkS_ok oy]
    show sameDd (slD x) (slD y) = _
    rw [Bool.eq_iff_iff, sameDd_iff, sameSl_iff]
    exact ⟨fun e => slD_inj ox oy e, fun e => by rw [e]⟩
  have hpm : (mkP p).2 = 0 → (mkP q).2 = 0 → sameDd (mkP p).1 (mkP q).1 = samePl p q ∧ (mkP p).1.tag = 19 := fun h k => by
    have op : okPl p := by
      by_cases o : okPl p
      · exact o
      · rw [mkP_no o] at h; cases h
    have oq : okPl q := by
      by_cases o : okPl q
      · exact o
      · rw [mkP_no o] at k; cases k
    rw [mkP_ok op, mkP_ok oq]
    refine ⟨?_, rfl⟩
    show sameDd (plD p) (plD q) = _
    rw [Bool.eq_iff_iff, sameDd_iff, samePl_iff]
    exact ⟨fun e => plD_inj op oq e, fun e => by rw [e]⟩
  obtain ⟨QA, hQA⟩ : ∃ Q, mkS x = Q := ⟨_, rfl⟩
  obtain ⟨QB, hQB⟩ : ∃ Q, mkS y = Q := ⟨_, rfl⟩
  obtain ⟨QC, hQC⟩ : ∃ Q, mkP p = Q := ⟨_, rfl⟩
  obtain ⟨QD, hQD⟩ : ∃ Q, mkP q = Q := ⟨_, rfl⟩
  rw [hQA] at HM0 hsm
  rw [hQB] at HM1 hsm
  rw [hQC] at HN0 hpm
  rw [hQD] at HN1 hpm
  clear hQA hQB hQC hQD tS tP
  obtain ⟨⟨a1, a2⟩, EA⟩ := QA
  obtain ⟨⟨b1, b2⟩, EB⟩ := QB
  obtain ⟨⟨c1, c2⟩, EC⟩ := QC
  obtain ⟨⟨d1, d2⟩, ED⟩ := QD
  simp only at hsm hpm
  unfold DmPost at HM0 HM1 HN0 HN1
  obtain ⟨s01, s02, s03, s04, s05, s06, s07⟩ := x
  obtain ⟨s11, s12, s13, s14, s15, s16, s17⟩ := y
  obtain ⟨p01, p02, p03, p04, p05⟩ := p
  obtain ⟨p11, p12, p13, p14, p15⟩ := q
  simp only at HM0 HM1 HN0 HN1
  have HSM := Lib.hid hsm
  have HPM := Lib.hid hpm
  obtain ⟨X, hX⟩ : ∃ X, w.heap.size = X := ⟨_, rfl⟩
  obtain ⟨wA, hA⟩ : ∃ W, w.alloc (.cells #[.bool s01, .bool s02, .int .i64 s03, .int .i64 s04, .int .i64 s05, .int .i64 s06, .string s07, .bool s11, .bool s12, .int .i64 s13, .int .i64 s14, .int .i64 s15, .int .i64 s16, .string s17] 92) = W := ⟨_, rfl⟩
  obtain ⟨wB, hB⟩ : ∃ W, wA.alloc (.cells #[.int .i64 p01, .int .i64 p02, .int .i64 p03, .int .i64 p04, .int .i64 p05, .int .i64 p11, .int .i64 p12, .int .i64 p13, .int .i64 p14, .int .i64 p15] 93) = W := ⟨_, rfl⟩
  have hz : wA.heap.size = X + 1 := by rw [← hA, World.size_alloc, hX]
  have kA : Keeps w wA := by rw [← hA]; exact (Keeps.refl w).alloc _
  have kB : Keeps wA wB := by rw [← hB]; exact (Keeps.refl wA).alloc _
  have HX_0 := Lib.hid (show CsAt X [.bool s01, .bool s02, .int .i64 s03, .int .i64 s04, .int .i64 s05, .int .i64 s06, .string s07, .bool s11, .bool s12, .int .i64 s13, .int .i64 s14, .int .i64 s15, .int .i64 s16, .string s17] wB from CsAt.keeps (w := wA) (by rw [← hX, ← hA]; exact CsAt.made w #[.bool s01, .bool s02, .int .i64 s03, .int .i64 s04, .int .i64 s05, .int .i64 s06, .string s07, .bool s11, .bool s12, .int .i64 s13, .int .i64 s14, .int .i64 s15, .int .i64 s16, .string s17] _ (by simp)) kB)
  have HP_0 := Lib.hid (show CsAt (X + 1) [.int .i64 p01, .int .i64 p02, .int .i64 p03, .int .i64 p04, .int .i64 p05, .int .i64 p11, .int .i64 p12, .int .i64 p13, .int .i64 p14, .int .i64 p15] wB by rw [← hz, ← hB]; exact CsAt.made wA #[.int .i64 p01, .int .i64 p02, .int .i64 p03, .int .i64 p04, .int .i64 p05, .int .i64 p11, .int .i64 p12, .int .i64 p13, .int .i64 p14, .int .i64 p15] _ (by simp))
  have HKK_0 := Lib.hid (kA.trans kB)
  have r6 := HX_0.out.cell 6 rfl
  have r13 := HX_0.out.cell 13 rfl
  show Calls Tryd.prog 9 #[.agg #[.bool s01, .bool s02, .int .i64 s03, .int .i64 s04, .int .i64 s05, .int .i64 s06, .string s07, .bool s11, .bool s12, .int .i64 s13, .int .i64 s14, .int .i64 s15, .int .i64 s16, .string s17], .agg #[.int .i64 p01, .int .i64 p02, .int .i64 p03, .int .i64 p04, .int .i64 p05, .int .i64 p11, .int .i64 p12, .int .i64 p13, .int .i64 p14, .int .i64 p15]] w _
  clear kA kB hsm hpm hx hy
  by_cases h1 : 300 < s07.size
  · have i1 : (300 : Int) < (s07.size : Int) := by omega
    clear h1
    go_enter Tryd.func9, Tryd.ntmps9
    go_wp2_with (go_at_call 11; refine (HAW.out _ HKK_0.out).mono ?_; rintro _ w9 ⟨rfl, k9⟩; have HK9 := Lib.hid (Keeps.trans HKK_0.out k9); clear k9)
    go_ret
    exact ⟨rfl, HK9.out⟩
  have i1 : ¬ (300 : Int) < (s07.size : Int) := by omega
  by_cases h2 : 300 < s17.size
  · have i2 : (300 : Int) < (s17.size : Int) := by omega
    clear h1 h2
    go_enter Tryd.func9, Tryd.ntmps9
    go_wp2_with (go_at_call 11; refine (HAW.out _ HKK_0.out).mono ?_; rintro _ w9 ⟨rfl, k9⟩; have HK9 := Lib.hid (Keeps.trans HKK_0.out k9); clear k9)
    go_ret
    exact ⟨rfl, HK9.out⟩
  have i2 : ¬ (300 : Int) < (s17.size : Int) := by omega
  clear h1 h2
  by_cases eA : EA = 0
  · by_cases eB : EB = 0
    · subst eA eB
      have hse := HSM.out rfl rfl
      have hd1 := fun W => eqdDd ⟨a1, a2⟩ ⟨b1, b2⟩ W
      have hs1 := fun W => eqdSl ⟨s01, s02, s03, s04, s05, s06, s07⟩ ⟨s11, s12, s13, s14, s15, s16, s17⟩ W
      obtain ⟨r, hr⟩ : ∃ r, sameSl ⟨s01, s02, s03, s04, s05, s06, s07⟩ ⟨s11, s12, s13, s14, s15, s16, s17⟩ = r := ⟨_, rfl⟩
      rw [hr] at hse
      simp only [hse] at hd1
      simp only [hr] at hs1
      have hgd := egdDd
      have hgs := egdSl
      have hrr : (r != r) = false := by cases r <;> rfl
      clear hse hr
      go_enter Tryd.func9, Tryd.ntmps9
      go_wp2_with (first | (refine dwp_ldSl (b := X) (off := 0) (s := ⟨s01, s02, s03, s04, s05, s06, s07⟩) (HX_0.out.mid [] (slC ⟨s01, s02, s03, s04, s05, s06, s07⟩) (slC ⟨s11, s12, s13, s14, s15, s16, s17⟩) rfl rfl) rfl _ rfl rfl ?_) | (go_at_call 19; (with_reducible refine (HM0.out _ HKK_0.out).mono ?_); rintro _ u1 ⟨rfl, k1⟩; obtain ⟨V1, hV1⟩ : ∃ V, u1.heap.size = V := ⟨_, rfl⟩; obtain ⟨x1, hx1⟩ : ∃ W, u1.alloc (.cells #[.int .i64 a1, .string a2] 37) = W := ⟨_, rfl⟩; have q1 : Keeps u1 x1 := (by rw [← hx1]; exact (Keeps.refl u1).alloc _); have HA_1 := Lib.hid (show CsAt V1 (dsC ⟨a1, a2⟩) x1 from (by rw [← hV1, ← hx1]; exact CsAt.made u1 #[.int .i64 a1, .string a2] _ (by simp))); have HX_1 := Lib.hid (HX_0.out.keeps (Keeps.trans k1 q1)); have HP_1 := Lib.hid (HP_0.out.keeps (Keeps.trans k1 q1)); have HKK_1 := Lib.hid (HKK_0.out.trans (Keeps.trans k1 q1)); clear k1 q1) | (refine dwp_ldSl (b := X) (off := 7) (s := ⟨s11, s12, s13, s14, s15, s16, s17⟩) (HX_1.out.mid (slC ⟨s01, s02, s03, s04, s05, s06, s07⟩) (slC ⟨s11, s12, s13, s14, s15, s16, s17⟩) [] rfl rfl) rfl _ rfl rfl ?_) | (go_at_call 19; (with_reducible refine (HM1.out _ HKK_1.out).mono ?_); rintro _ u2 ⟨rfl, k2⟩; obtain ⟨V2, hV2⟩ : ∃ V, u2.heap.size = V := ⟨_, rfl⟩; obtain ⟨x2, hx2⟩ : ∃ W, u2.alloc (.cells #[.int .i64 b1, .string b2] 37) = W := ⟨_, rfl⟩; have q2 : Keeps u2 x2 := (by rw [← hx2]; exact (Keeps.refl u2).alloc _); have HB_2 := Lib.hid (show CsAt V2 (dsC ⟨b1, b2⟩) x2 from (by rw [← hV2, ← hx2]; exact CsAt.made u2 #[.int .i64 b1, .string b2] _ (by simp))); have HX_2 := Lib.hid (HX_1.out.keeps (Keeps.trans k2 q2)); have HP_2 := Lib.hid (HP_1.out.keeps (Keeps.trans k2 q2)); have HA_2 := Lib.hid (HA_1.out.keeps (Keeps.trans k2 q2)); have HKK_2 := Lib.hid (HKK_1.out.trans (Keeps.trans k2 q2)); have pA0_2 := HA_2.out.cell 0 rfl; have pA1_2 := HA_2.out.cell 1 rfl; have pB0_2 := HB_2.out.cell 0 rfl; have pB1_2 := HB_2.out.cell 1 rfl; have pX0_2 := HX_2.out.cell 0 rfl; have pX1_2 := HX_2.out.cell 1 rfl; have pX2_2 := HX_2.out.cell 2 rfl; have pX3_2 := HX_2.out.cell 3 rfl; have pX4_2 := HX_2.out.cell 4 rfl; have pX5_2 := HX_2.out.cell 5 rfl; have pX6_2 := HX_2.out.cell 6 rfl; have pX7_2 := HX_2.out.cell 7 rfl; have pX8_2 := HX_2.out.cell 8 rfl; have pX9_2 := HX_2.out.cell 9 rfl; have pX10_2 := HX_2.out.cell 10 rfl; have pX11_2 := HX_2.out.cell 11 rfl; have pX12_2 := HX_2.out.cell 12 rfl; have pX13_2 := HX_2.out.cell 13 rfl; clear k2 q2))
      go_quiet (fail)
      obtain ⟨w3, hw3⟩ : ∃ W, x2.drewN nq = W := ⟨_, rfl⟩
      have hq3 : Eqv x2 w3 := by rw [← hw3]; exact Eqv.drewN _ _
      rw [hw3]
      have HKK_0 := Lib.hid (HKK_2.out.eqv hq3)
      have HP_0 := Lib.hid (HP_2.out.eqv hq3)
      clear hq3 hw3 pA0_2 pA1_2 pB0_2 pB1_2 pX0_2 pX1_2 pX2_2 pX3_2 pX4_2 pX5_2 pX6_2 pX7_2 pX8_2 pX9_2 pX10_2 pX11_2 pX12_2 pX13_2 HKK_1 HKK_2 HP_1 HP_2 HX_1 HX_2
      by_cases eC : EC = 0
      · by_cases eD : ED = 0
        · subst eC eD
          obtain ⟨hpe, hpt⟩ := HPM.out rfl rfl
          have hd2 := fun W => eqdDd ⟨c1, c2⟩ ⟨d1, d2⟩ W
          have hs2 := fun W => eqdPl ⟨p01, p02, p03, p04, p05⟩ ⟨p11, p12, p13, p14, p15⟩ W
          obtain ⟨r2, hr2⟩ : ∃ r, samePl ⟨p01, p02, p03, p04, p05⟩ ⟨p11, p12, p13, p14, p15⟩ = r := ⟨_, rfl⟩
          rw [hr2] at hpe
          simp only [hpe] at hd2
          simp only [hr2] at hs2
          have hpt : c1 = 19 := hpt
          subst hpt
          have hgd2 := egdDd
          have hgp := egdPl
          have hrr2 : (r2 == r2) = true := by cases r2 <;> rfl
          clear hpe hr2
          go_wp2_with (first | (refine dwp_ldPl (b := X + 1) (off := 0) (s := ⟨p01, p02, p03, p04, p05⟩) (HP_0.out.mid [] (plC ⟨p01, p02, p03, p04, p05⟩) (plC ⟨p11, p12, p13, p14, p15⟩) rfl rfl) rfl _ rfl rfl ?_) | (go_at_call 24; (with_reducible refine (HN0.out _ HKK_0.out).mono ?_); rintro _ u1 ⟨rfl, k1⟩; obtain ⟨V1, hV1⟩ : ∃ V, u1.heap.size = V := ⟨_, rfl⟩; obtain ⟨x1, hx1⟩ : ∃ W, u1.alloc (.cells #[.int .i64 19, .string c2] 37) = W := ⟨_, rfl⟩; have q1 : Keeps u1 x1 := (by rw [← hx1]; exact (Keeps.refl u1).alloc _); have HC_1 := Lib.hid (show CsAt V1 (dsC ⟨19, c2⟩) x1 from (by rw [← hV1, ← hx1]; exact CsAt.made u1 #[.int .i64 19, .string c2] _ (by simp))); have HP_1 := Lib.hid (HP_0.out.keeps (Keeps.trans k1 q1)); have HKK_1 := Lib.hid (HKK_0.out.trans (Keeps.trans k1 q1)); clear k1 q1) | (refine dwp_ldPl (b := X + 1) (off := 5) (s := ⟨p11, p12, p13, p14, p15⟩) (HP_1.out.mid (plC ⟨p01, p02, p03, p04, p05⟩) (plC ⟨p11, p12, p13, p14, p15⟩) [] rfl rfl) rfl _ rfl rfl ?_) | (go_at_call 24; (with_reducible refine (HN1.out _ HKK_1.out).mono ?_); rintro _ u2 ⟨rfl, k2⟩; obtain ⟨V2, hV2⟩ : ∃ V, u2.heap.size = V := ⟨_, rfl⟩; obtain ⟨x2, hx2⟩ : ∃ W, u2.alloc (.cells #[.int .i64 d1, .string d2] 37) = W := ⟨_, rfl⟩; have q2 : Keeps u2 x2 := (by rw [← hx2]; exact (Keeps.refl u2).alloc _); have HD_2 := Lib.hid (show CsAt V2 (dsC ⟨d1, d2⟩) x2 from (by rw [← hV2, ← hx2]; exact CsAt.made u2 #[.int .i64 d1, .string d2] _ (by simp))); have HP_2 := Lib.hid (HP_1.out.keeps (Keeps.trans k2 q2)); have HC_2 := Lib.hid (HC_1.out.keeps (Keeps.trans k2 q2)); have HKK_2 := Lib.hid (HKK_1.out.trans (Keeps.trans k2 q2)); have pC0_2 := HC_2.out.cell 0 rfl; have pC1_2 := HC_2.out.cell 1 rfl; have pD0_2 := HD_2.out.cell 0 rfl; have pD1_2 := HD_2.out.cell 1 rfl; clear k2 q2))
          refine wp_draw_tail 17 (by kernel_rfl) [dsV ⟨19, c2⟩, dsV ⟨d1, d2⟩, .bool r2, .pointer (some ⟨X + 1, 0, none⟩), plV ⟨p01, p02, p03, p04, p05⟩, .pointer (some ⟨X + 1, 5, none⟩), plV ⟨p11, p12, p13, p14, p15⟩, .bool r2, .bool true, .bool true, .pointer (some ⟨V1, 0, none⟩), .int .i64 19, .bool true, .bool true, .bool true, .bool true, .bool true]
            (fun _ W => Keeps x2 W) rfl (by kernel_rfl) (by kernel_rfl) (fin := ?fin1) ?hfin1 ((Keeps.refl x2).eqv (Eqv.drew x2)) ?each1 ?hend1
          case hfin1 => simp [seqA, dstOf, Act.put]; rfl
          case each1 =>
            refine ⟨?_, ?_, ?_, ?_, ?_, ?_, ?_, ?_, ?_, ?_, ?_, ?_, ?_, ?_, ?_, ?_, ?_, trivial⟩
            all_goals intro L w5 h0 hd hs hw
            · exact does_load _ _ rfl V1 0 rfl (dsC ⟨19, c2⟩) _ (HC_2.out.keeps hw).r Tryd.underlying37 rfl (by kernel_rfl) ⟨fun _ => rfl, fun _ _ => hw⟩
            · exact does_load _ _ rfl V2 0 rfl (dsC ⟨d1, d2⟩) _ (HD_2.out.keeps hw).r Tryd.underlying37 rfl (by kernel_rfl) ⟨fun _ => rfl, fun _ _ => hw⟩
            · exact does_eq (hd2 w5) hgd2 _ _ rfl rfl rfl ⟨fun _ => rfl, fun _ _ => hw⟩
            · first | (unfold Does; go_simp; done) | (unfold Does; go_simp; exact fun L' k => hw)
            · exact does_load _ _ rfl (X + 1) 0 rfl (plC ⟨p01, p02, p03, p04, p05⟩) _ ((HP_2.out.keeps hw).mid [] (plC ⟨p01, p02, p03, p04, p05⟩) (plC ⟨p11, p12, p13, p14, p15⟩) rfl rfl) Tryd.underlying55 rfl (by kernel_rfl) ⟨fun _ => rfl, fun _ _ => hw⟩
            · first | (unfold Does; go_simp; done) | (unfold Does; go_simp; exact fun L' k => hw)
            · exact does_load _ _ rfl (X + 1) 5 rfl (plC ⟨p11, p12, p13, p14, p15⟩) _ ((HP_2.out.keeps hw).mid (plC ⟨p01, p02, p03, p04, p05⟩) (plC ⟨p11, p12, p13, p14, p15⟩) [] rfl rfl) Tryd.underlying55 rfl (by kernel_rfl) ⟨fun _ => rfl, fun _ _ => hw⟩
            · exact does_eq (hs2 w5) hgp _ _ rfl rfl rfl ⟨fun _ => rfl, fun _ _ => hw⟩
            all_goals have e0 := (HC_2.out.keeps hw).cell 0 rfl
            all_goals first | (unfold Does; go_simp; done) | (unfold Does; go_simp; exact fun L' k => hw) | (split <;> first | (rename_i hg; exact absurd rfl hg) | (unfold Does; go_simp; done) | (unfold Does; go_simp; first | exact fun L' k => hw | (refine (HAW.out _ (HKK_2.out.trans hw)).mono ?_; rintro _ w6 ⟨rfl, k6⟩; exact ⟨_, rfl, rfl, fun _ _ => Keeps.trans hw k6⟩)))
          case hend1 =>
          intro L w7 hL hw
          have HK9 := Lib.hid (HKK_2.out.trans hw)
          simp only [List.drop_succ_cons, List.drop_zero]
          clear hw hL
          go_wp2
          go_ret
          exact ⟨rfl, HK9.out⟩
        · subst eC
          have eDf : (ED != 0) = true := bne_iff_ne.2 eD
          clear eD
          go_wp2_with (first | (refine dwp_ldPl (b := X + 1) (off := 0) (s := ⟨p01, p02, p03, p04, p05⟩) (HP_0.out.mid [] (plC ⟨p01, p02, p03, p04, p05⟩) (plC ⟨p11, p12, p13, p14, p15⟩) rfl rfl) rfl _ rfl rfl ?_) | (go_at_call 24; (with_reducible refine (HN0.out _ HKK_0.out).mono ?_); rintro _ u1 ⟨rfl, k1⟩; obtain ⟨V1, hV1⟩ : ∃ V, u1.heap.size = V := ⟨_, rfl⟩; obtain ⟨x1, hx1⟩ : ∃ W, u1.alloc (.cells #[.int .i64 c1, .string c2] 37) = W := ⟨_, rfl⟩; have q1 : Keeps u1 x1 := (by rw [← hx1]; exact (Keeps.refl u1).alloc _); have HC_1 := Lib.hid (show CsAt V1 (dsC ⟨c1, c2⟩) x1 from (by rw [← hV1, ← hx1]; exact CsAt.made u1 #[.int .i64 c1, .string c2] _ (by simp))); have HP_1 := Lib.hid (HP_0.out.keeps (Keeps.trans k1 q1)); have HKK_1 := Lib.hid (HKK_0.out.trans (Keeps.trans k1 q1)); clear k1 q1) | (refine dwp_ldPl (b := X + 1) (off := 5) (s := ⟨p11, p12, p13, p14, p15⟩) (HP_1.out.mid (plC ⟨p01, p02, p03, p04, p05⟩) (plC ⟨p11, p12, p13, p14, p15⟩) [] rfl rfl) rfl _ rfl rfl ?_) | (go_at_call 24; (with_reducible refine (HN1.out _ HKK_1.out).mono ?_); rintro _ u2 ⟨rfl, k2⟩; obtain ⟨V2, hV2⟩ : ∃ V, u2.heap.size = V := ⟨_, rfl⟩; obtain ⟨x2, hx2⟩ : ∃ W, u2.alloc (.cells #[.int .i64 d1, .string d2] 37) = W := ⟨_, rfl⟩; have q2 : Keeps u2 x2 := (by rw [← hx2]; exact (Keeps.refl u2).alloc _); have HD_2 := Lib.hid (show CsAt V2 (dsC ⟨d1, d2⟩) x2 from (by rw [← hV2, ← hx2]; exact CsAt.made u2 #[.int .i64 d1, .string d2] _ (by simp))); have HP_2 := Lib.hid (HP_1.out.keeps (Keeps.trans k2 q2)); have HC_2 := Lib.hid (HC_1.out.keeps (Keeps.trans k2 q2)); have HKK_2 := Lib.hid (HKK_1.out.trans (Keeps.trans k2 q2)); have pC0_2 := HC_2.out.cell 0 rfl; have pC1_2 := HC_2.out.cell 1 rfl; have pD0_2 := HD_2.out.cell 0 rfl; have pD1_2 := HD_2.out.cell 1 rfl; clear k2 q2) | (go_at_call 11; refine (HAW.out _ HKK_2.out).mono ?_; rintro _ w9 ⟨rfl, k9⟩; have HK9 := Lib.hid (Keeps.trans HKK_2.out k9); clear k9))
          go_ret
          exact ⟨rfl, HK9.out⟩
      · have eCf : (EC != 0) = true := bne_iff_ne.2 eC
        clear eC
        go_wp2_with (first | (refine dwp_ldPl (b := X + 1) (off := 0) (s := ⟨p01, p02, p03, p04, p05⟩) (HP_0.out.mid [] (plC ⟨p01, p02, p03, p04, p05⟩) (plC ⟨p11, p12, p13, p14, p15⟩) rfl rfl) rfl _ rfl rfl ?_) | (go_at_call 24; (with_reducible refine (HN0.out _ HKK_0.out).mono ?_); rintro _ u1 ⟨rfl, k1⟩; obtain ⟨V1, hV1⟩ : ∃ V, u1.heap.size = V := ⟨_, rfl⟩; obtain ⟨x1, hx1⟩ : ∃ W, u1.alloc (.cells #[.int .i64 c1, .string c2] 37) = W := ⟨_, rfl⟩; have q1 : Keeps u1 x1 := (by rw [← hx1]; exact (Keeps.refl u1).alloc _); have HC_1 := Lib.hid (show CsAt V1 (dsC ⟨c1, c2⟩) x1 from (by rw [← hV1, ← hx1]; exact CsAt.made u1 #[.int .i64 c1, .string c2] _ (by simp))); have HP_1 := Lib.hid (HP_0.out.keeps (Keeps.trans k1 q1)); have HKK_1 := Lib.hid (HKK_0.out.trans (Keeps.trans k1 q1)); clear k1 q1) | (refine dwp_ldPl (b := X + 1) (off := 5) (s := ⟨p11, p12, p13, p14, p15⟩) (HP_1.out.mid (plC ⟨p01, p02, p03, p04, p05⟩) (plC ⟨p11, p12, p13, p14, p15⟩) [] rfl rfl) rfl _ rfl rfl ?_) | (go_at_call 24; (with_reducible refine (HN1.out _ HKK_1.out).mono ?_); rintro _ u2 ⟨rfl, k2⟩; obtain ⟨V2, hV2⟩ : ∃ V, u2.heap.size = V := ⟨_, rfl⟩; obtain ⟨x2, hx2⟩ : ∃ W, u2.alloc (.cells #[.int .i64 d1, .string d2] 37) = W := ⟨_, rfl⟩; have q2 : Keeps u2 x2 := (by rw [← hx2]; exact (Keeps.refl u2).alloc _); have HD_2 := Lib.hid (show CsAt V2 (dsC ⟨d1, d2⟩) x2 from (by rw [← hV2, ← hx2]; exact CsAt.made u2 #[.int .i64 d1, .string d2] _ (by simp))); have HP_2 := Lib.hid (HP_1.out.keeps (Keeps.trans k2 q2)); have HC_2 := Lib.hid (HC_1.out.keeps (Keeps.trans k2 q2)); have HKK_2 := Lib.hid (HKK_1.out.trans (Keeps.trans k2 q2)); have pC0_2 := HC_2.out.cell 0 rfl; have pC1_2 := HC_2.out.cell 1 rfl; have pD0_2 := HD_2.out.cell 0 rfl; have pD1_2 := HD_2.out.cell 1 rfl; clear k2 q2) | (go_at_call 11; refine (HAW.out _ HKK_2.out).mono ?_; rintro _ w9 ⟨rfl, k9⟩; have HK9 := Lib.hid (Keeps.trans HKK_2.out k9); clear k9))
        go_ret
        exact ⟨rfl, HK9.out⟩
    · subst eA
      have eBf : (EB == 0) = false := beq_eq_false_iff_ne.2 eB
      clear eB
      go_enter Tryd.func9, Tryd.ntmps9
      go_wp2_with (first | (refine dwp_ldSl (b := X) (off := 0) (s := ⟨s01, s02, s03, s04, s05, s06, s07⟩) (HX_0.out.mid [] (slC ⟨s01, s02, s03, s04, s05, s06, s07⟩) (slC ⟨s11, s12, s13, s14, s15, s16, s17⟩) rfl rfl) rfl _ rfl rfl ?_) | (go_at_call 19; (with_reducible refine (HM0.out _ HKK_0.out).mono ?_); rintro _ u1 ⟨rfl, k1⟩; obtain ⟨V1, hV1⟩ : ∃ V, u1.heap.size = V := ⟨_, rfl⟩; obtain ⟨x1, hx1⟩ : ∃ W, u1.alloc (.cells #[.int .i64 a1, .string a2] 37) = W := ⟨_, rfl⟩; have q1 : Keeps u1 x1 := (by rw [← hx1]; exact (Keeps.refl u1).alloc _); have HA_1 := Lib.hid (show CsAt V1 (dsC ⟨a1, a2⟩) x1 from (by rw [← hV1, ← hx1]; exact CsAt.made u1 #[.int .i64 a1, .string a2] _ (by simp))); have HX_1 := Lib.hid (HX_0.out.keeps (Keeps.trans k1 q1)); have HP_1 := Lib.hid (HP_0.out.keeps (Keeps.trans k1 q1)); have HKK_1 := Lib.hid (HKK_0.out.trans (Keeps.trans k1 q1)); clear k1 q1) | (refine dwp_ldSl (b := X) (off := 7) (s := ⟨s11, s12, s13, s14, s15, s16, s17⟩) (HX_1.out.mid (slC ⟨s01, s02, s03, s04, s05, s06, s07⟩) (slC ⟨s11, s12, s13, s14, s15, s16, s17⟩) [] rfl rfl) rfl _ rfl rfl ?_) | (go_at_call 19; (with_reducible refine (HM1.out _ HKK_1.out).mono ?_); rintro _ u2 ⟨rfl, k2⟩; obtain ⟨V2, hV2⟩ : ∃ V, u2.heap.size = V := ⟨_, rfl⟩; obtain ⟨x2, hx2⟩ : ∃ W, u2.alloc (.cells #[.int .i64 b1, .string b2] 37) = W := ⟨_, rfl⟩; have q2 : Keeps u2 x2 := (by rw [← hx2]; exact (Keeps.refl u2).alloc _); have HB_2 := Lib.hid (show CsAt V2 (dsC ⟨b1, b2⟩) x2 from (by rw [← hV2, ← hx2]; exact CsAt.made u2 #[.int .i64 b1, .string b2] _ (by simp))); have HX_2 := Lib.hid (HX_1.out.keeps (Keeps.trans k2 q2)); have HP_2 := Lib.hid (HP_1.out.keeps (Keeps.trans k2 q2)); have HA_2 := Lib.hid (HA_1.out.keeps (Keeps.trans k2 q2)); have HKK_2 := Lib.hid (HKK_1.out.trans (Keeps.trans k2 q2)); have pA0_2 := HA_2.out.cell 0 rfl; have pA1_2 := HA_2.out.cell 1 rfl; have pB0_2 := HB_2.out.cell 0 rfl; have pB1_2 := HB_2.out.cell 1 rfl; have pX0_2 := HX_2.out.cell 0 rfl; have pX1_2 := HX_2.out.cell 1 rfl; have pX2_2 := HX_2.out.cell 2 rfl; have pX3_2 := HX_2.out.cell 3 rfl; have pX4_2 := HX_2.out.cell 4 rfl; have pX5_2 := HX_2.out.cell 5 rfl; have pX6_2 := HX_2.out.cell 6 rfl; have pX7_2 := HX_2.out.cell 7 rfl; have pX8_2 := HX_2.out.cell 8 rfl; have pX9_2 := HX_2.out.cell 9 rfl; have pX10_2 := HX_2.out.cell 10 rfl; have pX11_2 := HX_2.out.cell 11 rfl; have pX12_2 := HX_2.out.cell 12 rfl; have pX13_2 := HX_2.out.cell 13 rfl; clear k2 q2))
      go_quiet (fail)
      obtain ⟨w3, hw3⟩ : ∃ W, x2.drewN nq = W := ⟨_, rfl⟩
      have hq3 : Eqv x2 w3 := by rw [← hw3]; exact Eqv.drewN _ _
      rw [hw3]
      have HKK_0 := Lib.hid (HKK_2.out.eqv hq3)
      have HP_0 := Lib.hid (HP_2.out.eqv hq3)
      clear hq3 hw3 pA0_2 pA1_2 pB0_2 pB1_2 pX0_2 pX1_2 pX2_2 pX3_2 pX4_2 pX5_2 pX6_2 pX7_2 pX8_2 pX9_2 pX10_2 pX11_2 pX12_2 pX13_2 HKK_1 HKK_2 HP_1 HP_2 HX_1 HX_2
      by_cases eC : EC = 0
      · by_cases eD : ED = 0
        · subst eC eD
          obtain ⟨hpe, hpt⟩ := HPM.out rfl rfl
          have hd2 := fun W => eqdDd ⟨c1, c2⟩ ⟨d1, d2⟩ W
          have hs2 := fun W => eqdPl ⟨p01, p02, p03, p04, p05⟩ ⟨p11, p12, p13, p14, p15⟩ W
          obtain ⟨r2, hr2⟩ : ∃ r, samePl ⟨p01, p02, p03, p04, p05⟩ ⟨p11, p12, p13, p14, p15⟩ = r := ⟨_, rfl⟩
          rw [hr2] at hpe
          simp only [hpe] at hd2
          simp only [hr2] at hs2
          have hpt : c1 = 19 := hpt
          subst hpt
          have hgd2 := egdDd
          have hgp := egdPl
          have hrr2 : (r2 == r2) = true := by cases r2 <;> rfl
          clear hpe hr2
          go_wp2_with (first | (refine dwp_ldPl (b := X + 1) (off := 0) (s := ⟨p01, p02, p03, p04, p05⟩) (HP_0.out.mid [] (plC ⟨p01, p02, p03, p04, p05⟩) (plC ⟨p11, p12, p13, p14, p15⟩) rfl rfl) rfl _ rfl rfl ?_) | (go_at_call 24; (with_reducible refine (HN0.out _ HKK_0.out).mono ?_); rintro _ u1 ⟨rfl, k1⟩; obtain ⟨V1, hV1⟩ : ∃ V, u1.heap.size = V := ⟨_, rfl⟩; obtain ⟨x1, hx1⟩ : ∃ W, u1.alloc (.cells #[.int .i64 19, .string c2] 37) = W := ⟨_, rfl⟩; have q1 : Keeps u1 x1 := (by rw [← hx1]; exact (Keeps.refl u1).alloc _); have HC_1 := Lib.hid (show CsAt V1 (dsC ⟨19, c2⟩) x1 from (by rw [← hV1, ← hx1]; exact CsAt.made u1 #[.int .i64 19, .string c2] _ (by simp))); have HP_1 := Lib.hid (HP_0.out.keeps (Keeps.trans k1 q1)); have HKK_1 := Lib.hid (HKK_0.out.trans (Keeps.trans k1 q1)); clear k1 q1) | (refine dwp_ldPl (b := X + 1) (off := 5) (s := ⟨p11, p12, p13, p14, p15⟩) (HP_1.out.mid (plC ⟨p01, p02, p03, p04, p05⟩) (plC ⟨p11, p12, p13, p14, p15⟩) [] rfl rfl) rfl _ rfl rfl ?_) | (go_at_call 24; (with_reducible refine (HN1.out _ HKK_1.out).mono ?_); rintro _ u2 ⟨rfl, k2⟩; obtain ⟨V2, hV2⟩ : ∃ V, u2.heap.size = V := ⟨_, rfl⟩; obtain ⟨x2, hx2⟩ : ∃ W, u2.alloc (.cells #[.int .i64 d1, .string d2] 37) = W := ⟨_, rfl⟩; have q2 : Keeps u2 x2 := (by rw [← hx2]; exact (Keeps.refl u2).alloc _); have HD_2 := Lib.hid (show CsAt V2 (dsC ⟨d1, d2⟩) x2 from (by rw [← hV2, ← hx2]; exact CsAt.made u2 #[.int .i64 d1, .string d2] _ (by simp))); have HP_2 := Lib.hid (HP_1.out.keeps (Keeps.trans k2 q2)); have HC_2 := Lib.hid (HC_1.out.keeps (Keeps.trans k2 q2)); have HKK_2 := Lib.hid (HKK_1.out.trans (Keeps.trans k2 q2)); have pC0_2 := HC_2.out.cell 0 rfl; have pC1_2 := HC_2.out.cell 1 rfl; have pD0_2 := HD_2.out.cell 0 rfl; have pD1_2 := HD_2.out.cell 1 rfl; clear k2 q2))
          refine wp_draw_tail 17 (by kernel_rfl) [dsV ⟨19, c2⟩, dsV ⟨d1, d2⟩, .bool r2, .pointer (some ⟨X + 1, 0, none⟩), plV ⟨p01, p02, p03, p04, p05⟩, .pointer (some ⟨X + 1, 5, none⟩), plV ⟨p11, p12, p13, p14, p15⟩, .bool r2, .bool true, .bool true, .pointer (some ⟨V1, 0, none⟩), .int .i64 19, .bool true, .bool true, .bool true, .bool true, .bool true]
            (fun _ W => Keeps x2 W) rfl (by kernel_rfl) (by kernel_rfl) (fin := ?fin2) ?hfin2 ((Keeps.refl x2).eqv (Eqv.drew x2)) ?each2 ?hend2
          case hfin2 => simp [seqA, dstOf, Act.put]; rfl
          case each2 =>
            refine ⟨?_, ?_, ?_, ?_, ?_, ?_, ?_, ?_, ?_, ?_, ?_, ?_, ?_, ?_, ?_, ?_, ?_, trivial⟩
            all_goals intro L w5 h0 hd hs hw
            · exact does_load _ _ rfl V1 0 rfl (dsC ⟨19, c2⟩) _ (HC_2.out.keeps hw).r Tryd.underlying37 rfl (by kernel_rfl) ⟨fun _ => rfl, fun _ _ => hw⟩
            · exact does_load _ _ rfl V2 0 rfl (dsC ⟨d1, d2⟩) _ (HD_2.out.keeps hw).r Tryd.underlying37 rfl (by kernel_rfl) ⟨fun _ => rfl, fun _ _ => hw⟩
            · exact does_eq (hd2 w5) hgd2 _ _ rfl rfl rfl ⟨fun _ => rfl, fun _ _ => hw⟩
            · first | (unfold Does; go_simp; done) | (unfold Does; go_simp; exact fun L' k => hw)
            · exact does_load _ _ rfl (X + 1) 0 rfl (plC ⟨p01, p02, p03, p04, p05⟩) _ ((HP_2.out.keeps hw).mid [] (plC ⟨p01, p02, p03, p04, p05⟩) (plC ⟨p11, p12, p13, p14, p15⟩) rfl rfl) Tryd.underlying55 rfl (by kernel_rfl) ⟨fun _ => rfl, fun _ _ => hw⟩
            · first | (unfold Does; go_simp; done) | (unfold Does; go_simp; exact fun L' k => hw)
            · exact does_load _ _ rfl (X + 1) 5 rfl (plC ⟨p11, p12, p13, p14, p15⟩) _ ((HP_2.out.keeps hw).mid (plC ⟨p01, p02, p03, p04, p05⟩) (plC ⟨p11, p12, p13, p14, p15⟩) [] rfl rfl) Tryd.underlying55 rfl (by kernel_rfl) ⟨fun _ => rfl, fun _ _ => hw⟩
            · exact does_eq (hs2 w5) hgp _ _ rfl rfl rfl ⟨fun _ => rfl, fun _ _ => hw⟩
            all_goals have e0 := (HC_2.out.keeps hw).cell 0 rfl
            all_goals first | (unfold Does; go_simp; done) | (unfold Does; go_simp; exact fun L' k => hw) | (split <;> first | (rename_i hg; exact absurd rfl hg) | (unfold Does; go_simp; done) | (unfold Does; go_simp; first | exact fun L' k => hw | (refine (HAW.out _ (HKK_2.out.trans hw)).mono ?_; rintro _ w6 ⟨rfl, k6⟩; exact ⟨_, rfl, rfl, fun _ _ => Keeps.trans hw k6⟩)))
          case hend2 =>
          intro L w7 hL hw
          have HK9 := Lib.hid (HKK_2.out.trans hw)
          simp only [List.drop_succ_cons, List.drop_zero]
          clear hw hL
          go_wp2
          go_ret
          exact ⟨rfl, HK9.out⟩
        · subst eC
          have eDf : (ED != 0) = true := bne_iff_ne.2 eD
          clear eD
          go_wp2_with (first | (refine dwp_ldPl (b := X + 1) (off := 0) (s := ⟨p01, p02, p03, p04, p05⟩) (HP_0.out.mid [] (plC ⟨p01, p02, p03, p04, p05⟩) (plC ⟨p11, p12, p13, p14, p15⟩) rfl rfl) rfl _ rfl rfl ?_) | (go_at_call 24; (with_reducible refine (HN0.out _ HKK_0.out).mono ?_); rintro _ u1 ⟨rfl, k1⟩; obtain ⟨V1, hV1⟩ : ∃ V, u1.heap.size = V := ⟨_, rfl⟩; obtain ⟨x1, hx1⟩ : ∃ W, u1.alloc (.cells #[.int .i64 c1, .string c2] 37) = W := ⟨_, rfl⟩; have q1 : Keeps u1 x1 := (by rw [← hx1]; exact (Keeps.refl u1).alloc _); have HC_1 := Lib.hid (show CsAt V1 (dsC ⟨c1, c2⟩) x1 from (by rw [← hV1, ← hx1]; exact CsAt.made u1 #[.int .i64 c1, .string c2] _ (by simp))); have HP_1 := Lib.hid (HP_0.out.keeps (Keeps.trans k1 q1)); have HKK_1 := Lib.hid (HKK_0.out.trans (Keeps.trans k1 q1)); clear k1 q1) | (refine dwp_ldPl (b := X + 1) (off := 5) (s := ⟨p11, p12, p13, p14, p15⟩) (HP_1.out.mid (plC ⟨p01, p02, p03, p04, p05⟩) (plC ⟨p11, p12, p13, p14, p15⟩) [] rfl rfl) rfl _ rfl rfl ?_) | (go_at_call 24; (with_reducible refine (HN1.out _ HKK_1.out).mono ?_); rintro _ u2 ⟨rfl, k2⟩; obtain ⟨V2, hV2⟩ : ∃ V, u2.heap.size = V := ⟨_, rfl⟩; obtain ⟨x2, hx2⟩ : ∃ W, u2.alloc (.cells #[.int .i64 d1, .string d2] 37) = W := ⟨_, rfl⟩; have q2 : Keeps u2 x2 := (by rw [← hx2]; exact (Keeps.refl u2).alloc _); have HD_2 := Lib.hid (show CsAt V2 (dsC ⟨d1, d2⟩) x2 from (by rw [← hV2, ← hx2]; exact CsAt.made u2 #[.int .i64 d1, .string d2] _ (by simp))); have HP_2 := Lib.hid (HP_1.out.keeps (Keeps.trans k2 q2)); have HC_2 := Lib.hid (HC_1.out.keeps (Keeps.trans k2 q2)); have HKK_2 := Lib.hid (HKK_1.out.trans (Keeps.trans k2 q2)); have pC0_2 := HC_2.out.cell 0 rfl; have pC1_2 := HC_2.out.cell 1 rfl; have pD0_2 := HD_2.out.cell 0 rfl; have pD1_2 := HD_2.out.cell 1 rfl; clear k2 q2) | (go_at_call 11; refine (HAW.out _ HKK_2.out).mono ?_; rintro _ w9 ⟨rfl, k9⟩; have HK9 := Lib.hid (Keeps.trans HKK_2.out k9); clear k9))
          go_ret
          exact ⟨rfl, HK9.out⟩
      · have eCf : (EC != 0) = true := bne_iff_ne.2 eC
        clear eC
        go_wp2_with (first | (refine dwp_ldPl (b := X + 1) (off := 0) (s := ⟨p01, p02, p03, p04, p05⟩) (HP_0.out.mid [] (plC ⟨p01, p02, p03, p04, p05⟩) (plC ⟨p11, p12, p13, p14, p15⟩) rfl rfl) rfl _ rfl rfl ?_) | (go_at_call 24; (with_reducible refine (HN0.out _ HKK_0.out).mono ?_); rintro _ u1 ⟨rfl, k1⟩; obtain ⟨V1, hV1⟩ : ∃ V, u1.heap.size = V := ⟨_, rfl⟩; obtain ⟨x1, hx1⟩ : ∃ W, u1.alloc (.cells #[.int .i64 c1, .string c2] 37) = W := ⟨_, rfl⟩; have q1 : Keeps u1 x1 := (by rw [← hx1]; exact (Keeps.refl u1).alloc _); have HC_1 := Lib.hid (show CsAt V1 (dsC ⟨c1, c2⟩) x1 from (by rw [← hV1, ← hx1]; exact CsAt.made u1 #[.int .i64 c1, .string c2] _ (by simp))); have HP_1 := Lib.hid (HP_0.out.keeps (Keeps.trans k1 q1)); have HKK_1 := Lib.hid (HKK_0.out.trans (Keeps.trans k1 q1)); clear k1 q1) | (refine dwp_ldPl (b := X + 1) (off := 5) (s := ⟨p11, p12, p13, p14, p15⟩) (HP_1.out.mid (plC ⟨p01, p02, p03, p04, p05⟩) (plC ⟨p11, p12, p13, p14, p15⟩) [] rfl rfl) rfl _ rfl rfl ?_) | (go_at_call 24; (with_reducible refine (HN1.out _ HKK_1.out).mono ?_); rintro _ u2 ⟨rfl, k2⟩; obtain ⟨V2, hV2⟩ : ∃ V, u2.heap.size = V := ⟨_, rfl⟩; obtain ⟨x2, hx2⟩ : ∃ W, u2.alloc (.cells #[.int .i64 d1, .string d2] 37) = W := ⟨_, rfl⟩; have q2 : Keeps u2 x2 := (by rw [← hx2]; exact (Keeps.refl u2).alloc _); have HD_2 := Lib.hid (show CsAt V2 (dsC ⟨d1, d2⟩) x2 from (by rw [← hV2, ← hx2]; exact CsAt.made u2 #[.int .i64 d1, .string d2] _ (by simp))); have HP_2 := Lib.hid (HP_1.out.keeps (Keeps.trans k2 q2)); have HC_2 := Lib.hid (HC_1.out.keeps (Keeps.trans k2 q2)); have HKK_2 := Lib.hid (HKK_1.out.trans (Keeps.trans k2 q2)); have pC0_2 := HC_2.out.cell 0 rfl; have pC1_2 := HC_2.out.cell 1 rfl; have pD0_2 := HD_2.out.cell 0 rfl; have pD1_2 := HD_2.out.cell 1 rfl; clear k2 q2) | (go_at_call 11; refine (HAW.out _ HKK_2.out).mono ?_; rintro _ w9 ⟨rfl, k9⟩; have HK9 := Lib.hid (Keeps.trans HKK_2.out k9); clear k9))
        go_ret
        exact ⟨rfl, HK9.out⟩
  · have eAf : (EA == 0) = false := beq_eq_false_iff_ne.2 eA
    clear eA
    go_enter Tryd.func9, Tryd.ntmps9
    go_wp2_with (first | (refine dwp_ldSl (b := X) (off := 0) (s := ⟨s01, s02, s03, s04, s05, s06, s07⟩) (HX_0.out.mid [] (slC ⟨s01, s02, s03, s04, s05, s06, s07⟩) (slC ⟨s11, s12, s13, s14, s15, s16, s17⟩) rfl rfl) rfl _ rfl rfl ?_) | (go_at_call 19; (with_reducible refine (HM0.out _ HKK_0.out).mono ?_); rintro _ u1 ⟨rfl, k1⟩; obtain ⟨V1, hV1⟩ : ∃ V, u1.heap.size = V := ⟨_, rfl⟩; obtain ⟨x1, hx1⟩ : ∃ W, u1.alloc (.cells #[.int .i64 a1, .string a2] 37) = W := ⟨_, rfl⟩; have q1 : Keeps u1 x1 := (by rw [← hx1]; exact (Keeps.refl u1).alloc _); have HA_1 := Lib.hid (show CsAt V1 (dsC ⟨a1, a2⟩) x1 from (by rw [← hV1, ← hx1]; exact CsAt.made u1 #[.int .i64 a1, .string a2] _ (by simp))); have HX_1 := Lib.hid (HX_0.out.keeps (Keeps.trans k1 q1)); have HP_1 := Lib.hid (HP_0.out.keeps (Keeps.trans k1 q1)); have HKK_1 := Lib.hid (HKK_0.out.trans (Keeps.trans k1 q1)); clear k1 q1) | (refine dwp_ldSl (b := X) (off := 7) (s := ⟨s11, s12, s13, s14, s15, s16, s17⟩) (HX_1.out.mid (slC ⟨s01, s02, s03, s04, s05, s06, s07⟩) (slC ⟨s11, s12, s13, s14, s15, s16, s17⟩) [] rfl rfl) rfl _ rfl rfl ?_) | (go_at_call 19; (with_reducible refine (HM1.out _ HKK_1.out).mono ?_); rintro _ u2 ⟨rfl, k2⟩; obtain ⟨V2, hV2⟩ : ∃ V, u2.heap.size = V := ⟨_, rfl⟩; obtain ⟨x2, hx2⟩ : ∃ W, u2.alloc (.cells #[.int .i64 b1, .string b2] 37) = W := ⟨_, rfl⟩; have q2 : Keeps u2 x2 := (by rw [← hx2]; exact (Keeps.refl u2).alloc _); have HB_2 := Lib.hid (show CsAt V2 (dsC ⟨b1, b2⟩) x2 from (by rw [← hV2, ← hx2]; exact CsAt.made u2 #[.int .i64 b1, .string b2] _ (by simp))); have HX_2 := Lib.hid (HX_1.out.keeps (Keeps.trans k2 q2)); have HP_2 := Lib.hid (HP_1.out.keeps (Keeps.trans k2 q2)); have HA_2 := Lib.hid (HA_1.out.keeps (Keeps.trans k2 q2)); have HKK_2 := Lib.hid (HKK_1.out.trans (Keeps.trans k2 q2)); have pA0_2 := HA_2.out.cell 0 rfl; have pA1_2 := HA_2.out.cell 1 rfl; have pB0_2 := HB_2.out.cell 0 rfl; have pB1_2 := HB_2.out.cell 1 rfl; have pX0_2 := HX_2.out.cell 0 rfl; have pX1_2 := HX_2.out.cell 1 rfl; have pX2_2 := HX_2.out.cell 2 rfl; have pX3_2 := HX_2.out.cell 3 rfl; have pX4_2 := HX_2.out.cell 4 rfl; have pX5_2 := HX_2.out.cell 5 rfl; have pX6_2 := HX_2.out.cell 6 rfl; have pX7_2 := HX_2.out.cell 7 rfl; have pX8_2 := HX_2.out.cell 8 rfl; have pX9_2 := HX_2.out.cell 9 rfl; have pX10_2 := HX_2.out.cell 10 rfl; have pX11_2 := HX_2.out.cell 11 rfl; have pX12_2 := HX_2.out.cell 12 rfl; have pX13_2 := HX_2.out.cell 13 rfl; clear k2 q2))
    go_quiet (fail)
    obtain ⟨w3, hw3⟩ : ∃ W, x2.drewN nq = W := ⟨_, rfl⟩
    have hq3 : Eqv x2 w3 := by rw [← hw3]; exact Eqv.drewN _ _
    rw [hw3]
    have HKK_0 := Lib.hid (HKK_2.out.eqv hq3)
    have HP_0 := Lib.hid (HP_2.out.eqv hq3)
    clear hq3 hw3 pA0_2 pA1_2 pB0_2 pB1_2 pX0_2 pX1_2 pX2_2 pX3_2 pX4_2 pX5_2 pX6_2 pX7_2 pX8_2 pX9_2 pX10_2 pX11_2 pX12_2 pX13_2 HKK_1 HKK_2 HP_1 HP_2 HX_1 HX_2
    by_cases eC : EC = 0
    · by_cases eD : ED = 0
      · subst eC eD
        obtain ⟨hpe, hpt⟩ := HPM.out rfl rfl
        have hd2 := fun W => eqdDd ⟨c1, c2⟩ ⟨d1, d2⟩ W
        have hs2 := fun W => eqdPl ⟨p01, p02, p03, p04, p05⟩ ⟨p11, p12, p13, p14, p15⟩ W
        obtain ⟨r2, hr2⟩ : ∃ r, samePl ⟨p01, p02, p03, p04, p05⟩ ⟨p11, p12, p13, p14, p15⟩ = r := ⟨_, rfl⟩
        rw [hr2] at hpe
        simp only [hpe] at hd2
        simp only [hr2] at hs2
        have hpt : c1 = 19 := hpt
        subst hpt
        have hgd2 := egdDd
        have hgp := egdPl
        have hrr2 : (r2 == r2) = true := by cases r2 <;> rfl
        clear hpe hr2
        go_wp2_with (first | (refine dwp_ldPl (b := X + 1) (off := 0) (s := ⟨p01, p02, p03, p04, p05⟩) (HP_0.out.mid [] (plC ⟨p01, p02, p03, p04, p05⟩) (plC ⟨p11, p12, p13, p14, p15⟩) rfl rfl) rfl _ rfl rfl ?_) | (go_at_call 24; (with_reducible refine (HN0.out _ HKK_0.out).mono ?_); rintro _ u1 ⟨rfl, k1⟩; obtain ⟨V1, hV1⟩ : ∃ V, u1.heap.size = V := ⟨_, rfl⟩; obtain ⟨x1, hx1⟩ : ∃ W, u1.alloc (.cells #[.int .i64 19, .string c2] 37) = W := ⟨_, rfl⟩; have q1 : Keeps u1 x1 := (by rw [← hx1]; exact (Keeps.refl u1).alloc _); have HC_1 := Lib.hid (show CsAt V1 (dsC ⟨19, c2⟩) x1 from (by rw [← hV1, ← hx1]; exact CsAt.made u1 #[.int .i64 19, .string c2] _ (by simp))); have HP_1 := Lib.hid (HP_0.out.keeps (Keeps.trans k1 q1)); have HKK_1 := Lib.hid (HKK_0.out.trans (Keeps.trans k1 q1)); clear k1 q1) | (refine dwp_ldPl (b := X + 1) (off := 5) (s := ⟨p11, p12, p13, p14, p15⟩) (HP_1.out.mid (plC ⟨p01, p02, p03, p04, p05⟩) (plC ⟨p11, p12, p13, p14, p15⟩) [] rfl rfl) rfl _ rfl rfl ?_) | (go_at_call 24; (with_reducible refine (HN1.out _ HKK_1.out).mono ?_); rintro _ u2 ⟨rfl, k2⟩; obtain ⟨V2, hV2⟩ : ∃ V, u2.heap.size = V := ⟨_, rfl⟩; obtain ⟨x2, hx2⟩ : ∃ W, u2.alloc (.cells #[.int .i64 d1, .string d2] 37) = W := ⟨_, rfl⟩; have q2 : Keeps u2 x2 := (by rw [← hx2]; exact (Keeps.refl u2).alloc _); have HD_2 := Lib.hid (show CsAt V2 (dsC ⟨d1, d2⟩) x2 from (by rw [← hV2, ← hx2]; exact CsAt.made u2 #[.int .i64 d1, .string d2] _ (by simp))); have HP_2 := Lib.hid (HP_1.out.keeps (Keeps.trans k2 q2)); have HC_2 := Lib.hid (HC_1.out.keeps (Keeps.trans k2 q2)); have HKK_2 := Lib.hid (HKK_1.out.trans (Keeps.trans k2 q2)); have pC0_2 := HC_2.out.cell 0 rfl; have pC1_2 := HC_2.out.cell 1 rfl; have pD0_2 := HD_2.out.cell 0 rfl; have pD1_2 := HD_2.out.cell 1 rfl; clear k2 q2))
        refine wp_draw_tail 17 (by kernel_rfl) [dsV ⟨19, c2⟩, dsV ⟨d1, d2⟩, .bool r2, .pointer (some ⟨X + 1, 0, none⟩), plV ⟨p01, p02, p03, p04, p05⟩, .pointer (some ⟨X + 1, 5, none⟩), plV ⟨p11, p12, p13, p14, p15⟩, .bool r2, .bool true, .bool true, .pointer (some ⟨V1, 0, none⟩), .int .i64 19, .bool true, .bool true, .bool true, .bool true, .bool true]
          (fun _ W => Keeps x2 W) rfl (by kernel_rfl) (by kernel_rfl) (fin := ?fin3) ?hfin3 ((Keeps.refl x2).eqv (Eqv.drew x2)) ?each3 ?hend3
        case hfin3 => simp [seqA, dstOf, Act.put]; rfl
        case each3 =>
          refine ⟨?_, ?_, ?_, ?_, ?_, ?_, ?_, ?_, ?_, ?_, ?_, ?_, ?_, ?_, ?_, ?_, ?_, trivial⟩
          all_goals intro L w5 h0 hd hs hw
          · exact does_load _ _ rfl V1 0 rfl (dsC ⟨19, c2⟩) _ (HC_2.out.keeps hw).r Tryd.underlying37 rfl (by kernel_rfl) ⟨fun _ => rfl, fun _ _ => hw⟩
          · exact does_load _ _ rfl V2 0 rfl (dsC ⟨d1, d2⟩) _ (HD_2.out.keeps hw).r Tryd.underlying37 rfl (by kernel_rfl) ⟨fun _ => rfl, fun _ _ => hw⟩
          · exact does_eq (hd2 w5) hgd2 _ _ rfl rfl rfl ⟨fun _ => rfl, fun _ _ => hw⟩
          · first | (unfold Does; go_simp; done) | (unfold Does; go_simp; exact fun L' k => hw)
          · exact does_load _ _ rfl (X + 1) 0 rfl (plC ⟨p01, p02, p03, p04, p05⟩) _ ((HP_2.out.keeps hw).mid [] (plC ⟨p01, p02, p03, p04, p05⟩) (plC ⟨p11, p12, p13, p14, p15⟩) rfl rfl) Tryd.underlying55 rfl (by kernel_rfl) ⟨fun _ => rfl, fun _ _ => hw⟩
          · first | (unfold Does; go_simp; done) | (unfold Does; go_simp; exact fun L' k => hw)
          · exact does_load _ _ rfl (X + 1) 5 rfl (plC ⟨p11, p12, p13, p14, p15⟩) _ ((HP_2.out.keeps hw).mid (plC ⟨p01, p02, p03, p04, p05⟩) (plC ⟨p11, p12, p13, p14, p15⟩) [] rfl rfl) Tryd.underlying55 rfl (by kernel_rfl) ⟨fun _ => rfl, fun _ _ => hw⟩
          · exact does_eq (hs2 w5) hgp _ _ rfl rfl rfl ⟨fun _ => rfl, fun _ _ => hw⟩
          all_goals have e0 := (HC_2.out.keeps hw).cell 0 rfl
          all_goals first | (unfold Does; go_simp; done) | (unfold Does; go_simp; exact fun L' k => hw) | (split <;> first | (rename_i hg; exact absurd rfl hg) | (unfold Does; go_simp; done) | (unfold Does; go_simp; first | exact fun L' k => hw | (refine (HAW.out _ (HKK_2.out.trans hw)).mono ?_; rintro _ w6 ⟨rfl, k6⟩; exact ⟨_, rfl, rfl, fun _ _ => Keeps.trans hw k6⟩)))
        case hend3 =>
        intro L w7 hL hw
        have HK9 := Lib.hid (HKK_2.out.trans hw)
        simp only [List.drop_succ_cons, List.drop_zero]
        clear hw hL
        go_wp2
        go_ret
        exact ⟨rfl, HK9.out⟩
      · subst eC
        have eDf : (ED != 0) = true := bne_iff_ne.2 eD
        clear eD
        go_wp2_with (first | (refine dwp_ldPl (b := X + 1) (off := 0) (s := ⟨p01, p02, p03, p04, p05⟩) (HP_0.out.mid [] (plC ⟨p01, p02, p03, p04, p05⟩) (plC ⟨p11, p12, p13, p14, p15⟩) rfl rfl) rfl _ rfl rfl ?_) | (go_at_call 24; (with_reducible refine (HN0.out _ HKK_0.out).mono ?_); rintro _ u1 ⟨rfl, k1⟩; obtain ⟨V1, hV1⟩ : ∃ V, u1.heap.size = V := ⟨_, rfl⟩; obtain ⟨x1, hx1⟩ : ∃ W, u1.alloc (.cells #[.int .i64 c1, .string c2] 37) = W := ⟨_, rfl⟩; have q1 : Keeps u1 x1 := (by rw [← hx1]; exact (Keeps.refl u1).alloc _); have HC_1 := Lib.hid (show CsAt V1 (dsC ⟨c1, c2⟩) x1 from (by rw [← hV1, ← hx1]; exact CsAt.made u1 #[.int .i64 c1, .string c2] _ (by simp))); have HP_1 := Lib.hid (HP_0.out.keeps (Keeps.trans k1 q1)); have HKK_1 := Lib.hid (HKK_0.out.trans (Keeps.trans k1 q1)); clear k1 q1) | (refine dwp_ldPl (b := X + 1) (off := 5) (s := ⟨p11, p12, p13, p14, p15⟩) (HP_1.out.mid (plC ⟨p01, p02, p03, p04, p05⟩) (plC ⟨p11, p12, p13, p14, p15⟩) [] rfl rfl) rfl _ rfl rfl ?_) | (go_at_call 24; (with_reducible refine (HN1.out _ HKK_1.out).mono ?_); rintro _ u2 ⟨rfl, k2⟩; obtain ⟨V2, hV2⟩ : ∃ V, u2.heap.size = V := ⟨_, rfl⟩; obtain ⟨x2, hx2⟩ : ∃ W, u2.alloc (.cells #[.int .i64 d1, .string d2] 37) = W := ⟨_, rfl⟩; have q2 : Keeps u2 x2 := (by rw [← hx2]; exact (Keeps.refl u2).alloc _); have HD_2 := Lib.hid (show CsAt V2 (dsC ⟨d1, d2⟩) x2 from (by rw [← hV2, ← hx2]; exact CsAt.made u2 #[.int .i64 d1, .string d2] _ (by simp))); have HP_2 := Lib.hid (HP_1.out.keeps (Keeps.trans k2 q2)); have HC_2 := Lib.hid (HC_1.out.keeps (Keeps.trans k2 q2)); have HKK_2 := Lib.hid (HKK_1.out.trans (Keeps.trans k2 q2)); have pC0_2 := HC_2.out.cell 0 rfl; have pC1_2 := HC_2.out.cell 1 rfl; have pD0_2 := HD_2.out.cell 0 rfl; have pD1_2 := HD_2.out.cell 1 rfl; clear k2 q2) | (go_at_call 11; refine (HAW.out _ HKK_2.out).mono ?_; rintro _ w9 ⟨rfl, k9⟩; have HK9 := Lib.hid (Keeps.trans HKK_2.out k9); clear k9))
        go_ret
        exact ⟨rfl, HK9.out⟩
    · have eCf : (EC != 0) = true := bne_iff_ne.2 eC
      clear eC
      go_wp2_with (first | (refine dwp_ldPl (b := X + 1) (off := 0) (s := ⟨p01, p02, p03, p04, p05⟩) (HP_0.out.mid [] (plC ⟨p01, p02, p03, p04, p05⟩) (plC ⟨p11, p12, p13, p14, p15⟩) rfl rfl) rfl _ rfl rfl ?_) | (go_at_call 24; (with_reducible refine (HN0.out _ HKK_0.out).mono ?_); rintro _ u1 ⟨rfl, k1⟩; obtain ⟨V1, hV1⟩ : ∃ V, u1.heap.size = V := ⟨_, rfl⟩; obtain ⟨x1, hx1⟩ : ∃ W, u1.alloc (.cells #[.int .i64 c1, .string c2] 37) = W := ⟨_, rfl⟩; have q1 : Keeps u1 x1 := (by rw [← hx1]; exact (Keeps.refl u1).alloc _); have HC_1 := Lib.hid (show CsAt V1 (dsC ⟨c1, c2⟩) x1 from (by rw [← hV1, ← hx1]; exact CsAt.made u1 #[.int .i64 c1, .string c2] _ (by simp))); have HP_1 := Lib.hid (HP_0.out.keeps (Keeps.trans k1 q1)); have HKK_1 := Lib.hid (HKK_0.out.trans (Keeps.trans k1 q1)); clear k1 q1) | (refine dwp_ldPl (b := X + 1) (off := 5) (s := ⟨p11, p12, p13, p14, p15⟩) (HP_1.out.mid (plC ⟨p01, p02, p03, p04, p05⟩) (plC ⟨p11, p12, p13, p14, p15⟩) [] rfl rfl) rfl _ rfl rfl ?_) | (go_at_call 24; (with_reducible refine (HN1.out _ HKK_1.out).mono ?_); rintro _ u2 ⟨rfl, k2⟩; obtain ⟨V2, hV2⟩ : ∃ V, u2.heap.size = V := ⟨_, rfl⟩; obtain ⟨x2, hx2⟩ : ∃ W, u2.alloc (.cells #[.int .i64 d1, .string d2] 37) = W := ⟨_, rfl⟩; have q2 : Keeps u2 x2 := (by rw [← hx2]; exact (Keeps.refl u2).alloc _); have HD_2 := Lib.hid (show CsAt V2 (dsC ⟨d1, d2⟩) x2 from (by rw [← hV2, ← hx2]; exact CsAt.made u2 #[.int .i64 d1, .string d2] _ (by simp))); have HP_2 := Lib.hid (HP_1.out.keeps (Keeps.trans k2 q2)); have HC_2 := Lib.hid (HC_1.out.keeps (Keeps.trans k2 q2)); have HKK_2 := Lib.hid (HKK_1.out.trans (Keeps.trans k2 q2)); have pC0_2 := HC_2.out.cell 0 rfl; have pC1_2 := HC_2.out.cell 1 rfl; have pD0_2 := HD_2.out.cell 0 rfl; have pD1_2 := HD_2.out.cell 1 rfl; clear k2 q2) | (go_at_call 11; refine (HAW.out _ HKK_2.out).mono ?_; rintro _ w9 ⟨rfl, k9⟩; have HK9 := Lib.hid (Keeps.trans HKK_2.out k9); clear k9))
      go_ret
      exact ⟨rfl, HK9.out⟩

theorem doorMet (os : Os) (args : Array Value) : laidMetH Tryd.prog [("clarion/descr.ofSlice", Rows.laid_clarion_descr_ofSlice), ("clarion/descr.ofPlace", Rows.laid_clarion_descr_ofPlace)] ((World.doorLaid Tryd.prog 400 os).forCall (fun _ _ => 0) ⟨#[], args, []⟩).memory :=
  laidMetH_of_parts3 (fuel := 8) (laidMet_of_run' 8 (by kernel_rfl) (by kernel_rfl)) (by kernel_rfl) (by kernel_rfl)
theorem own : ownKnob Tryd.prog.godebug = none := by kernel_rfl
theorem laidOut : laidOutB Tryd.prog = true := by kernel_rfl
set_option maxRecDepth 100000 in
theorem lifted (os : Os) (started : os.Started) (H : Type) (enc : TypeId × Value → H) :
    ReturnsInHanded {} Tryd.checked os 9 .any (fun w args => (Rows.descrApartSpec.pre enc Tryd.prog Tryd.f9 [] false w args ∧ laidMetH Tryd.prog [("clarion/descr.ofSlice", Rows.laid_clarion_descr_ofSlice), ("clarion/descr.ofPlace", Rows.laid_clarion_descr_ofPlace)] w) ∧ sizedMet enc Tryd.prog Tryd.f9 (OpenSpec.ofChange Rows.descrApartSpec) false w args) (Rows.descrApartSpec.post enc Tryd.prog Tryd.f9 false true false false) := by
  refine returnsInHanded_of_change_and (C := Tryd.checked) (X := fun w _ => laidMetH Tryd.prog [("clarion/descr.ofSlice", Rows.laid_clarion_descr_ofSlice), ("clarion/descr.ofPlace", Rows.laid_clarion_descr_ofPlace)] w) (fun _ _ _ hh h => h.of_heap hh) own started (by kernel_rfl) Tryd.func9
    (ChangeSpec.witness_shaped (enc := enc) (C := Tryd.checked) (os := os) (X := fun w _ => laidMetH Tryd.prog [("clarion/descr.ofSlice", Rows.laid_clarion_descr_ofSlice), ("clarion/descr.ofPlace", Rows.laid_clarion_descr_ofPlace)] w) false (World.doorLaid Tryd.prog 400 os) #[.agg #[.bool false, .bool false, .int .i64 0, .int .i64 0, .int .i64 0, .int .i64 0, .string ByteArray.empty, .bool false, .bool false, .int .i64 0, .int .i64 0, .int .i64 0, .int .i64 0, .string ByteArray.empty], .agg #[.int .i64 0, .int .i64 0, .int .i64 0, .int .i64 0, .int .i64 0, .int .i64 0, .int .i64 0, .int .i64 0, .int .i64 0, .int .i64 0]] 8 rfl (World.shaped_of_RefB (by kernel_rfl) (by kernel_rfl)) (by kernel_rfl) (by kernel_rfl) (by kernel_rfl) (doorMet os _)) ?_
  intro W base args ds gs before hval0 hW hcnd _ hL _
  have hval : ∀ (j : Nat) t v, Tryd.f9.params[j]? = some t → args[j]? = some v → Value.okWide Tryd.prog W .any base t v := hval0
  have hW' := hW
  obtain ⟨p, q, hA0, hV, rfl, hfz, hnd⟩ := hW
  have hA : DataW.TrodAll enc Tryd.prog W 0 (fun _ => true) true Tryd.f9.params.toList args.toList ds p := hA0
  rw [Tryd.params9] at hA hval
  obtain ⟨v0, vs0, d0, ds0, p0, q0, hargs, rfl, rfl, h0, r0⟩ := trodAll_cons hA
  obtain ⟨v1, vs1, d1, ds1, p1, q1, rfl, rfl, rfl, h1, r1⟩ := trodAll_cons r0
  obtain ⟨rfl, rfl, rfl⟩ := trodAll_nil r1
  obtain rfl : args = #[v0, v1] := by cases args; simp_all
  obtain ⟨rfl, rfl⟩ := trodVars_none hV
  have k0 := h0
  have lt0 : ∀ x ∈ p0, x.block < W.heap.size := by obtain ⟨m, hm⟩ := k0; exact DataW.trod_lt m _ _ _ hm
  obtain ⟨P0, Q0, rp0, rq0, rfl⟩ := open_slc2 (hval 0 92 v0 rfl rfl) h0
  have k1 := h1
  have lt1 : ∀ x ∈ p1, x.block < W.heap.size := by obtain ⟨m, hm⟩ := k1; exact DataW.trod_lt m _ _ _ hm
  obtain ⟨P1, Q1, rfl⟩ := open_plc2 (hval 1 93 v1 rfl rfl) h1
  clear hA0 hval0
  refine (walk P0 Q0 rp0 rq0 P1 Q1 W (tS_of hL (by kernel_rfl) (by simp)) (tP_of hL (by kernel_rfl) (by simp))).mono fun e W' ⟨he, bel⟩ => ?_
  subst he
  exact ⟨_, rfl, _, _, _, [], _, [], hW', trodAll_mk1 (shut_bool Tryd.underlying4 _), (trodAll_cons_mk (Below.trod laidOut (by kernel_rfl) (of_decide_eq_true (by kernel_rfl)) k0 bel lt0) (trodAll_cons_mk (Below.trod laidOut (by kernel_rfl) (of_decide_eq_true (by kernel_rfl)) k1 bel lt1) trodAll_mk0)), rfl, bel.frame _, fun h => by cases h⟩

theorem over : Rows.descrApartRow.holds Tryd.pinned (OpenSpec.ofChange Rows.descrApartSpec) :=
  OpenClaim.holds_of_wide 9 Tryd.f9 rfl rfl rfl rfl rfl rfl rfl ⟨rfl, rfl, rfl, rfl, rfl⟩ rfl rfl rfl rfl rfl (by kernel_rfl) Tryd.func9 (by kernel_rfl)
    (of_decide_eq_true (by kernel_rfl)) (by unfold Func.isWrapper; first | (rw [if_pos (by decide +kernel)]; kernel_rfl) | (rw [if_neg (by decide +kernel)]; exact ⟨rfl, rfl⟩))
    (fun os started H enc _ => lifted os started H enc)

set_option maxRecDepth 100000 in
theorem proved : Rows.DescrApartCardSaid :=
  Claim7.holds_tied_plain_at .later [] [.wider, .wider] true (true, _) false over (fun _ h => by cases h) (by kernel_rfl) (fun _ h => by cases h) descrApart_row_tie rfl ⟨rfl, rfl⟩ (by kernel_rfl) rfl
    (fun f fn hf hfn => by
      obtain rfl : f = 9 := Option.some.inj ((show Tryd.prog.funcNamed "clarion/clarionlaw18.DescrApart" = some 9 by kernel_rfl).symm.trans hf) |>.symm
      obtain rfl : fn = Tryd.f9 := (Option.some.inj (Tryd.func9.symm.trans hfn)).symm
      exact ⟨by kernel_rfl, fun j t ht => by
        rw [Tryd.params9] at ht
        have hm : t ∈ [92, 93] := by simpa using Array.mem_of_getElem? ht
        have hall : ([92, 93].all fun u => !Tryd.prog.wantsStandIn u) = true := by kernel_rfl
        exact (show Tryd.prog.wantsStandIn t = false by simpa using List.all_eq_true.1 hall t hm)⟩)
    (by kernel_rfl)
#print axioms proved
end Go.Proofs.YtlghkdkaifcliaaDoor.descrApart
