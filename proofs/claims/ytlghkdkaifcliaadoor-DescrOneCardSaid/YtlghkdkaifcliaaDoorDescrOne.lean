/-
  For any descriptor, any bytes and any number DescrOne returns true: what is read is made of the same bytes; nothing that was there is changed. The tables of widths of package descr start as the program lays them.
-/
import Derived.SevenTiedAt
import Derived.Test.YtlghkdkaifcliaaDoorRows
import Derived.Test.YtlghkdkaifcliaaDoorCards
import Derived.Test.YtlghkdkaifcliaaDoorTie
import Derived.Test.YtlghkdkaifcliaaDoorDsH
import Derived.Test.YtlghkdkaifcliaaDoorDsI
import Derived.Test.YtlghkdkaifcliaaDoorDsD
import Derived.Test.YtlghkdkaifcliaaDoorDsE
import Derived.Test.YtlghkdkaifcliaaDoorDsN
import Derived.Test.YtlghkdkaifcliaaDoorDsK
import Derived.Test.YtlghkdkaifcliaaDoorDsC2
namespace Go.Proofs.YtlghkdkaifcliaaDoor.descrOne
open Go.ChangeShapes Go.WideShapes Go.ChangeAt Go.RowKit Gf Ds
set_option maxRecDepth 100000
open Go.ChangeMaps (open_string shut_string)
set_option linter.unusedVariables false
set_option linter.unusedSimpArgs false
theorem tag_S {d : Dsc} (h : (rsl d).2 = 0) : d.tag = 119 := by
  by_cases k : d.tag = 119
  · exact k
  · unfold rsl at h; rw [if_pos k] at h; cases h
theorem tag_P {d : Dsc} (h : (rpl d).2 = 0) : d.tag = 19 := by
  by_cases k : d.tag = 19
  · exact k
  · unfold rpl at h; rw [if_pos k] at h; cases h
theorem tag_T {d : Dsc} (h : (rts d).2 = 0) : d.tag = 15 := by
  by_cases k : d.tag = 15
  · exact k
  · unfold rts at h; rw [if_pos k] at h; cases h
set_option maxHeartbeats 25600000 in
theorem walk (d : Dsc) (s : ByteArray) (hs : s.size ≤ maxLen) (ext : Int) (we : (Lit.int .i64 ext).wf = true) (w : World) (tS : TSX w) (tP : TPX w) (tT : TTX w) (tI : TIX w) (tH : THX w) (tL : TLX w) :
    Calls Tryd.prog 7 #[dsV d, .string s, .int .i64 ext] w fun e w' => e = .returned (.bool true) ∧ Below w.heap.size w w' := by
  clear hs we
  have HAW := Lib.hid (fun W (q : Keeps w W) => awake18_any W (tS.keeps q))
  have HTI := Lib.hid (fun W (q : Keeps w W) => show TI W from tI.keeps q)
  have HTH := Lib.hid (fun W (q : Keeps w W) => show TH W from tH.keeps q)
  have HTL := Lib.hid (fun W (q : Keeps w W) => show TL W from tL.keeps q)
  have HRS0 := Lib.hid (fun (h : d.body.size ≤ 1000000) W (q : Keeps w W) => ers_any d W (tS.keeps q) h)
  have HRP := Lib.hid (fun W (q : Keeps w W) => erp_any d W (tP.keeps q))
  have HRT0 := Lib.hid (fun (h : d.body.size ≤ 1000000) W (q : Keeps w W) => ert_any d W (tT.keeps q) h)
  have HMS0 := Lib.hid (fun (h : (rsl d).2 = 0) W (q : Keeps w W) => show Calls Tryd.prog 19 #[slV (rsl d).1] W (DmPost W (d, 0)) from by
    obtain ⟨o, e⟩ := rsl_good h
    have hr : inI (rsl d).1.rows := by
      obtain ⟨⟨r, _⟩, _⟩ := o
      unfold okR at r; unfold inI; omega
    have := dmk_any (rsl d).1 hr W (tS.keeps q)
    rw [mkS_ok o, e] at this
    exact this)
  have HMP0 := Lib.hid (fun (h : (rpl d).2 = 0) W (q : Keeps w W) => show Calls Tryd.prog 24 #[plV (rpl d).1] W (DmPost W (d, 0)) from by
    obtain ⟨o, e⟩ := rpl_good h
    have := pmk_any (rpl d).1 W (tP.keeps q)
    rw [mkP_ok o, e] at this
    exact this)
  have HMT0 := Lib.hid (fun (h : (rts d).2 = 0) W a c (hI : IsE rowTg W a (rts d).1.length (rts d).1) (q : Keeps w W) => show Calls Tryd.prog 28 #[.slice a (rts d).1.length c] W (DmPost W (d, 0)) from by
    obtain ⟨o, e⟩ := rts_good h
    have := etgs_any (cap := c) W hI (by have := o.2; omega) (tT.keeps q)
    rw [show mkT (rts d).1 = (d, 0) by rw [tgE_good o.1 (by have := o.2; omega), e]] at this
    exact this)
  have hSP : (rsl d).2 = 0 → (rpl d).2 ≠ 0 ∧ (rts d).2 ≠ 0 := fun h => ⟨fun k => by have := tag_S h; have := tag_P k; omega, fun k => by have := tag_S h; have := tag_T k; omega⟩
  have hPT : (rpl d).2 = 0 → (rts d).2 ≠ 0 := fun h k => by have := tag_P h; have := tag_T k; omega
  obtain ⟨Y, hY⟩ : ∃ Y, rsl d = Y := ⟨_, rfl⟩
  obtain ⟨Z, hZ⟩ : ∃ Z, rpl d = Z := ⟨_, rfl⟩
  obtain ⟨Q, hQ⟩ : ∃ Q, rts d = Q := ⟨_, rfl⟩
  rw [hY] at HRS0 HMS0 hSP
  rw [hZ] at HRP HMP0 hSP hPT
  rw [hQ] at HRT0 HMT0 hSP hPT
  clear hY hZ hQ
  obtain ⟨⟨y1, y2, y3, y4, y5, y6, y7⟩, GS⟩ := Y
  obtain ⟨⟨z1, z2, z3, z4, z5⟩, GP⟩ := Z
  obtain ⟨TL0, GT⟩ := Q
  obtain ⟨TN, hTN⟩ : ∃ TN, TL0.length = TN := ⟨_, rfl⟩
  unfold DrsPost at HRS0
  unfold EpPost at HRP
  unfold EtPost at HRT0
  unfold DmPost at HMS0 HMP0 HMT0
  obtain ⟨t1, t2⟩ := d
  simp only [hTN] at HRS0 HRP HRT0 HMS0 HMP0 HMT0 hSP hPT
  have HPA0 := Lib.hid (fun (h : s.size ≤ 1000000) W => eparse_any s W h)
  have HLP0 := Lib.hid (fun (h : (parse (ls s)).2 = 0) W a c (hI : IsE rowD W a (parse (ls s)).1.length (parse (ls s)).1) => show Calls Tryd.prog 12 #[.slice a (parse (ls s)).1.length c] W fun e w' => e = .returned (.tuple #[.string s, .int .i64 0]) ∧ Keeps W w' from by
    obtain ⟨o, e⟩ := parse_good h
    have := eloop_any (cap := c) W hI (by have := parse_len (ls s); omega)
    rw [loop_ok o, e] at this
    unfold DlPost at this
    rw [show st (ls s) = s from st_ls s] at this
    exact this)
  obtain ⟨R, hR⟩ : ∃ R, parse (ls s) = R := ⟨_, rfl⟩
  rw [hR] at HPA0 HLP0
  clear hR
  obtain ⟨m, GR⟩ := R
  unfold EaPost at HPA0
  obtain ⟨MN, hMN⟩ : ∃ MN, m.length = MN := ⟨_, rfl⟩
  simp only [hMN] at HPA0 HLP0
  have HRI0 := Lib.hid (fun (h : s.size ≤ 5000) W (q : Keeps w W) => eri_any ext s W (by omega) (.inl (by omega)) (HTI.out W q) (HTH.out W q) (HTL.out W q))
  unfold RiP at HRI0
  obtain ⟨X, hX⟩ : ∃ X, w.heap.size = X := ⟨_, rfl⟩
  obtain ⟨wB, hB⟩ : ∃ W, w.alloc (.cells #[.int .i64 t1, .string t2] 37) = W := ⟨_, rfl⟩
  have HX_0 := Lib.hid (show CsAt X (dsC ⟨t1, t2⟩) wB by rw [← hX, ← hB]; exact CsAt.made w #[.int .i64 t1, .string t2] _ (by simp))
  have HKK_0 := Lib.hid (show Keeps w wB by rw [← hB]; exact (Keeps.refl w).alloc _)
  have r1 := HX_0.out.cell 1 rfl
  have hne : ∀ W, (binOp .neq 37 (dsV ⟨t1, t2⟩) (dsV ⟨t1, t2⟩)).run Tryd.prog W = .ok (.bool false) W := fun W => by rw [nedDd, sameDd_self]; rfl
  have heg := egdDd
  clear tS tP tT tI tH tL hTN hMN
  by_cases h1 : 300 < t2.size
  · have i1 : (300 : Int) < (t2.size : Int) := by omega
    clear h1
    go_enter Tryd.func7, Tryd.ntmps7
    go_wp2_with (go_at_call 11; refine (HAW.out _ HKK_0.out).mono ?_; rintro _ w9 ⟨rfl, k9⟩; have HK9 := Lib.hid (HKK_0.out.trans k9); clear k9)
    go_ret
    exact ⟨rfl, HK9.out⟩
  have i1 : ¬ (300 : Int) < (t2.size : Int) := by omega
  by_cases h2 : 5000 < s.size
  · have i2 : (5000 : Int) < (s.size : Int) := by omega
    clear h1 h2
    go_enter Tryd.func7, Tryd.ntmps7
    go_wp2_with (go_at_call 11; refine (HAW.out _ HKK_0.out).mono ?_; rintro _ w9 ⟨rfl, k9⟩; have HK9 := Lib.hid (HKK_0.out.trans k9); clear k9)
    go_ret
    exact ⟨rfl, HK9.out⟩
  have i2 : ¬ (5000 : Int) < (s.size : Int) := by omega
  have HRS := Lib.hid (HRS0.out (by show t2.size ≤ _; omega))
  have HRT := Lib.hid (HRT0.out (by show t2.size ≤ _; omega))
  have HPA := Lib.hid (HPA0.out (by omega))
  have HRI := Lib.hid (HRI0.out (by omega))
  clear h1 h2 HRS0 HRT0 HPA0 HRI0
  by_cases hGS : GS = 0
  · subst hGS
    have HMS := Lib.hid (HMS0.out rfl)
    obtain ⟨hGP, hGT⟩ := hSP rfl
    have hGPf : (GP == 0) = false := beq_eq_false_iff_ne.2 hGP
    have hGTf : (GT == 0) = false := beq_eq_false_iff_ne.2 hGT
    clear HMS0 HMP0 HMT0 hSP hPT hGP hGT
    by_cases hGR : GR = 0
    · subst hGR
      have HLP := Lib.hid (HLP0.out rfl)
      clear HLP0
      go_enter Tryd.func7, Tryd.ntmps7
      go_wp2_with (first | (refine dwp_ldP (b := X) (off := 0) HX_0.out.r rfl _ rfl rfl ?_) | (go_at_call 21; refine (HRS.out _ HKK_0.out).mono ?_; rintro _ u1 ⟨rfl, k1⟩; obtain ⟨V1, hV1⟩ : ∃ V, u1.heap.size = V := ⟨_, rfl⟩; obtain ⟨x1, hx1⟩ : ∃ W, u1.alloc (.cells #[.bool y1, .bool y2, .int .i64 y3, .int .i64 y4, .int .i64 y5, .int .i64 y6, .string y7] 42) = W := ⟨_, rfl⟩; have q1 : Keeps u1 x1 := (by rw [← hx1]; exact (Keeps.refl u1).alloc _); have HY_1 := Lib.hid (show CsAt V1 (slC ⟨y1, y2, y3, y4, y5, y6, y7⟩) x1 from (by rw [← hV1, ← hx1]; exact CsAt.made u1 #[.bool y1, .bool y2, .int .i64 y3, .int .i64 y4, .int .i64 y5, .int .i64 y6, .string y7] _ (by simp))); have HX_1 := Lib.hid (HX_0.out.keeps (Keeps.trans k1 q1)); have HKK_1 := Lib.hid (HKK_0.out.trans (Keeps.trans k1 q1)); clear k1 q1) | (refine dwp_ldSl (b := V1) (off := 0) (s := ⟨y1, y2, y3, y4, y5, y6, y7⟩) HY_1.out.r rfl _ rfl rfl ?_) | (go_at_call 19; refine (HMS.out _ HKK_1.out).mono ?_; rintro _ u2 ⟨rfl, k2⟩; obtain ⟨V2, hV2⟩ : ∃ V, u2.heap.size = V := ⟨_, rfl⟩; obtain ⟨x2, hx2⟩ : ∃ W, u2.alloc (.cells #[.int .i64 t1, .string t2] 37) = W := ⟨_, rfl⟩; have q2 : Keeps u2 x2 := (by rw [← hx2]; exact (Keeps.refl u2).alloc _); have HA_2 := Lib.hid (show CsAt V2 (dsC ⟨t1, t2⟩) x2 from (by rw [← hV2, ← hx2]; exact CsAt.made u2 #[.int .i64 t1, .string t2] _ (by simp))); have HX_2 := Lib.hid (HX_1.out.keeps (Keeps.trans k2 q2)); have HY_2 := Lib.hid (HY_1.out.keeps (Keeps.trans k2 q2)); have HKK_2 := Lib.hid (HKK_1.out.trans (Keeps.trans k2 q2)); have pA0_2 := HA_2.out.cell 0 rfl; have pA1_2 := HA_2.out.cell 1 rfl; have pX0_2 := HX_2.out.cell 0 rfl; have pX1_2 := HX_2.out.cell 1 rfl; clear k2 q2) | (refine dwp_ldP (b := X) (off := 0) HX_2.out.r rfl _ rfl rfl ?_) | (go_at_call 26; refine (HRP.out _ HKK_2.out).mono ?_; rintro _ u3 ⟨rfl, k3⟩; obtain ⟨V3, hV3⟩ : ∃ V, u3.heap.size = V := ⟨_, rfl⟩; obtain ⟨x3, hx3⟩ : ∃ W, u3.alloc (.cells #[.int .i64 z1, .int .i64 z2, .int .i64 z3, .int .i64 z4, .int .i64 z5] 55) = W := ⟨_, rfl⟩; have q3 : Keeps u3 x3 := (by rw [← hx3]; exact (Keeps.refl u3).alloc _); have HZ_3 := Lib.hid (show CsAt V3 (plC ⟨z1, z2, z3, z4, z5⟩) x3 from (by rw [← hV3, ← hx3]; exact CsAt.made u3 #[.int .i64 z1, .int .i64 z2, .int .i64 z3, .int .i64 z4, .int .i64 z5] _ (by simp))); have HX_3 := Lib.hid (HX_2.out.keeps (Keeps.trans k3 q3)); have HY_3 := Lib.hid (HY_2.out.keeps (Keeps.trans k3 q3)); have HA_3 := Lib.hid (HA_2.out.keeps (Keeps.trans k3 q3)); have HKK_3 := Lib.hid (HKK_2.out.trans (Keeps.trans k3 q3)); clear k3 q3 pA0_2 pA1_2 pX0_2 pX1_2) | (refine dwp_ldP (b := X) (off := 0) HX_3.out.r rfl _ rfl rfl ?_) | (go_at_call 30; refine (HRT.out _ HKK_3.out).mono ?_; rintro _ u4 ⟨ta, tc, rfl, hti, k4⟩; have HX_4 := Lib.hid (HX_3.out.keeps k4); have HY_4 := Lib.hid (HY_3.out.keeps k4); have HA_4 := Lib.hid (HA_3.out.keeps k4); have HZ_4 := Lib.hid (HZ_3.out.keeps k4); have HKK_4 := Lib.hid (HKK_3.out.trans k4); have HTI_4 := Lib.hid hti; clear hti; clear k4) | (go_at_call 15; refine (HPA.out _).mono ?_; rintro _ u5 ⟨pa, pc, rfl, hpi, hpc, hpb, k5⟩; have HX_5 := Lib.hid (HX_4.out.keeps k5); have HY_5 := Lib.hid (HY_4.out.keeps k5); have HA_5 := Lib.hid (HA_4.out.keeps k5); have HZ_5 := Lib.hid (HZ_4.out.keeps k5); have HKK_5 := Lib.hid (HKK_4.out.trans k5); have HPI_5 := Lib.hid hpi; clear hpi hpc hpb; clear k5) | (go_at_call 12; refine (HLP.out _ pa pc HPI_5.out).mono ?_; rintro _ u6 ⟨rfl, k6⟩; have HX_6 := Lib.hid (HX_5.out.keeps k6); have HY_6 := Lib.hid (HY_5.out.keeps k6); have HA_6 := Lib.hid (HA_5.out.keeps k6); have HZ_6 := Lib.hid (HZ_5.out.keeps k6); have HKK_6 := Lib.hid (HKK_5.out.trans k6); clear k6))
      refine (HRI.out _ HKK_6.out).mono ?_
      rintro _ w5 ⟨⟨A, P, O, inf, acc⟩, a, n, c, ae, ne, ce, es, G, rfl, k5, hno, hgo⟩
      obtain ⟨V, hV⟩ : ∃ V, w5.heap.size = V := ⟨_, rfl⟩
      obtain ⟨w6, hw6⟩ : ∃ W, w5.alloc (.cells #[.int .i64 A, .int .i64 P, .int .i64 O, .slice a n c, .slice ae ne ce] 78) = W := ⟨_, rfl⟩
      have HV := Lib.hid (show CsAns w5 V (iC A P O a n c ae ne ce) w6 from ⟨by rw [← hV, ← hw6]; exact CsAt.made w5 #[.int .i64 A, .int .i64 P, .int .i64 O, .slice a n c, .slice ae ne ce] _ (by simp), by rw [← hw6]; exact (Keeps.refl w5).alloc _, by omega⟩)
      have HK6 := Lib.hid ((HKK_6.out.trans k5).trans HV.out.k)
      by_cases hG : G = 0
      · subst hG
        obtain ⟨hat, hn, hne5, hsm, hok, hby, hex, _⟩ := hgo rfl
        have HBD := Lib.hid (show Calls Tryd.prog 33 #[iV A P O a n c ae ne ce] w6 fun e w' => e = .returned (.tuple #[.string s, .int .i64 0]) ∧ Keeps w6 w' from by
          have := ebody_any ⟨A, P, O, inf, acc⟩ a n c ae ne ce es w6 (hat.keeps HV.out.k) (by omega) hne5 (fun e he => ⟨by have := (hsm e he).1; omega, by have := (hsm e he).2; omega⟩) (HTI.out w6 HK6.out) (HTH.out w6 HK6.out) (HTL.out w6 HK6.out)
          rw [bodyI_ok hok, hby] at this
          unfold DlPost at this
          rw [show st (ls s) = s from st_ls s] at this
          exact this)
        have HEX := Lib.hid (fun W (q : Keeps w W) => show Calls Tryd.prog 35 #[iV A P O a n c ae ne ce] W fun e w' => e = .returned (.int .i64 ext) ∧ Keeps W w' from by
          have := eext_any ⟨A, P, O, inf, acc⟩ a n c ae ne ce W (HTI.out W q)
          rw [hex] at this
          exact this)
        clear hno hgo hat hn hne5 hsm hok hby hex k5
        dsimp only
        go_wp2_with (first | (refine wp_ldI (b := V) (off := 0) HV.out.z.r rfl _ rfl rfl ?_) | (go_at_call 33; refine HBD.out.mono ?_; rintro _ w7 ⟨rfl, k7⟩; have HK7 := Lib.hid (HK6.out.trans k7); have HV7 := Lib.hid (HV.out.keeps k7); have q0 : w7.cell? ⟨V, 0, none⟩ = some (.int .i64 A) := HV7.out.z.cell 0 rfl; have q1 : w7.cell? ⟨V, 1, none⟩ = some (.int .i64 P) := HV7.out.z.cell 1 rfl; have q2 : w7.cell? ⟨V, 2, none⟩ = some (.int .i64 O) := HV7.out.z.cell 2 rfl; have q3 : w7.cell? ⟨V, 3, none⟩ = some (.slice a n c) := HV7.out.z.cell 3 rfl; have q4 : w7.cell? ⟨V, 4, none⟩ = some (.slice ae ne ce) := HV7.out.z.cell 4 rfl; clear k7) | (go_at_call 35; refine (HEX.out w7 HK7.out).mono ?_; rintro _ w8 ⟨rfl, k8⟩; have HK8 := Lib.hid (HK7.out.trans k8); clear k8) | (go_at_call 11; refine (HAW.out _ HK8.out).mono ?_; rintro _ w9 ⟨rfl, k9⟩; have HK9 := Lib.hid (HK8.out.trans k9); clear k9))
        go_ret
        exact ⟨rfl, HK9.out⟩
      · have hGf : (G != 0) = true := bne_iff_ne.2 hG
        clear hno hgo k5 hG
        dsimp only
        go_wp2_with (go_at_call 11; refine (HAW.out _ HK6.out).mono ?_; rintro _ w9 ⟨rfl, k9⟩; have HK9 := Lib.hid (HK6.out.trans k9); clear k9)
        go_ret
        exact ⟨rfl, HK9.out⟩
    · have hGRf : (GR == 0) = false := beq_eq_false_iff_ne.2 hGR
      clear hGR HLP0
      go_enter Tryd.func7, Tryd.ntmps7
      go_wp2_with (first | (refine dwp_ldP (b := X) (off := 0) HX_0.out.r rfl _ rfl rfl ?_) | (go_at_call 21; refine (HRS.out _ HKK_0.out).mono ?_; rintro _ u1 ⟨rfl, k1⟩; obtain ⟨V1, hV1⟩ : ∃ V, u1.heap.size = V := ⟨_, rfl⟩; obtain ⟨x1, hx1⟩ : ∃ W, u1.alloc (.cells #[.bool y1, .bool y2, .int .i64 y3, .int .i64 y4, .int .i64 y5, .int .i64 y6, .string y7] 42) = W := ⟨_, rfl⟩; have q1 : Keeps u1 x1 := (by rw [← hx1]; exact (Keeps.refl u1).alloc _); have HY_1 := Lib.hid (show CsAt V1 (slC ⟨y1, y2, y3, y4, y5, y6, y7⟩) x1 from (by rw [← hV1, ← hx1]; exact CsAt.made u1 #[.bool y1, .bool y2, .int .i64 y3, .int .i64 y4, .int .i64 y5, .int .i64 y6, .string y7] _ (by simp))); have HX_1 := Lib.hid (HX_0.out.keeps (Keeps.trans k1 q1)); have HKK_1 := Lib.hid (HKK_0.out.trans (Keeps.trans k1 q1)); clear k1 q1) | (refine dwp_ldSl (b := V1) (off := 0) (s := ⟨y1, y2, y3, y4, y5, y6, y7⟩) HY_1.out.r rfl _ rfl rfl ?_) | (go_at_call 19; refine (HMS.out _ HKK_1.out).mono ?_; rintro _ u2 ⟨rfl, k2⟩; obtain ⟨V2, hV2⟩ : ∃ V, u2.heap.size = V := ⟨_, rfl⟩; obtain ⟨x2, hx2⟩ : ∃ W, u2.alloc (.cells #[.int .i64 t1, .string t2] 37) = W := ⟨_, rfl⟩; have q2 : Keeps u2 x2 := (by rw [← hx2]; exact (Keeps.refl u2).alloc _); have HA_2 := Lib.hid (show CsAt V2 (dsC ⟨t1, t2⟩) x2 from (by rw [← hV2, ← hx2]; exact CsAt.made u2 #[.int .i64 t1, .string t2] _ (by simp))); have HX_2 := Lib.hid (HX_1.out.keeps (Keeps.trans k2 q2)); have HY_2 := Lib.hid (HY_1.out.keeps (Keeps.trans k2 q2)); have HKK_2 := Lib.hid (HKK_1.out.trans (Keeps.trans k2 q2)); have pA0_2 := HA_2.out.cell 0 rfl; have pA1_2 := HA_2.out.cell 1 rfl; have pX0_2 := HX_2.out.cell 0 rfl; have pX1_2 := HX_2.out.cell 1 rfl; clear k2 q2) | (refine dwp_ldP (b := X) (off := 0) HX_2.out.r rfl _ rfl rfl ?_) | (go_at_call 26; refine (HRP.out _ HKK_2.out).mono ?_; rintro _ u3 ⟨rfl, k3⟩; obtain ⟨V3, hV3⟩ : ∃ V, u3.heap.size = V := ⟨_, rfl⟩; obtain ⟨x3, hx3⟩ : ∃ W, u3.alloc (.cells #[.int .i64 z1, .int .i64 z2, .int .i64 z3, .int .i64 z4, .int .i64 z5] 55) = W := ⟨_, rfl⟩; have q3 : Keeps u3 x3 := (by rw [← hx3]; exact (Keeps.refl u3).alloc _); have HZ_3 := Lib.hid (show CsAt V3 (plC ⟨z1, z2, z3, z4, z5⟩) x3 from (by rw [← hV3, ← hx3]; exact CsAt.made u3 #[.int .i64 z1, .int .i64 z2, .int .i64 z3, .int .i64 z4, .int .i64 z5] _ (by simp))); have HX_3 := Lib.hid (HX_2.out.keeps (Keeps.trans k3 q3)); have HY_3 := Lib.hid (HY_2.out.keeps (Keeps.trans k3 q3)); have HA_3 := Lib.hid (HA_2.out.keeps (Keeps.trans k3 q3)); have HKK_3 := Lib.hid (HKK_2.out.trans (Keeps.trans k3 q3)); clear k3 q3 pA0_2 pA1_2 pX0_2 pX1_2) | (refine dwp_ldP (b := X) (off := 0) HX_3.out.r rfl _ rfl rfl ?_) | (go_at_call 30; refine (HRT.out _ HKK_3.out).mono ?_; rintro _ u4 ⟨ta, tc, rfl, hti, k4⟩; have HX_4 := Lib.hid (HX_3.out.keeps k4); have HY_4 := Lib.hid (HY_3.out.keeps k4); have HA_4 := Lib.hid (HA_3.out.keeps k4); have HZ_4 := Lib.hid (HZ_3.out.keeps k4); have HKK_4 := Lib.hid (HKK_3.out.trans k4); have HTI_4 := Lib.hid hti; clear hti; clear k4) | (go_at_call 15; refine (HPA.out _).mono ?_; rintro _ u5 ⟨pa, pc, rfl, hpi, hpc, hpb, k5⟩; have HX_5 := Lib.hid (HX_4.out.keeps k5); have HY_5 := Lib.hid (HY_4.out.keeps k5); have HA_5 := Lib.hid (HA_4.out.keeps k5); have HZ_5 := Lib.hid (HZ_4.out.keeps k5); have HKK_5 := Lib.hid (HKK_4.out.trans k5); have HPI_5 := Lib.hid hpi; clear hpi hpc hpb; clear k5))
      refine (HRI.out _ HKK_5.out).mono ?_
      rintro _ w5 ⟨⟨A, P, O, inf, acc⟩, a, n, c, ae, ne, ce, es, G, rfl, k5, hno, hgo⟩
      obtain ⟨V, hV⟩ : ∃ V, w5.heap.size = V := ⟨_, rfl⟩
      obtain ⟨w6, hw6⟩ : ∃ W, w5.alloc (.cells #[.int .i64 A, .int .i64 P, .int .i64 O, .slice a n c, .slice ae ne ce] 78) = W := ⟨_, rfl⟩
      have HV := Lib.hid (show CsAns w5 V (iC A P O a n c ae ne ce) w6 from ⟨by rw [← hV, ← hw6]; exact CsAt.made w5 #[.int .i64 A, .int .i64 P, .int .i64 O, .slice a n c, .slice ae ne ce] _ (by simp), by rw [← hw6]; exact (Keeps.refl w5).alloc _, by omega⟩)
      have HK6 := Lib.hid ((HKK_5.out.trans k5).trans HV.out.k)
      by_cases hG : G = 0
      · subst hG
        obtain ⟨hat, hn, hne5, hsm, hok, hby, hex, _⟩ := hgo rfl
        have HBD := Lib.hid (show Calls Tryd.prog 33 #[iV A P O a n c ae ne ce] w6 fun e w' => e = .returned (.tuple #[.string s, .int .i64 0]) ∧ Keeps w6 w' from by
          have := ebody_any ⟨A, P, O, inf, acc⟩ a n c ae ne ce es w6 (hat.keeps HV.out.k) (by omega) hne5 (fun e he => ⟨by have := (hsm e he).1; omega, by have := (hsm e he).2; omega⟩) (HTI.out w6 HK6.out) (HTH.out w6 HK6.out) (HTL.out w6 HK6.out)
          rw [bodyI_ok hok, hby] at this
          unfold DlPost at this
          rw [show st (ls s) = s from st_ls s] at this
          exact this)
        have HEX := Lib.hid (fun W (q : Keeps w W) => show Calls Tryd.prog 35 #[iV A P O a n c ae ne ce] W fun e w' => e = .returned (.int .i64 ext) ∧ Keeps W w' from by
          have := eext_any ⟨A, P, O, inf, acc⟩ a n c ae ne ce W (HTI.out W q)
          rw [hex] at this
          exact this)
        clear hno hgo hat hn hne5 hsm hok hby hex k5
        dsimp only
        go_wp2_with (first | (refine wp_ldI (b := V) (off := 0) HV.out.z.r rfl _ rfl rfl ?_) | (go_at_call 33; refine HBD.out.mono ?_; rintro _ w7 ⟨rfl, k7⟩; have HK7 := Lib.hid (HK6.out.trans k7); have HV7 := Lib.hid (HV.out.keeps k7); have q0 : w7.cell? ⟨V, 0, none⟩ = some (.int .i64 A) := HV7.out.z.cell 0 rfl; have q1 : w7.cell? ⟨V, 1, none⟩ = some (.int .i64 P) := HV7.out.z.cell 1 rfl; have q2 : w7.cell? ⟨V, 2, none⟩ = some (.int .i64 O) := HV7.out.z.cell 2 rfl; have q3 : w7.cell? ⟨V, 3, none⟩ = some (.slice a n c) := HV7.out.z.cell 3 rfl; have q4 : w7.cell? ⟨V, 4, none⟩ = some (.slice ae ne ce) := HV7.out.z.cell 4 rfl; clear k7) | (go_at_call 35; refine (HEX.out w7 HK7.out).mono ?_; rintro _ w8 ⟨rfl, k8⟩; have HK8 := Lib.hid (HK7.out.trans k8); clear k8) | (go_at_call 11; refine (HAW.out _ HK8.out).mono ?_; rintro _ w9 ⟨rfl, k9⟩; have HK9 := Lib.hid (HK8.out.trans k9); clear k9))
        go_ret
        exact ⟨rfl, HK9.out⟩
      · have hGf : (G != 0) = true := bne_iff_ne.2 hG
        clear hno hgo k5 hG
        dsimp only
        go_wp2_with (go_at_call 11; refine (HAW.out _ HK6.out).mono ?_; rintro _ w9 ⟨rfl, k9⟩; have HK9 := Lib.hid (HK6.out.trans k9); clear k9)
        go_ret
        exact ⟨rfl, HK9.out⟩
  have hGSf : (GS == 0) = false := beq_eq_false_iff_ne.2 hGS
  by_cases hGP : GP = 0
  · subst hGP
    have HMP := Lib.hid (HMP0.out rfl)
    have hGT := hPT rfl
    have hGTf : (GT == 0) = false := beq_eq_false_iff_ne.2 hGT
    clear HMS0 HMP0 HMT0 hSP hPT hGS hGT
    by_cases hGR : GR = 0
    · subst hGR
      have HLP := Lib.hid (HLP0.out rfl)
      clear HLP0
      go_enter Tryd.func7, Tryd.ntmps7
      go_wp2_with (first | (refine dwp_ldP (b := X) (off := 0) HX_0.out.r rfl _ rfl rfl ?_) | (go_at_call 21; refine (HRS.out _ HKK_0.out).mono ?_; rintro _ u1 ⟨rfl, k1⟩; obtain ⟨V1, hV1⟩ : ∃ V, u1.heap.size = V := ⟨_, rfl⟩; obtain ⟨x1, hx1⟩ : ∃ W, u1.alloc (.cells #[.bool y1, .bool y2, .int .i64 y3, .int .i64 y4, .int .i64 y5, .int .i64 y6, .string y7] 42) = W := ⟨_, rfl⟩; have q1 : Keeps u1 x1 := (by rw [← hx1]; exact (Keeps.refl u1).alloc _); have HY_1 := Lib.hid (show CsAt V1 (slC ⟨y1, y2, y3, y4, y5, y6, y7⟩) x1 from (by rw [← hV1, ← hx1]; exact CsAt.made u1 #[.bool y1, .bool y2, .int .i64 y3, .int .i64 y4, .int .i64 y5, .int .i64 y6, .string y7] _ (by simp))); have HX_1 := Lib.hid (HX_0.out.keeps (Keeps.trans k1 q1)); have HKK_1 := Lib.hid (HKK_0.out.trans (Keeps.trans k1 q1)); clear k1 q1) | (refine dwp_ldP (b := X) (off := 0) HX_1.out.r rfl _ rfl rfl ?_) | (go_at_call 26; refine (HRP.out _ HKK_1.out).mono ?_; rintro _ u2 ⟨rfl, k2⟩; obtain ⟨V2, hV2⟩ : ∃ V, u2.heap.size = V := ⟨_, rfl⟩; obtain ⟨x2, hx2⟩ : ∃ W, u2.alloc (.cells #[.int .i64 z1, .int .i64 z2, .int .i64 z3, .int .i64 z4, .int .i64 z5] 55) = W := ⟨_, rfl⟩; have q2 : Keeps u2 x2 := (by rw [← hx2]; exact (Keeps.refl u2).alloc _); have HZ_2 := Lib.hid (show CsAt V2 (plC ⟨z1, z2, z3, z4, z5⟩) x2 from (by rw [← hV2, ← hx2]; exact CsAt.made u2 #[.int .i64 z1, .int .i64 z2, .int .i64 z3, .int .i64 z4, .int .i64 z5] _ (by simp))); have HX_2 := Lib.hid (HX_1.out.keeps (Keeps.trans k2 q2)); have HY_2 := Lib.hid (HY_1.out.keeps (Keeps.trans k2 q2)); have HKK_2 := Lib.hid (HKK_1.out.trans (Keeps.trans k2 q2)); clear k2 q2) | (refine dwp_ldPl (b := V2) (off := 0) (s := ⟨z1, z2, z3, z4, z5⟩) HZ_2.out.r rfl _ rfl rfl ?_) | (go_at_call 24; refine (HMP.out _ HKK_2.out).mono ?_; rintro _ u3 ⟨rfl, k3⟩; obtain ⟨V3, hV3⟩ : ∃ V, u3.heap.size = V := ⟨_, rfl⟩; obtain ⟨x3, hx3⟩ : ∃ W, u3.alloc (.cells #[.int .i64 t1, .string t2] 37) = W := ⟨_, rfl⟩; have q3 : Keeps u3 x3 := (by rw [← hx3]; exact (Keeps.refl u3).alloc _); have HA_3 := Lib.hid (show CsAt V3 (dsC ⟨t1, t2⟩) x3 from (by rw [← hV3, ← hx3]; exact CsAt.made u3 #[.int .i64 t1, .string t2] _ (by simp))); have HX_3 := Lib.hid (HX_2.out.keeps (Keeps.trans k3 q3)); have HY_3 := Lib.hid (HY_2.out.keeps (Keeps.trans k3 q3)); have HZ_3 := Lib.hid (HZ_2.out.keeps (Keeps.trans k3 q3)); have HKK_3 := Lib.hid (HKK_2.out.trans (Keeps.trans k3 q3)); have pA0_3 := HA_3.out.cell 0 rfl; have pA1_3 := HA_3.out.cell 1 rfl; have pX0_3 := HX_3.out.cell 0 rfl; have pX1_3 := HX_3.out.cell 1 rfl; clear k3 q3) | (refine dwp_ldP (b := X) (off := 0) HX_3.out.r rfl _ rfl rfl ?_) | (go_at_call 30; refine (HRT.out _ HKK_3.out).mono ?_; rintro _ u4 ⟨ta, tc, rfl, hti, k4⟩; have HX_4 := Lib.hid (HX_3.out.keeps k4); have HY_4 := Lib.hid (HY_3.out.keeps k4); have HZ_4 := Lib.hid (HZ_3.out.keeps k4); have HA_4 := Lib.hid (HA_3.out.keeps k4); have HKK_4 := Lib.hid (HKK_3.out.trans k4); have HTI_4 := Lib.hid hti; clear hti; clear k4 pA0_3 pA1_3 pX0_3 pX1_3) | (go_at_call 15; refine (HPA.out _).mono ?_; rintro _ u5 ⟨pa, pc, rfl, hpi, hpc, hpb, k5⟩; have HX_5 := Lib.hid (HX_4.out.keeps k5); have HY_5 := Lib.hid (HY_4.out.keeps k5); have HZ_5 := Lib.hid (HZ_4.out.keeps k5); have HA_5 := Lib.hid (HA_4.out.keeps k5); have HKK_5 := Lib.hid (HKK_4.out.trans k5); have HPI_5 := Lib.hid hpi; clear hpi hpc hpb; clear k5) | (go_at_call 12; refine (HLP.out _ pa pc HPI_5.out).mono ?_; rintro _ u6 ⟨rfl, k6⟩; have HX_6 := Lib.hid (HX_5.out.keeps k6); have HY_6 := Lib.hid (HY_5.out.keeps k6); have HZ_6 := Lib.hid (HZ_5.out.keeps k6); have HA_6 := Lib.hid (HA_5.out.keeps k6); have HKK_6 := Lib.hid (HKK_5.out.trans k6); clear k6))
      refine (HRI.out _ HKK_6.out).mono ?_
      rintro _ w5 ⟨⟨A, P, O, inf, acc⟩, a, n, c, ae, ne, ce, es, G, rfl, k5, hno, hgo⟩
      obtain ⟨V, hV⟩ : ∃ V, w5.heap.size = V := ⟨_, rfl⟩
      obtain ⟨w6, hw6⟩ : ∃ W, w5.alloc (.cells #[.int .i64 A, .int .i64 P, .int .i64 O, .slice a n c, .slice ae ne ce] 78) = W := ⟨_, rfl⟩
      have HV := Lib.hid (show CsAns w5 V (iC A P O a n c ae ne ce) w6 from ⟨by rw [← hV, ← hw6]; exact CsAt.made w5 #[.int .i64 A, .int .i64 P, .int .i64 O, .slice a n c, .slice ae ne ce] _ (by simp), by rw [← hw6]; exact (Keeps.refl w5).alloc _, by omega⟩)
      have HK6 := Lib.hid ((HKK_6.out.trans k5).trans HV.out.k)
      by_cases hG : G = 0
      · subst hG
        obtain ⟨hat, hn, hne5, hsm, hok, hby, hex, _⟩ := hgo rfl
        have HBD := Lib.hid (show Calls Tryd.prog 33 #[iV A P O a n c ae ne ce] w6 fun e w' => e = .returned (.tuple #[.string s, .int .i64 0]) ∧ Keeps w6 w' from by
          have := ebody_any ⟨A, P, O, inf, acc⟩ a n c ae ne ce es w6 (hat.keeps HV.out.k) (by omega) hne5 (fun e he => ⟨by have := (hsm e he).1; omega, by have := (hsm e he).2; omega⟩) (HTI.out w6 HK6.out) (HTH.out w6 HK6.out) (HTL.out w6 HK6.out)
          rw [bodyI_ok hok, hby] at this
          unfold DlPost at this
          rw [show st (ls s) = s from st_ls s] at this
          exact this)
        have HEX := Lib.hid (fun W (q : Keeps w W) => show Calls Tryd.prog 35 #[iV A P O a n c ae ne ce] W fun e w' => e = .returned (.int .i64 ext) ∧ Keeps W w' from by
          have := eext_any ⟨A, P, O, inf, acc⟩ a n c ae ne ce W (HTI.out W q)
          rw [hex] at this
          exact this)
        clear hno hgo hat hn hne5 hsm hok hby hex k5
        dsimp only
        go_wp2_with (first | (refine wp_ldI (b := V) (off := 0) HV.out.z.r rfl _ rfl rfl ?_) | (go_at_call 33; refine HBD.out.mono ?_; rintro _ w7 ⟨rfl, k7⟩; have HK7 := Lib.hid (HK6.out.trans k7); have HV7 := Lib.hid (HV.out.keeps k7); have q0 : w7.cell? ⟨V, 0, none⟩ = some (.int .i64 A) := HV7.out.z.cell 0 rfl; have q1 : w7.cell? ⟨V, 1, none⟩ = some (.int .i64 P) := HV7.out.z.cell 1 rfl; have q2 : w7.cell? ⟨V, 2, none⟩ = some (.int .i64 O) := HV7.out.z.cell 2 rfl; have q3 : w7.cell? ⟨V, 3, none⟩ = some (.slice a n c) := HV7.out.z.cell 3 rfl; have q4 : w7.cell? ⟨V, 4, none⟩ = some (.slice ae ne ce) := HV7.out.z.cell 4 rfl; clear k7) | (go_at_call 35; refine (HEX.out w7 HK7.out).mono ?_; rintro _ w8 ⟨rfl, k8⟩; have HK8 := Lib.hid (HK7.out.trans k8); clear k8) | (go_at_call 11; refine (HAW.out _ HK8.out).mono ?_; rintro _ w9 ⟨rfl, k9⟩; have HK9 := Lib.hid (HK8.out.trans k9); clear k9))
        go_ret
        exact ⟨rfl, HK9.out⟩
      · have hGf : (G != 0) = true := bne_iff_ne.2 hG
        clear hno hgo k5 hG
        dsimp only
        go_wp2_with (go_at_call 11; refine (HAW.out _ HK6.out).mono ?_; rintro _ w9 ⟨rfl, k9⟩; have HK9 := Lib.hid (HK6.out.trans k9); clear k9)
        go_ret
        exact ⟨rfl, HK9.out⟩
    · have hGRf : (GR == 0) = false := beq_eq_false_iff_ne.2 hGR
      clear hGR HLP0
      go_enter Tryd.func7, Tryd.ntmps7
      go_wp2_with (first | (refine dwp_ldP (b := X) (off := 0) HX_0.out.r rfl _ rfl rfl ?_) | (go_at_call 21; refine (HRS.out _ HKK_0.out).mono ?_; rintro _ u1 ⟨rfl, k1⟩; obtain ⟨V1, hV1⟩ : ∃ V, u1.heap.size = V := ⟨_, rfl⟩; obtain ⟨x1, hx1⟩ : ∃ W, u1.alloc (.cells #[.bool y1, .bool y2, .int .i64 y3, .int .i64 y4, .int .i64 y5, .int .i64 y6, .string y7] 42) = W := ⟨_, rfl⟩; have q1 : Keeps u1 x1 := (by rw [← hx1]; exact (Keeps.refl u1).alloc _); have HY_1 := Lib.hid (show CsAt V1 (slC ⟨y1, y2, y3, y4, y5, y6, y7⟩) x1 from (by rw [← hV1, ← hx1]; exact CsAt.made u1 #[.bool y1, .bool y2, .int .i64 y3, .int .i64 y4, .int .i64 y5, .int .i64 y6, .string y7] _ (by simp))); have HX_1 := Lib.hid (HX_0.out.keeps (Keeps.trans k1 q1)); have HKK_1 := Lib.hid (HKK_0.out.trans (Keeps.trans k1 q1)); clear k1 q1) | (refine dwp_ldP (b := X) (off := 0) HX_1.out.r rfl _ rfl rfl ?_) | (go_at_call 26; refine (HRP.out _ HKK_1.out).mono ?_; rintro _ u2 ⟨rfl, k2⟩; obtain ⟨V2, hV2⟩ : ∃ V, u2.heap.size = V := ⟨_, rfl⟩; obtain ⟨x2, hx2⟩ : ∃ W, u2.alloc (.cells #[.int .i64 z1, .int .i64 z2, .int .i64 z3, .int .i64 z4, .int .i64 z5] 55) = W := ⟨_, rfl⟩; have q2 : Keeps u2 x2 := (by rw [← hx2]; exact (Keeps.refl u2).alloc _); have HZ_2 := Lib.hid (show CsAt V2 (plC ⟨z1, z2, z3, z4, z5⟩) x2 from (by rw [← hV2, ← hx2]; exact CsAt.made u2 #[.int .i64 z1, .int .i64 z2, .int .i64 z3, .int .i64 z4, .int .i64 z5] _ (by simp))); have HX_2 := Lib.hid (HX_1.out.keeps (Keeps.trans k2 q2)); have HY_2 := Lib.hid (HY_1.out.keeps (Keeps.trans k2 q2)); have HKK_2 := Lib.hid (HKK_1.out.trans (Keeps.trans k2 q2)); clear k2 q2) | (refine dwp_ldPl (b := V2) (off := 0) (s := ⟨z1, z2, z3, z4, z5⟩) HZ_2.out.r rfl _ rfl rfl ?_) | (go_at_call 24; refine (HMP.out _ HKK_2.out).mono ?_; rintro _ u3 ⟨rfl, k3⟩; obtain ⟨V3, hV3⟩ : ∃ V, u3.heap.size = V := ⟨_, rfl⟩; obtain ⟨x3, hx3⟩ : ∃ W, u3.alloc (.cells #[.int .i64 t1, .string t2] 37) = W := ⟨_, rfl⟩; have q3 : Keeps u3 x3 := (by rw [← hx3]; exact (Keeps.refl u3).alloc _); have HA_3 := Lib.hid (show CsAt V3 (dsC ⟨t1, t2⟩) x3 from (by rw [← hV3, ← hx3]; exact CsAt.made u3 #[.int .i64 t1, .string t2] _ (by simp))); have HX_3 := Lib.hid (HX_2.out.keeps (Keeps.trans k3 q3)); have HY_3 := Lib.hid (HY_2.out.keeps (Keeps.trans k3 q3)); have HZ_3 := Lib.hid (HZ_2.out.keeps (Keeps.trans k3 q3)); have HKK_3 := Lib.hid (HKK_2.out.trans (Keeps.trans k3 q3)); have pA0_3 := HA_3.out.cell 0 rfl; have pA1_3 := HA_3.out.cell 1 rfl; have pX0_3 := HX_3.out.cell 0 rfl; have pX1_3 := HX_3.out.cell 1 rfl; clear k3 q3) | (refine dwp_ldP (b := X) (off := 0) HX_3.out.r rfl _ rfl rfl ?_) | (go_at_call 30; refine (HRT.out _ HKK_3.out).mono ?_; rintro _ u4 ⟨ta, tc, rfl, hti, k4⟩; have HX_4 := Lib.hid (HX_3.out.keeps k4); have HY_4 := Lib.hid (HY_3.out.keeps k4); have HZ_4 := Lib.hid (HZ_3.out.keeps k4); have HA_4 := Lib.hid (HA_3.out.keeps k4); have HKK_4 := Lib.hid (HKK_3.out.trans k4); have HTI_4 := Lib.hid hti; clear hti; clear k4 pA0_3 pA1_3 pX0_3 pX1_3) | (go_at_call 15; refine (HPA.out _).mono ?_; rintro _ u5 ⟨pa, pc, rfl, hpi, hpc, hpb, k5⟩; have HX_5 := Lib.hid (HX_4.out.keeps k5); have HY_5 := Lib.hid (HY_4.out.keeps k5); have HZ_5 := Lib.hid (HZ_4.out.keeps k5); have HA_5 := Lib.hid (HA_4.out.keeps k5); have HKK_5 := Lib.hid (HKK_4.out.trans k5); have HPI_5 := Lib.hid hpi; clear hpi hpc hpb; clear k5))
      refine (HRI.out _ HKK_5.out).mono ?_
      rintro _ w5 ⟨⟨A, P, O, inf, acc⟩, a, n, c, ae, ne, ce, es, G, rfl, k5, hno, hgo⟩
      obtain ⟨V, hV⟩ : ∃ V, w5.heap.size = V := ⟨_, rfl⟩
      obtain ⟨w6, hw6⟩ : ∃ W, w5.alloc (.cells #[.int .i64 A, .int .i64 P, .int .i64 O, .slice a n c, .slice ae ne ce] 78) = W := ⟨_, rfl⟩
      have HV := Lib.hid (show CsAns w5 V (iC A P O a n c ae ne ce) w6 from ⟨by rw [← hV, ← hw6]; exact CsAt.made w5 #[.int .i64 A, .int .i64 P, .int .i64 O, .slice a n c, .slice ae ne ce] _ (by simp), by rw [← hw6]; exact (Keeps.refl w5).alloc _, by omega⟩)
      have HK6 := Lib.hid ((HKK_5.out.trans k5).trans HV.out.k)
      by_cases hG : G = 0
      · subst hG
        obtain ⟨hat, hn, hne5, hsm, hok, hby, hex, _⟩ := hgo rfl
        have HBD := Lib.hid (show Calls Tryd.prog 33 #[iV A P O a n c ae ne ce] w6 fun e w' => e = .returned (.tuple #[.string s, .int .i64 0]) ∧ Keeps w6 w' from by
          have := ebody_any ⟨A, P, O, inf, acc⟩ a n c ae ne ce es w6 (hat.keeps HV.out.k) (by omega) hne5 (fun e he => ⟨by have := (hsm e he).1; omega, by have := (hsm e he).2; omega⟩) (HTI.out w6 HK6.out) (HTH.out w6 HK6.out) (HTL.out w6 HK6.out)
          rw [bodyI_ok hok, hby] at this
          unfold DlPost at this
          rw [show st (ls s) = s from st_ls s] at this
          exact this)
        have HEX := Lib.hid (fun W (q : Keeps w W) => show Calls Tryd.prog 35 #[iV A P O a n c ae ne ce] W fun e w' => e = .returned (.int .i64 ext) ∧ Keeps W w' from by
          have := eext_any ⟨A, P, O, inf, acc⟩ a n c ae ne ce W (HTI.out W q)
          rw [hex] at this
          exact this)
        clear hno hgo hat hn hne5 hsm hok hby hex k5
        dsimp only
        go_wp2_with (first | (refine wp_ldI (b := V) (off := 0) HV.out.z.r rfl _ rfl rfl ?_) | (go_at_call 33; refine HBD.out.mono ?_; rintro _ w7 ⟨rfl, k7⟩; have HK7 := Lib.hid (HK6.out.trans k7); have HV7 := Lib.hid (HV.out.keeps k7); have q0 : w7.cell? ⟨V, 0, none⟩ = some (.int .i64 A) := HV7.out.z.cell 0 rfl; have q1 : w7.cell? ⟨V, 1, none⟩ = some (.int .i64 P) := HV7.out.z.cell 1 rfl; have q2 : w7.cell? ⟨V, 2, none⟩ = some (.int .i64 O) := HV7.out.z.cell 2 rfl; have q3 : w7.cell? ⟨V, 3, none⟩ = some (.slice a n c) := HV7.out.z.cell 3 rfl; have q4 : w7.cell? ⟨V, 4, none⟩ = some (.slice ae ne ce) := HV7.out.z.cell 4 rfl; clear k7) | (go_at_call 35; refine (HEX.out w7 HK7.out).mono ?_; rintro _ w8 ⟨rfl, k8⟩; have HK8 := Lib.hid (HK7.out.trans k8); clear k8) | (go_at_call 11; refine (HAW.out _ HK8.out).mono ?_; rintro _ w9 ⟨rfl, k9⟩; have HK9 := Lib.hid (HK8.out.trans k9); clear k9))
        go_ret
        exact ⟨rfl, HK9.out⟩
      · have hGf : (G != 0) = true := bne_iff_ne.2 hG
        clear hno hgo k5 hG
        dsimp only
        go_wp2_with (go_at_call 11; refine (HAW.out _ HK6.out).mono ?_; rintro _ w9 ⟨rfl, k9⟩; have HK9 := Lib.hid (HK6.out.trans k9); clear k9)
        go_ret
        exact ⟨rfl, HK9.out⟩
  have hGPf : (GP == 0) = false := beq_eq_false_iff_ne.2 hGP
  by_cases hGT : GT = 0
  · subst hGT
    have HMT := Lib.hid (HMT0.out rfl)
    clear HMS0 HMP0 HMT0 hSP hPT hGS hGP
    by_cases hGR : GR = 0
    · subst hGR
      have HLP := Lib.hid (HLP0.out rfl)
      clear HLP0
      go_enter Tryd.func7, Tryd.ntmps7
      go_wp2_with (first | (refine dwp_ldP (b := X) (off := 0) HX_0.out.r rfl _ rfl rfl ?_) | (go_at_call 21; refine (HRS.out _ HKK_0.out).mono ?_; rintro _ u1 ⟨rfl, k1⟩; obtain ⟨V1, hV1⟩ : ∃ V, u1.heap.size = V := ⟨_, rfl⟩; obtain ⟨x1, hx1⟩ : ∃ W, u1.alloc (.cells #[.bool y1, .bool y2, .int .i64 y3, .int .i64 y4, .int .i64 y5, .int .i64 y6, .string y7] 42) = W := ⟨_, rfl⟩; have q1 : Keeps u1 x1 := (by rw [← hx1]; exact (Keeps.refl u1).alloc _); have HY_1 := Lib.hid (show CsAt V1 (slC ⟨y1, y2, y3, y4, y5, y6, y7⟩) x1 from (by rw [← hV1, ← hx1]; exact CsAt.made u1 #[.bool y1, .bool y2, .int .i64 y3, .int .i64 y4, .int .i64 y5, .int .i64 y6, .string y7] _ (by simp))); have HX_1 := Lib.hid (HX_0.out.keeps (Keeps.trans k1 q1)); have HKK_1 := Lib.hid (HKK_0.out.trans (Keeps.trans k1 q1)); clear k1 q1) | (refine dwp_ldP (b := X) (off := 0) HX_1.out.r rfl _ rfl rfl ?_) | (go_at_call 26; refine (HRP.out _ HKK_1.out).mono ?_; rintro _ u2 ⟨rfl, k2⟩; obtain ⟨V2, hV2⟩ : ∃ V, u2.heap.size = V := ⟨_, rfl⟩; obtain ⟨x2, hx2⟩ : ∃ W, u2.alloc (.cells #[.int .i64 z1, .int .i64 z2, .int .i64 z3, .int .i64 z4, .int .i64 z5] 55) = W := ⟨_, rfl⟩; have q2 : Keeps u2 x2 := (by rw [← hx2]; exact (Keeps.refl u2).alloc _); have HZ_2 := Lib.hid (show CsAt V2 (plC ⟨z1, z2, z3, z4, z5⟩) x2 from (by rw [← hV2, ← hx2]; exact CsAt.made u2 #[.int .i64 z1, .int .i64 z2, .int .i64 z3, .int .i64 z4, .int .i64 z5] _ (by simp))); have HX_2 := Lib.hid (HX_1.out.keeps (Keeps.trans k2 q2)); have HY_2 := Lib.hid (HY_1.out.keeps (Keeps.trans k2 q2)); have HKK_2 := Lib.hid (HKK_1.out.trans (Keeps.trans k2 q2)); clear k2 q2) | (refine dwp_ldP (b := X) (off := 0) HX_2.out.r rfl _ rfl rfl ?_) | (go_at_call 30; refine (HRT.out _ HKK_2.out).mono ?_; rintro _ u3 ⟨ta, tc, rfl, hti, k3⟩; have HX_3 := Lib.hid (HX_2.out.keeps k3); have HY_3 := Lib.hid (HY_2.out.keeps k3); have HZ_3 := Lib.hid (HZ_2.out.keeps k3); have HKK_3 := Lib.hid (HKK_2.out.trans k3); have HTI_3 := Lib.hid hti; clear hti; clear k3) | (go_at_call 28; refine (HMT.out _ ta tc HTI_3.out HKK_3.out).mono ?_; rintro _ u4 ⟨rfl, k4⟩; obtain ⟨V4, hV4⟩ : ∃ V, u4.heap.size = V := ⟨_, rfl⟩; obtain ⟨x4, hx4⟩ : ∃ W, u4.alloc (.cells #[.int .i64 t1, .string t2] 37) = W := ⟨_, rfl⟩; have q4 : Keeps u4 x4 := (by rw [← hx4]; exact (Keeps.refl u4).alloc _); have HA_4 := Lib.hid (show CsAt V4 (dsC ⟨t1, t2⟩) x4 from (by rw [← hV4, ← hx4]; exact CsAt.made u4 #[.int .i64 t1, .string t2] _ (by simp))); have HX_4 := Lib.hid (HX_3.out.keeps (Keeps.trans k4 q4)); have HY_4 := Lib.hid (HY_3.out.keeps (Keeps.trans k4 q4)); have HZ_4 := Lib.hid (HZ_3.out.keeps (Keeps.trans k4 q4)); have HKK_4 := Lib.hid (HKK_3.out.trans (Keeps.trans k4 q4)); have pA0_4 := HA_4.out.cell 0 rfl; have pA1_4 := HA_4.out.cell 1 rfl; have pX0_4 := HX_4.out.cell 0 rfl; have pX1_4 := HX_4.out.cell 1 rfl; clear k4 q4) | (go_at_call 15; refine (HPA.out _).mono ?_; rintro _ u5 ⟨pa, pc, rfl, hpi, hpc, hpb, k5⟩; have HX_5 := Lib.hid (HX_4.out.keeps k5); have HY_5 := Lib.hid (HY_4.out.keeps k5); have HZ_5 := Lib.hid (HZ_4.out.keeps k5); have HA_5 := Lib.hid (HA_4.out.keeps k5); have HKK_5 := Lib.hid (HKK_4.out.trans k5); have HPI_5 := Lib.hid hpi; clear hpi hpc hpb; clear k5 pA0_4 pA1_4 pX0_4 pX1_4) | (go_at_call 12; refine (HLP.out _ pa pc HPI_5.out).mono ?_; rintro _ u6 ⟨rfl, k6⟩; have HX_6 := Lib.hid (HX_5.out.keeps k6); have HY_6 := Lib.hid (HY_5.out.keeps k6); have HZ_6 := Lib.hid (HZ_5.out.keeps k6); have HA_6 := Lib.hid (HA_5.out.keeps k6); have HKK_6 := Lib.hid (HKK_5.out.trans k6); clear k6))
      refine (HRI.out _ HKK_6.out).mono ?_
      rintro _ w5 ⟨⟨A, P, O, inf, acc⟩, a, n, c, ae, ne, ce, es, G, rfl, k5, hno, hgo⟩
      obtain ⟨V, hV⟩ : ∃ V, w5.heap.size = V := ⟨_, rfl⟩
      obtain ⟨w6, hw6⟩ : ∃ W, w5.alloc (.cells #[.int .i64 A, .int .i64 P, .int .i64 O, .slice a n c, .slice ae ne ce] 78) = W := ⟨_, rfl⟩
      have HV := Lib.hid (show CsAns w5 V (iC A P O a n c ae ne ce) w6 from ⟨by rw [← hV, ← hw6]; exact CsAt.made w5 #[.int .i64 A, .int .i64 P, .int .i64 O, .slice a n c, .slice ae ne ce] _ (by simp), by rw [← hw6]; exact (Keeps.refl w5).alloc _, by omega⟩)
      have HK6 := Lib.hid ((HKK_6.out.trans k5).trans HV.out.k)
      by_cases hG : G = 0
      · subst hG
        obtain ⟨hat, hn, hne5, hsm, hok, hby, hex, _⟩ := hgo rfl
        have HBD := Lib.hid (show Calls Tryd.prog 33 #[iV A P O a n c ae ne ce] w6 fun e w' => e = .returned (.tuple #[.string s, .int .i64 0]) ∧ Keeps w6 w' from by
          have := ebody_any ⟨A, P, O, inf, acc⟩ a n c ae ne ce es w6 (hat.keeps HV.out.k) (by omega) hne5 (fun e he => ⟨by have := (hsm e he).1; omega, by have := (hsm e he).2; omega⟩) (HTI.out w6 HK6.out) (HTH.out w6 HK6.out) (HTL.out w6 HK6.out)
          rw [bodyI_ok hok, hby] at this
          unfold DlPost at this
          rw [show st (ls s) = s from st_ls s] at this
          exact this)
        have HEX := Lib.hid (fun W (q : Keeps w W) => show Calls Tryd.prog 35 #[iV A P O a n c ae ne ce] W fun e w' => e = .returned (.int .i64 ext) ∧ Keeps W w' from by
          have := eext_any ⟨A, P, O, inf, acc⟩ a n c ae ne ce W (HTI.out W q)
          rw [hex] at this
          exact this)
        clear hno hgo hat hn hne5 hsm hok hby hex k5
        dsimp only
        go_wp2_with (first | (refine wp_ldI (b := V) (off := 0) HV.out.z.r rfl _ rfl rfl ?_) | (go_at_call 33; refine HBD.out.mono ?_; rintro _ w7 ⟨rfl, k7⟩; have HK7 := Lib.hid (HK6.out.trans k7); have HV7 := Lib.hid (HV.out.keeps k7); have q0 : w7.cell? ⟨V, 0, none⟩ = some (.int .i64 A) := HV7.out.z.cell 0 rfl; have q1 : w7.cell? ⟨V, 1, none⟩ = some (.int .i64 P) := HV7.out.z.cell 1 rfl; have q2 : w7.cell? ⟨V, 2, none⟩ = some (.int .i64 O) := HV7.out.z.cell 2 rfl; have q3 : w7.cell? ⟨V, 3, none⟩ = some (.slice a n c) := HV7.out.z.cell 3 rfl; have q4 : w7.cell? ⟨V, 4, none⟩ = some (.slice ae ne ce) := HV7.out.z.cell 4 rfl; clear k7) | (go_at_call 35; refine (HEX.out w7 HK7.out).mono ?_; rintro _ w8 ⟨rfl, k8⟩; have HK8 := Lib.hid (HK7.out.trans k8); clear k8) | (go_at_call 11; refine (HAW.out _ HK8.out).mono ?_; rintro _ w9 ⟨rfl, k9⟩; have HK9 := Lib.hid (HK8.out.trans k9); clear k9))
        go_ret
        exact ⟨rfl, HK9.out⟩
      · have hGf : (G != 0) = true := bne_iff_ne.2 hG
        clear hno hgo k5 hG
        dsimp only
        go_wp2_with (go_at_call 11; refine (HAW.out _ HK6.out).mono ?_; rintro _ w9 ⟨rfl, k9⟩; have HK9 := Lib.hid (HK6.out.trans k9); clear k9)
        go_ret
        exact ⟨rfl, HK9.out⟩
    · have hGRf : (GR == 0) = false := beq_eq_false_iff_ne.2 hGR
      clear hGR HLP0
      go_enter Tryd.func7, Tryd.ntmps7
      go_wp2_with (first | (refine dwp_ldP (b := X) (off := 0) HX_0.out.r rfl _ rfl rfl ?_) | (go_at_call 21; refine (HRS.out _ HKK_0.out).mono ?_; rintro _ u1 ⟨rfl, k1⟩; obtain ⟨V1, hV1⟩ : ∃ V, u1.heap.size = V := ⟨_, rfl⟩; obtain ⟨x1, hx1⟩ : ∃ W, u1.alloc (.cells #[.bool y1, .bool y2, .int .i64 y3, .int .i64 y4, .int .i64 y5, .int .i64 y6, .string y7] 42) = W := ⟨_, rfl⟩; have q1 : Keeps u1 x1 := (by rw [← hx1]; exact (Keeps.refl u1).alloc _); have HY_1 := Lib.hid (show CsAt V1 (slC ⟨y1, y2, y3, y4, y5, y6, y7⟩) x1 from (by rw [← hV1, ← hx1]; exact CsAt.made u1 #[.bool y1, .bool y2, .int .i64 y3, .int .i64 y4, .int .i64 y5, .int .i64 y6, .string y7] _ (by simp))); have HX_1 := Lib.hid (HX_0.out.keeps (Keeps.trans k1 q1)); have HKK_1 := Lib.hid (HKK_0.out.trans (Keeps.trans k1 q1)); clear k1 q1) | (refine dwp_ldP (b := X) (off := 0) HX_1.out.r rfl _ rfl rfl ?_) | (go_at_call 26; refine (HRP.out _ HKK_1.out).mono ?_; rintro _ u2 ⟨rfl, k2⟩; obtain ⟨V2, hV2⟩ : ∃ V, u2.heap.size = V := ⟨_, rfl⟩; obtain ⟨x2, hx2⟩ : ∃ W, u2.alloc (.cells #[.int .i64 z1, .int .i64 z2, .int .i64 z3, .int .i64 z4, .int .i64 z5] 55) = W := ⟨_, rfl⟩; have q2 : Keeps u2 x2 := (by rw [← hx2]; exact (Keeps.refl u2).alloc _); have HZ_2 := Lib.hid (show CsAt V2 (plC ⟨z1, z2, z3, z4, z5⟩) x2 from (by rw [← hV2, ← hx2]; exact CsAt.made u2 #[.int .i64 z1, .int .i64 z2, .int .i64 z3, .int .i64 z4, .int .i64 z5] _ (by simp))); have HX_2 := Lib.hid (HX_1.out.keeps (Keeps.trans k2 q2)); have HY_2 := Lib.hid (HY_1.out.keeps (Keeps.trans k2 q2)); have HKK_2 := Lib.hid (HKK_1.out.trans (Keeps.trans k2 q2)); clear k2 q2) | (refine dwp_ldP (b := X) (off := 0) HX_2.out.r rfl _ rfl rfl ?_) | (go_at_call 30; refine (HRT.out _ HKK_2.out).mono ?_; rintro _ u3 ⟨ta, tc, rfl, hti, k3⟩; have HX_3 := Lib.hid (HX_2.out.keeps k3); have HY_3 := Lib.hid (HY_2.out.keeps k3); have HZ_3 := Lib.hid (HZ_2.out.keeps k3); have HKK_3 := Lib.hid (HKK_2.out.trans k3); have HTI_3 := Lib.hid hti; clear hti; clear k3) | (go_at_call 28; refine (HMT.out _ ta tc HTI_3.out HKK_3.out).mono ?_; rintro _ u4 ⟨rfl, k4⟩; obtain ⟨V4, hV4⟩ : ∃ V, u4.heap.size = V := ⟨_, rfl⟩; obtain ⟨x4, hx4⟩ : ∃ W, u4.alloc (.cells #[.int .i64 t1, .string t2] 37) = W := ⟨_, rfl⟩; have q4 : Keeps u4 x4 := (by rw [← hx4]; exact (Keeps.refl u4).alloc _); have HA_4 := Lib.hid (show CsAt V4 (dsC ⟨t1, t2⟩) x4 from (by rw [← hV4, ← hx4]; exact CsAt.made u4 #[.int .i64 t1, .string t2] _ (by simp))); have HX_4 := Lib.hid (HX_3.out.keeps (Keeps.trans k4 q4)); have HY_4 := Lib.hid (HY_3.out.keeps (Keeps.trans k4 q4)); have HZ_4 := Lib.hid (HZ_3.out.keeps (Keeps.trans k4 q4)); have HKK_4 := Lib.hid (HKK_3.out.trans (Keeps.trans k4 q4)); have pA0_4 := HA_4.out.cell 0 rfl; have pA1_4 := HA_4.out.cell 1 rfl; have pX0_4 := HX_4.out.cell 0 rfl; have pX1_4 := HX_4.out.cell 1 rfl; clear k4 q4) | (go_at_call 15; refine (HPA.out _).mono ?_; rintro _ u5 ⟨pa, pc, rfl, hpi, hpc, hpb, k5⟩; have HX_5 := Lib.hid (HX_4.out.keeps k5); have HY_5 := Lib.hid (HY_4.out.keeps k5); have HZ_5 := Lib.hid (HZ_4.out.keeps k5); have HA_5 := Lib.hid (HA_4.out.keeps k5); have HKK_5 := Lib.hid (HKK_4.out.trans k5); have HPI_5 := Lib.hid hpi; clear hpi hpc hpb; clear k5 pA0_4 pA1_4 pX0_4 pX1_4))
      refine (HRI.out _ HKK_5.out).mono ?_
      rintro _ w5 ⟨⟨A, P, O, inf, acc⟩, a, n, c, ae, ne, ce, es, G, rfl, k5, hno, hgo⟩
      obtain ⟨V, hV⟩ : ∃ V, w5.heap.size = V := ⟨_, rfl⟩
      obtain ⟨w6, hw6⟩ : ∃ W, w5.alloc (.cells #[.int .i64 A, .int .i64 P, .int .i64 O, .slice a n c, .slice ae ne ce] 78) = W := ⟨_, rfl⟩
      have HV := Lib.hid (show CsAns w5 V (iC A P O a n c ae ne ce) w6 from ⟨by rw [← hV, ← hw6]; exact CsAt.made w5 #[.int .i64 A, .int .i64 P, .int .i64 O, .slice a n c, .slice ae ne ce] _ (by simp), by rw [← hw6]; exact (Keeps.refl w5).alloc _, by omega⟩)
      have HK6 := Lib.hid ((HKK_5.out.trans k5).trans HV.out.k)
      by_cases hG : G = 0
      · subst hG
        obtain ⟨hat, hn, hne5, hsm, hok, hby, hex, _⟩ := hgo rfl
        have HBD := Lib.hid (show Calls Tryd.prog 33 #[iV A P O a n c ae ne ce] w6 fun e w' => e = .returned (.tuple #[.string s, .int .i64 0]) ∧ Keeps w6 w' from by
          have := ebody_any ⟨A, P, O, inf, acc⟩ a n c ae ne ce es w6 (hat.keeps HV.out.k) (by omega) hne5 (fun e he => ⟨by have := (hsm e he).1; omega, by have := (hsm e he).2; omega⟩) (HTI.out w6 HK6.out) (HTH.out w6 HK6.out) (HTL.out w6 HK6.out)
          rw [bodyI_ok hok, hby] at this
          unfold DlPost at this
          rw [show st (ls s) = s from st_ls s] at this
          exact this)
        have HEX := Lib.hid (fun W (q : Keeps w W) => show Calls Tryd.prog 35 #[iV A P O a n c ae ne ce] W fun e w' => e = .returned (.int .i64 ext) ∧ Keeps W w' from by
          have := eext_any ⟨A, P, O, inf, acc⟩ a n c ae ne ce W (HTI.out W q)
          rw [hex] at this
          exact this)
        clear hno hgo hat hn hne5 hsm hok hby hex k5
        dsimp only
        go_wp2_with (first | (refine wp_ldI (b := V) (off := 0) HV.out.z.r rfl _ rfl rfl ?_) | (go_at_call 33; refine HBD.out.mono ?_; rintro _ w7 ⟨rfl, k7⟩; have HK7 := Lib.hid (HK6.out.trans k7); have HV7 := Lib.hid (HV.out.keeps k7); have q0 : w7.cell? ⟨V, 0, none⟩ = some (.int .i64 A) := HV7.out.z.cell 0 rfl; have q1 : w7.cell? ⟨V, 1, none⟩ = some (.int .i64 P) := HV7.out.z.cell 1 rfl; have q2 : w7.cell? ⟨V, 2, none⟩ = some (.int .i64 O) := HV7.out.z.cell 2 rfl; have q3 : w7.cell? ⟨V, 3, none⟩ = some (.slice a n c) := HV7.out.z.cell 3 rfl; have q4 : w7.cell? ⟨V, 4, none⟩ = some (.slice ae ne ce) := HV7.out.z.cell 4 rfl; clear k7) | (go_at_call 35; refine (HEX.out w7 HK7.out).mono ?_; rintro _ w8 ⟨rfl, k8⟩; have HK8 := Lib.hid (HK7.out.trans k8); clear k8) | (go_at_call 11; refine (HAW.out _ HK8.out).mono ?_; rintro _ w9 ⟨rfl, k9⟩; have HK9 := Lib.hid (HK8.out.trans k9); clear k9))
        go_ret
        exact ⟨rfl, HK9.out⟩
      · have hGf : (G != 0) = true := bne_iff_ne.2 hG
        clear hno hgo k5 hG
        dsimp only
        go_wp2_with (go_at_call 11; refine (HAW.out _ HK6.out).mono ?_; rintro _ w9 ⟨rfl, k9⟩; have HK9 := Lib.hid (HK6.out.trans k9); clear k9)
        go_ret
        exact ⟨rfl, HK9.out⟩
  have hGTf : (GT == 0) = false := beq_eq_false_iff_ne.2 hGT
  clear HMS0 HMP0 HMT0 hSP hPT hGS hGP hGT
  by_cases hGR : GR = 0
  · subst hGR
    have HLP := Lib.hid (HLP0.out rfl)
    clear HLP0
    go_enter Tryd.func7, Tryd.ntmps7
    go_wp2_with (first | (refine dwp_ldP (b := X) (off := 0) HX_0.out.r rfl _ rfl rfl ?_) | (go_at_call 21; refine (HRS.out _ HKK_0.out).mono ?_; rintro _ u1 ⟨rfl, k1⟩; obtain ⟨V1, hV1⟩ : ∃ V, u1.heap.size = V := ⟨_, rfl⟩; obtain ⟨x1, hx1⟩ : ∃ W, u1.alloc (.cells #[.bool y1, .bool y2, .int .i64 y3, .int .i64 y4, .int .i64 y5, .int .i64 y6, .string y7] 42) = W := ⟨_, rfl⟩; have q1 : Keeps u1 x1 := (by rw [← hx1]; exact (Keeps.refl u1).alloc _); have HY_1 := Lib.hid (show CsAt V1 (slC ⟨y1, y2, y3, y4, y5, y6, y7⟩) x1 from (by rw [← hV1, ← hx1]; exact CsAt.made u1 #[.bool y1, .bool y2, .int .i64 y3, .int .i64 y4, .int .i64 y5, .int .i64 y6, .string y7] _ (by simp))); have HX_1 := Lib.hid (HX_0.out.keeps (Keeps.trans k1 q1)); have HKK_1 := Lib.hid (HKK_0.out.trans (Keeps.trans k1 q1)); clear k1 q1) | (refine dwp_ldP (b := X) (off := 0) HX_1.out.r rfl _ rfl rfl ?_) | (go_at_call 26; refine (HRP.out _ HKK_1.out).mono ?_; rintro _ u2 ⟨rfl, k2⟩; obtain ⟨V2, hV2⟩ : ∃ V, u2.heap.size = V := ⟨_, rfl⟩; obtain ⟨x2, hx2⟩ : ∃ W, u2.alloc (.cells #[.int .i64 z1, .int .i64 z2, .int .i64 z3, .int .i64 z4, .int .i64 z5] 55) = W := ⟨_, rfl⟩; have q2 : Keeps u2 x2 := (by rw [← hx2]; exact (Keeps.refl u2).alloc _); have HZ_2 := Lib.hid (show CsAt V2 (plC ⟨z1, z2, z3, z4, z5⟩) x2 from (by rw [← hV2, ← hx2]; exact CsAt.made u2 #[.int .i64 z1, .int .i64 z2, .int .i64 z3, .int .i64 z4, .int .i64 z5] _ (by simp))); have HX_2 := Lib.hid (HX_1.out.keeps (Keeps.trans k2 q2)); have HY_2 := Lib.hid (HY_1.out.keeps (Keeps.trans k2 q2)); have HKK_2 := Lib.hid (HKK_1.out.trans (Keeps.trans k2 q2)); clear k2 q2) | (refine dwp_ldP (b := X) (off := 0) HX_2.out.r rfl _ rfl rfl ?_) | (go_at_call 30; refine (HRT.out _ HKK_2.out).mono ?_; rintro _ u3 ⟨ta, tc, rfl, hti, k3⟩; have HX_3 := Lib.hid (HX_2.out.keeps k3); have HY_3 := Lib.hid (HY_2.out.keeps k3); have HZ_3 := Lib.hid (HZ_2.out.keeps k3); have HKK_3 := Lib.hid (HKK_2.out.trans k3); have HTI_3 := Lib.hid hti; clear hti; clear k3) | (go_at_call 15; refine (HPA.out _).mono ?_; rintro _ u4 ⟨pa, pc, rfl, hpi, hpc, hpb, k4⟩; have HX_4 := Lib.hid (HX_3.out.keeps k4); have HY_4 := Lib.hid (HY_3.out.keeps k4); have HZ_4 := Lib.hid (HZ_3.out.keeps k4); have HKK_4 := Lib.hid (HKK_3.out.trans k4); have HPI_4 := Lib.hid hpi; clear hpi hpc hpb; clear k4) | (go_at_call 12; refine (HLP.out _ pa pc HPI_4.out).mono ?_; rintro _ u5 ⟨rfl, k5⟩; have HX_5 := Lib.hid (HX_4.out.keeps k5); have HY_5 := Lib.hid (HY_4.out.keeps k5); have HZ_5 := Lib.hid (HZ_4.out.keeps k5); have HKK_5 := Lib.hid (HKK_4.out.trans k5); clear k5))
    refine (HRI.out _ HKK_5.out).mono ?_
    rintro _ w5 ⟨⟨A, P, O, inf, acc⟩, a, n, c, ae, ne, ce, es, G, rfl, k5, hno, hgo⟩
    obtain ⟨V, hV⟩ : ∃ V, w5.heap.size = V := ⟨_, rfl⟩
    obtain ⟨w6, hw6⟩ : ∃ W, w5.alloc (.cells #[.int .i64 A, .int .i64 P, .int .i64 O, .slice a n c, .slice ae ne ce] 78) = W := ⟨_, rfl⟩
    have HV := Lib.hid (show CsAns w5 V (iC A P O a n c ae ne ce) w6 from ⟨by rw [← hV, ← hw6]; exact CsAt.made w5 #[.int .i64 A, .int .i64 P, .int .i64 O, .slice a n c, .slice ae ne ce] _ (by simp), by rw [← hw6]; exact (Keeps.refl w5).alloc _, by omega⟩)
    have HK6 := Lib.hid ((HKK_5.out.trans k5).trans HV.out.k)
    by_cases hG : G = 0
    · subst hG
      obtain ⟨hat, hn, hne5, hsm, hok, hby, hex, _⟩ := hgo rfl
      have HBD := Lib.hid (show Calls Tryd.prog 33 #[iV A P O a n c ae ne ce] w6 fun e w' => e = .returned (.tuple #[.string s, .int .i64 0]) ∧ Keeps w6 w' from by
        have := ebody_any ⟨A, P, O, inf, acc⟩ a n c ae ne ce es w6 (hat.keeps HV.out.k) (by omega) hne5 (fun e he => ⟨by have := (hsm e he).1; omega, by have := (hsm e he).2; omega⟩) (HTI.out w6 HK6.out) (HTH.out w6 HK6.out) (HTL.out w6 HK6.out)
        rw [bodyI_ok hok, hby] at this
        unfold DlPost at this
        rw [show st (ls s) = s from st_ls s] at this
        exact this)
      have HEX := Lib.hid (fun W (q : Keeps w W) => show Calls Tryd.prog 35 #[iV A P O a n c ae ne ce] W fun e w' => e = .returned (.int .i64 ext) ∧ Keeps W w' from by
        have := eext_any ⟨A, P, O, inf, acc⟩ a n c ae ne ce W (HTI.out W q)
        rw [hex] at this
        exact this)
      clear hno hgo hat hn hne5 hsm hok hby hex k5
      dsimp only
      go_wp2_with (first | (refine wp_ldI (b := V) (off := 0) HV.out.z.r rfl _ rfl rfl ?_) | (go_at_call 33; refine HBD.out.mono ?_; rintro _ w7 ⟨rfl, k7⟩; have HK7 := Lib.hid (HK6.out.trans k7); have HV7 := Lib.hid (HV.out.keeps k7); have q0 : w7.cell? ⟨V, 0, none⟩ = some (.int .i64 A) := HV7.out.z.cell 0 rfl; have q1 : w7.cell? ⟨V, 1, none⟩ = some (.int .i64 P) := HV7.out.z.cell 1 rfl; have q2 : w7.cell? ⟨V, 2, none⟩ = some (.int .i64 O) := HV7.out.z.cell 2 rfl; have q3 : w7.cell? ⟨V, 3, none⟩ = some (.slice a n c) := HV7.out.z.cell 3 rfl; have q4 : w7.cell? ⟨V, 4, none⟩ = some (.slice ae ne ce) := HV7.out.z.cell 4 rfl; clear k7) | (go_at_call 35; refine (HEX.out w7 HK7.out).mono ?_; rintro _ w8 ⟨rfl, k8⟩; have HK8 := Lib.hid (HK7.out.trans k8); clear k8) | (go_at_call 11; refine (HAW.out _ HK8.out).mono ?_; rintro _ w9 ⟨rfl, k9⟩; have HK9 := Lib.hid (HK8.out.trans k9); clear k9))
      go_ret
      exact ⟨rfl, HK9.out⟩
    · have hGf : (G != 0) = true := bne_iff_ne.2 hG
      clear hno hgo k5 hG
      dsimp only
      go_wp2_with (go_at_call 11; refine (HAW.out _ HK6.out).mono ?_; rintro _ w9 ⟨rfl, k9⟩; have HK9 := Lib.hid (HK6.out.trans k9); clear k9)
      go_ret
      exact ⟨rfl, HK9.out⟩
  · have hGRf : (GR == 0) = false := beq_eq_false_iff_ne.2 hGR
    clear hGR HLP0
    go_enter Tryd.func7, Tryd.ntmps7
    go_wp2_with (first | (refine dwp_ldP (b := X) (off := 0) HX_0.out.r rfl _ rfl rfl ?_) | (go_at_call 21; refine (HRS.out _ HKK_0.out).mono ?_; rintro _ u1 ⟨rfl, k1⟩; obtain ⟨V1, hV1⟩ : ∃ V, u1.heap.size = V := ⟨_, rfl⟩; obtain ⟨x1, hx1⟩ : ∃ W, u1.alloc (.cells #[.bool y1, .bool y2, .int .i64 y3, .int .i64 y4, .int .i64 y5, .int .i64 y6, .string y7] 42) = W := ⟨_, rfl⟩; have q1 : Keeps u1 x1 := (by rw [← hx1]; exact (Keeps.refl u1).alloc _); have HY_1 := Lib.hid (show CsAt V1 (slC ⟨y1, y2, y3, y4, y5, y6, y7⟩) x1 from (by rw [← hV1, ← hx1]; exact CsAt.made u1 #[.bool y1, .bool y2, .int .i64 y3, .int .i64 y4, .int .i64 y5, .int .i64 y6, .string y7] _ (by simp))); have HX_1 := Lib.hid (HX_0.out.keeps (Keeps.trans k1 q1)); have HKK_1 := Lib.hid (HKK_0.out.trans (Keeps.trans k1 q1)); clear k1 q1) | (refine dwp_ldP (b := X) (off := 0) HX_1.out.r rfl _ rfl rfl ?_) | (go_at_call 26; refine (HRP.out _ HKK_1.out).mono ?_; rintro _ u2 ⟨rfl, k2⟩; obtain ⟨V2, hV2⟩ : ∃ V, u2.heap.size = V := ⟨_, rfl⟩; obtain ⟨x2, hx2⟩ : ∃ W, u2.alloc (.cells #[.int .i64 z1, .int .i64 z2, .int .i64 z3, .int .i64 z4, .int .i64 z5] 55) = W := ⟨_, rfl⟩; have q2 : Keeps u2 x2 := (by rw [← hx2]; exact (Keeps.refl u2).alloc _); have HZ_2 := Lib.hid (show CsAt V2 (plC ⟨z1, z2, z3, z4, z5⟩) x2 from (by rw [← hV2, ← hx2]; exact CsAt.made u2 #[.int .i64 z1, .int .i64 z2, .int .i64 z3, .int .i64 z4, .int .i64 z5] _ (by simp))); have HX_2 := Lib.hid (HX_1.out.keeps (Keeps.trans k2 q2)); have HY_2 := Lib.hid (HY_1.out.keeps (Keeps.trans k2 q2)); have HKK_2 := Lib.hid (HKK_1.out.trans (Keeps.trans k2 q2)); clear k2 q2) | (refine dwp_ldP (b := X) (off := 0) HX_2.out.r rfl _ rfl rfl ?_) | (go_at_call 30; refine (HRT.out _ HKK_2.out).mono ?_; rintro _ u3 ⟨ta, tc, rfl, hti, k3⟩; have HX_3 := Lib.hid (HX_2.out.keeps k3); have HY_3 := Lib.hid (HY_2.out.keeps k3); have HZ_3 := Lib.hid (HZ_2.out.keeps k3); have HKK_3 := Lib.hid (HKK_2.out.trans k3); have HTI_3 := Lib.hid hti; clear hti; clear k3) | (go_at_call 15; refine (HPA.out _).mono ?_; rintro _ u4 ⟨pa, pc, rfl, hpi, hpc, hpb, k4⟩; have HX_4 := Lib.hid (HX_3.out.keeps k4); have HY_4 := Lib.hid (HY_3.out.keeps k4); have HZ_4 := Lib.hid (HZ_3.out.keeps k4); have HKK_4 := Lib.hid (HKK_3.out.trans k4); have HPI_4 := Lib.hid hpi; clear hpi hpc hpb; clear k4))
    refine (HRI.out _ HKK_4.out).mono ?_
    rintro _ w5 ⟨⟨A, P, O, inf, acc⟩, a, n, c, ae, ne, ce, es, G, rfl, k5, hno, hgo⟩
    obtain ⟨V, hV⟩ : ∃ V, w5.heap.size = V := ⟨_, rfl⟩
    obtain ⟨w6, hw6⟩ : ∃ W, w5.alloc (.cells #[.int .i64 A, .int .i64 P, .int .i64 O, .slice a n c, .slice ae ne ce] 78) = W := ⟨_, rfl⟩
    have HV := Lib.hid (show CsAns w5 V (iC A P O a n c ae ne ce) w6 from ⟨by rw [← hV, ← hw6]; exact CsAt.made w5 #[.int .i64 A, .int .i64 P, .int .i64 O, .slice a n c, .slice ae ne ce] _ (by simp), by rw [← hw6]; exact (Keeps.refl w5).alloc _, by omega⟩)
    have HK6 := Lib.hid ((HKK_4.out.trans k5).trans HV.out.k)
    by_cases hG : G = 0
    · subst hG
      obtain ⟨hat, hn, hne5, hsm, hok, hby, hex, _⟩ := hgo rfl
      have HBD := Lib.hid (show Calls Tryd.prog 33 #[iV A P O a n c ae ne ce] w6 fun e w' => e = .returned (.tuple #[.string s, .int .i64 0]) ∧ Keeps w6 w' from by
        have := ebody_any ⟨A, P, O, inf, acc⟩ a n c ae ne ce es w6 (hat.keeps HV.out.k) (by omega) hne5 (fun e he => ⟨by have := (hsm e he).1; omega, by have := (hsm e he).2; omega⟩) (HTI.out w6 HK6.out) (HTH.out w6 HK6.out) (HTL.out w6 HK6.out)
        rw [bodyI_ok hok, hby] at this
        unfold DlPost at this
        rw [show st (ls s) = s from st_ls s] at this
        exact this)
      have HEX := Lib.hid (fun W (q : Keeps w W) => show Calls Tryd.prog 35 #[iV A P O a n c ae ne ce] W fun e w' => e = .returned (.int .i64 ext) ∧ Keeps W w' from by
        have := eext_any ⟨A, P, O, inf, acc⟩ a n c ae ne ce W (HTI.out W q)
        rw [hex] at this
        exact this)
      clear hno hgo hat hn hne5 hsm hok hby hex k5
      dsimp only
      go_wp2_with (first | (refine wp_ldI (b := V) (off := 0) HV.out.z.r rfl _ rfl rfl ?_) | (go_at_call 33; refine HBD.out.mono ?_; rintro _ w7 ⟨rfl, k7⟩; have HK7 := Lib.hid (HK6.out.trans k7); have HV7 := Lib.hid (HV.out.keeps k7); have q0 : w7.cell? ⟨V, 0, none⟩ = some (.int .i64 A) := HV7.out.z.cell 0 rfl; have q1 : w7.cell? ⟨V, 1, none⟩ = some (.int .i64 P) := HV7.out.z.cell 1 rfl; have q2 : w7.cell? ⟨V, 2, none⟩ = some (.int .i64 O) := HV7.out.z.cell 2 rfl; have q3 : w7.cell? ⟨V, 3, none⟩ = some (.slice a n c) := HV7.out.z.cell 3 rfl; have q4 : w7.cell? ⟨V, 4, none⟩ = some (.slice ae ne ce) := HV7.out.z.cell 4 rfl; clear k7) | (go_at_call 35; refine (HEX.out w7 HK7.out).mono ?_; rintro _ w8 ⟨rfl, k8⟩; have HK8 := Lib.hid (HK7.out.trans k8); clear k8) | (go_at_call 11; refine (HAW.out _ HK8.out).mono ?_; rintro _ w9 ⟨rfl, k9⟩; have HK9 := Lib.hid (HK8.out.trans k9); clear k9))
      go_ret
      exact ⟨rfl, HK9.out⟩
    · have hGf : (G != 0) = true := bne_iff_ne.2 hG
      clear hno hgo k5 hG
      dsimp only
      go_wp2_with (go_at_call 11; refine (HAW.out _ HK6.out).mono ?_; rintro _ w9 ⟨rfl, k9⟩; have HK9 := Lib.hid (HK6.out.trans k9); clear k9)
      go_ret
      exact ⟨rfl, HK9.out⟩

theorem doorMet (os : Os) (args : Array Value) : laidMetH Tryd.prog [("clarion/descr.ofSlice", Rows.laid_clarion_descr_ofSlice), ("clarion/descr.ofPlace", Rows.laid_clarion_descr_ofPlace), ("clarion/descr.ofTarget", Rows.laid_clarion_descr_ofTarget), ("clarion/descr.ofInt", Rows.laid_clarion_descr_ofInt), ("clarion/descr.ofHead", Rows.laid_clarion_descr_ofHead), ("clarion/descr.ofLong", Rows.laid_clarion_descr_ofLong)] ((World.doorLaid Tryd.prog 400 os).forCall (fun _ _ => 0) ⟨#[], args, []⟩).memory :=
  laidMetH_of_parts3 (fuel := 8) (laidMet_of_run' 8 (by kernel_rfl) (by kernel_rfl)) (by kernel_rfl) (by kernel_rfl)
theorem own : ownKnob Tryd.prog.godebug = none := by kernel_rfl
theorem laidOut : laidOutB Tryd.prog = true := by kernel_rfl
set_option maxRecDepth 100000 in
theorem lifted (os : Os) (started : os.Started) (H : Type) (enc : TypeId × Value → H) :
    ReturnsInHanded {} Tryd.checked os 7 .any (fun w args => (Rows.descrOneSpec.pre enc Tryd.prog Tryd.f7 [] false w args ∧ laidMetH Tryd.prog [("clarion/descr.ofSlice", Rows.laid_clarion_descr_ofSlice), ("clarion/descr.ofPlace", Rows.laid_clarion_descr_ofPlace), ("clarion/descr.ofTarget", Rows.laid_clarion_descr_ofTarget), ("clarion/descr.ofInt", Rows.laid_clarion_descr_ofInt), ("clarion/descr.ofHead", Rows.laid_clarion_descr_ofHead), ("clarion/descr.ofLong", Rows.laid_clarion_descr_ofLong)] w) ∧ sizedMet enc Tryd.prog Tryd.f7 (OpenSpec.ofChange Rows.descrOneSpec) false w args) (Rows.descrOneSpec.post enc Tryd.prog Tryd.f7 false true false false) := by
  refine returnsInHanded_of_change_and (C := Tryd.checked) (X := fun w _ => laidMetH Tryd.prog [("clarion/descr.ofSlice", Rows.laid_clarion_descr_ofSlice), ("clarion/descr.ofPlace", Rows.laid_clarion_descr_ofPlace), ("clarion/descr.ofTarget", Rows.laid_clarion_descr_ofTarget), ("clarion/descr.ofInt", Rows.laid_clarion_descr_ofInt), ("clarion/descr.ofHead", Rows.laid_clarion_descr_ofHead), ("clarion/descr.ofLong", Rows.laid_clarion_descr_ofLong)] w) (fun _ _ _ hh h => h.of_heap hh) own started (by kernel_rfl) Tryd.func7
    (ChangeSpec.witness_shaped (enc := enc) (C := Tryd.checked) (os := os) (X := fun w _ => laidMetH Tryd.prog [("clarion/descr.ofSlice", Rows.laid_clarion_descr_ofSlice), ("clarion/descr.ofPlace", Rows.laid_clarion_descr_ofPlace), ("clarion/descr.ofTarget", Rows.laid_clarion_descr_ofTarget), ("clarion/descr.ofInt", Rows.laid_clarion_descr_ofInt), ("clarion/descr.ofHead", Rows.laid_clarion_descr_ofHead), ("clarion/descr.ofLong", Rows.laid_clarion_descr_ofLong)] w) false (World.doorLaid Tryd.prog 400 os) #[.agg #[.int .i64 0, .string ByteArray.empty], .string ByteArray.empty, .int .i64 0] 8 rfl (World.shaped_of_RefB (by kernel_rfl) (by kernel_rfl)) (by kernel_rfl) (by kernel_rfl) (by kernel_rfl) (doorMet os _)) ?_
  intro W base args ds gs before hval0 hW hcnd _ hL _
  have hval : ∀ (j : Nat) t v, Tryd.f7.params[j]? = some t → args[j]? = some v → Value.okWide Tryd.prog W .any base t v := hval0
  have hW' := hW
  obtain ⟨p, q, hA0, hV, rfl, hfz, hnd⟩ := hW
  have hA : DataW.TrodAll enc Tryd.prog W 0 (fun _ => true) true Tryd.f7.params.toList args.toList ds p := hA0
  rw [Tryd.params7] at hA hval
  obtain ⟨v0, vs0, d0, ds0, p0, q0, hargs, rfl, rfl, h0, r0⟩ := trodAll_cons hA
  obtain ⟨v1, vs1, d1, ds1, p1, q1, rfl, rfl, rfl, h1, r1⟩ := trodAll_cons r0
  obtain ⟨v2, vs2, d2, ds2, p2, q2, rfl, rfl, rfl, h2, r2⟩ := trodAll_cons r1
  obtain ⟨rfl, rfl, rfl⟩ := trodAll_nil r2
  obtain rfl : args = #[v0, v1, v2] := by cases args; simp_all
  obtain ⟨rfl, rfl⟩ := trodVars_none hV
  have k0 := h0
  have lt0 : ∀ x ∈ p0, x.block < W.heap.size := by obtain ⟨m, hm⟩ := k0; exact DataW.trod_lt m _ _ _ hm
  obtain ⟨P0, rfl⟩ := open_dsc (hval 0 37 v0 rfl rfl) h0
  obtain ⟨a1, rfl, rfl, rfl, w1⟩ := open_string Tryd.underlying9 (hval 1 9 v1 rfl rfl) h1
  obtain ⟨a2, rfl, rfl, rfl, w2⟩ := open_int Tryd.underlying3 (hval 2 3 v2 rfl rfl) h2
  clear hA0 hval0
  refine (walk P0 a1 w1 a2 w2 W (tS_of hL (by kernel_rfl) (by simp)) (tP_of hL (by kernel_rfl) (by simp)) (tT_of hL (by kernel_rfl) (by simp)) (tI_of hL (by kernel_rfl) (by simp)) (tH_of hL (by kernel_rfl) (by simp)) (tL_of hL (by kernel_rfl) (by simp))).mono fun e W' ⟨he, bel⟩ => ?_
  subst he
  exact ⟨_, rfl, _, _, _, [], _, [], hW', trodAll_mk1 (shut_bool Tryd.underlying4 _), (trodAll_cons_mk (Below.trod laidOut (by kernel_rfl) (of_decide_eq_true (by kernel_rfl)) k0 bel lt0) (trodAll_cons_mk (shut_string Tryd.underlying9 w1) (trodAll_cons_mk (shut_int Tryd.underlying3 w2) trodAll_mk0))), rfl, bel.frame _, fun h => by cases h⟩

theorem over : Rows.descrOneRow.holds Tryd.pinned (OpenSpec.ofChange Rows.descrOneSpec) :=
  OpenClaim.holds_of_wide 7 Tryd.f7 rfl rfl rfl rfl rfl rfl rfl ⟨rfl, rfl, rfl, rfl, rfl⟩ rfl rfl rfl rfl rfl (by kernel_rfl) Tryd.func7 (by kernel_rfl)
    (of_decide_eq_true (by kernel_rfl)) (by unfold Func.isWrapper; first | (rw [if_pos (by decide +kernel)]; kernel_rfl) | (rw [if_neg (by decide +kernel)]; exact ⟨rfl, rfl⟩))
    (fun os started H enc _ => lifted os started H enc)

set_option maxRecDepth 100000 in
theorem proved : Rows.DescrOneCardSaid :=
  Claim7.holds_tied_plain_at .later [] [.wider, .wider, .wider, .wider, .wider, .wider] true (true, _) false over (fun _ h => by cases h) (by kernel_rfl) (fun _ h => by cases h) descrOne_row_tie rfl ⟨rfl, rfl⟩ (by kernel_rfl) rfl
    (fun f fn hf hfn => by
      obtain rfl : f = 7 := Option.some.inj ((show Tryd.prog.funcNamed "clarion/clarionlaw18.DescrOne" = some 7 by kernel_rfl).symm.trans hf) |>.symm
      obtain rfl : fn = Tryd.f7 := (Option.some.inj (Tryd.func7.symm.trans hfn)).symm
      exact ⟨by kernel_rfl, fun j t ht => by
        rw [Tryd.params7] at ht
        have hm : t ∈ [37, 9, 3] := by simpa using Array.mem_of_getElem? ht
        have hall : ([37, 9, 3].all fun u => !Tryd.prog.wantsStandIn u) = true := by kernel_rfl
        exact (show Tryd.prog.wantsStandIn t = false by simpa using List.all_eq_true.1 hall t hm)⟩)
    (by kernel_rfl)
#print axioms proved
end Go.Proofs.YtlghkdkaifcliaaDoor.descrOne
