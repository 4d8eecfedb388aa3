/-
  What Targets and ReadTargets of package descr answer. The memory that was there stays.
-/
import Derived.Test.YtlghkdkaifcliaaDoorDsJ
namespace Go.Proofs.YtlghkdkaifcliaaDoor
open Go.RowKit Gf Ds
set_option maxRecDepth 100000
set_option linter.unusedVariables false
set_option linter.unusedSimpArgs false
def mkT (l : List Tgt) : Dsc × Int := if tgE l = 0 then (tgD l, 0) else (⟨0, ⟨#[]⟩⟩, tgE l)
theorem tgE_range {l : List Tgt} (h : ¬ ∀ x ∈ l, okT x) : mkT l = (⟨0, ⟨#[]⟩⟩, 15) := by
  have e : tgE l = 15 := by unfold tgE; rw [if_neg h]
  unfold mkT; rw [e, if_neg (by decide)]
theorem tgE_long {l : List Tgt} (h : ∀ x ∈ l, okT x) (k : 51 < l.length) : mkT l = (⟨0, ⟨#[]⟩⟩, 11) := by
  have e : tgE l = 11 := by unfold tgE; rw [if_pos h, if_pos k]
  unfold mkT; rw [e, if_neg (by decide)]
theorem tgE_good {l : List Tgt} (h : ∀ x ∈ l, okT x) (k : ¬ 51 < l.length) : mkT l = (tgD l, 0) := by
  have e : tgE l = 0 := by unfold tgE; rw [if_pos h, if_neg k]
  unfold mkT; rw [if_pos e]
theorem tgsB_take_succ (l : List Tgt) {k : Nat} (h : k < l.length) : tgsB (l.take (k + 1)) = tgsB (l.take k) ++ tgB l[k] := by
  rw [List.take_add_one, List.getElem?_eq_getElem h, tgsB_append]
  show _ ++ (tgB l[k] ++ tgsB []) = _
  show _ ++ (tgB l[k] ++ []) = _
  rw [List.append_nil]
set_option maxHeartbeats 6400000 in
theorem etgs_any {a : Option Addr} {n cap : Nat} {l : List Tgt} (w : World) (h : IsE rowTg w a n l) (hn : n ≤ 1000000) (hT : TT w) :
    Calls Tryd.prog 28 #[.slice a n cap] w (DmPost w (mkT l)) := by
  obtain ⟨b, hb⟩ : ∃ b, w.heap.size = b := ⟨_, rfl⟩
  obtain ⟨wA, hA⟩ : ∃ wX, w.alloc (.cells #[.int .i64 0, .string ⟨#[]⟩] 37) = wX := ⟨_, rfl⟩
  have A0 := Lib.hid (show CsAns w b (dsC ⟨0, ⟨#[]⟩⟩) wA from CsAns.start (Keeps.refl w) (by simp) hb hA)
  have HI := Lib.hid (h.keeps A0.out.k)
  have HN := Lib.hid h.1
  have HT := Lib.hid (fun W (k : Keeps wA W) => hT.keeps (A0.out.k.trans k))
  clear h hT
  go_enter Tryd.func28, Tryd.ntmps28
  go_wp2
  go_loopw [11] (fun i wr => ∃ k : Nat, k ≤ n ∧ i = .int .i64 (k : Int) ∧ (∀ d ∈ l.take k, okT d) ∧ Keeps wA wr) (fun i _ => n - (intOf i).toNat)
  case atStart => exact ⟨0, Nat.zero_le _, rfl, by simp, Keeps.refl _⟩
  case round =>
    obtain ⟨k, hk, rfl, hall, hkp⟩ := hrel
    have HALL := Lib.hid hall
    have HK := Lib.hid hkp
    clear hall hkp
    by_cases hlt : k < n
    · have hlI : (k : Int) < (n : Int) := by omega
      have hkL : k < l.length := by have := HN.out; omega
      obtain ⟨g, off, rfl, hg, hcc⟩ := (HI.out.keeps HK.out).get hkL
      have HNX := Lib.hid (show okT l[k] → ∀ s ∈ l.take (k + 1), okT s from fun h s hs => by
        rw [List.take_add_one, List.getElem?_eq_getElem hkL] at hs
        rcases List.mem_append.1 hs with y | y
        · exact HALL.out s y
        · rw [List.mem_singleton.1 y]; exact h)
      have HBD := Lib.hid (show ¬ okT l[k] → mkT l = (⟨0, ⟨#[]⟩⟩, 15) from fun h => tgE_range fun q => h (q _ (List.getElem_mem hkL)))
      obtain ⟨⟨y1, y2, y3, y4, y5⟩, hp⟩ : ∃ q : Tgt, l[k] = q := ⟨_, rfl⟩
      rw [hp] at hcc HNX HBD
      have HRW := Lib.hid (show wr.rangeAt g (off + k * 5) (tgC ⟨y1, y2, y3, y4, y5⟩) from fun j v hv => by rw [Nat.add_assoc]; exact hcc j v hv)
      have v1 := wrapI (a := (k : Int) + 1) (by omega) (by omega)
      have HWR := Lib.hid (fun W => twrong_any ⟨y1, y2, y3, y4, y5⟩ W)
      obtain ⟨c0, hc0⟩ : ∃ c, wr.heap.size = c := ⟨_, rfl⟩
      obtain ⟨wC, hwC⟩ : ∃ W, wr.alloc (.cells #[.int .u8 0, .int .u8 0, .int .u8 0, .int .u8 0, .int .i64 0] 67) = W := ⟨_, rfl⟩
      have HC := Lib.hid (show CsAns wr c0 (tgC ⟨0, 0, 0, 0, 0⟩) wC from ⟨by rw [← hc0, ← hwC]; exact CsAt.made wr #[.int .u8 0, .int .u8 0, .int .u8 0, .int .u8 0, .int .i64 0] _ (by simp), by rw [← hwC]; exact (Keeps.refl wr).alloc _, by omega⟩)
      obtain ⟨wD, hwD⟩ : ∃ W, wC.setCells c0 0 (tgC ⟨y1, y2, y3, y4, y5⟩) = W := ⟨_, rfl⟩
      have hD := HC.out.ends (tgC ⟨y1, y2, y3, y4, y5⟩) rfl
      rw [hwD] at hD
      have HD := Lib.hid hD
      clear hcc hp hg hD
      by_cases hE : okT ⟨y1, y2, y3, y4, y5⟩
      · rw [decide_eq_true hE] at HWR
        have HNY := Lib.hid (HNX.out hE)
        clear hE
        go_wp2_with (first | (refine wp_ldTg (b := g) (off := off + k * 5) HRW.out rfl _ rfl rfl ?_) | (refine wp_stTg (b := c0) (off := 0) ⟨y1, y2, y3, y4, y5⟩ (HC.out.z.there (by decide)) rfl _ _ rfl rfl rfl ?_; rw [hwD]) | (refine wp_ldTg (b := c0) (off := 0) HD.out.z.r rfl _ rfl rfl ?_) | (go_at_call 51; refine (HWR.out _).mono ?_; rintro _ w3 ⟨rfl, k3⟩; have HK3 := Lib.hid ((HK.out.trans HD.out.k).trans k3); clear k3))
        go_roundw
        case rel => exact ⟨k + 1, by omega, by go_num, HNY.out, HK3.out⟩
        case measure => simp [intOf]; omega
      · rw [decide_eq_false hE] at HWR
        have HF := Lib.hid (HBD.out hE)
        clear hE
        go_wp2_with (first | (refine wp_ldTg (b := g) (off := off + k * 5) HRW.out rfl _ rfl rfl ?_) | (refine wp_stTg (b := c0) (off := 0) ⟨y1, y2, y3, y4, y5⟩ (HC.out.z.there (by decide)) rfl _ _ rfl rfl rfl ?_; rw [hwD]) | (refine wp_ldTg (b := c0) (off := 0) HD.out.z.r rfl _ rfl rfl ?_) | (go_at_call 51; refine (HWR.out _).mono ?_; rintro _ w3 ⟨rfl, k3⟩; have HA3 := Lib.hid (A0.out.keeps ((HK.out.trans HD.out.k).trans k3)); clear k3) | (refine dwp_stP (b := b) (off := 0) ⟨0, ⟨#[]⟩⟩ (HA3.out.z.there (by decide)) rfl _ _ rfl rfl rfl ?_))
        refine cs_ret2 Tryd.results28 (dlvP (s := ⟨0, ⟨#[]⟩⟩) (HA3.out.ends (dsC ⟨0, ⟨#[]⟩⟩) rfl).z.r) rfl rfl rfl ?_
        exact ⟨(by rw [HF.out]; rfl), (HA3.out.ends (dsC ⟨0, ⟨#[]⟩⟩) rfl).k⟩
    · have hlI : ¬ (k : Int) < (n : Int) := by omega
      have htk : l.take k = l := List.take_of_length_le (by have := HN.out; omega)
      rw [htk] at HALL
      clear htk
      have HAK := Lib.hid (A0.out.keeps HK.out)
      by_cases hbig : 51 < n
      · have HF := Lib.hid (tgE_long HALL.out (by rw [← HN.out]; exact hbig))
        have hgi : (51 : Int) < (n : Int) := by omega
        clear hbig
        go_wp2_with (refine dwp_stP (b := b) (off := 0) ⟨0, ⟨#[]⟩⟩ (HAK.out.z.there (by decide)) rfl _ _ rfl rfl rfl ?_)
        refine cs_ret2 Tryd.results28 (dlvP (s := ⟨0, ⟨#[]⟩⟩) (HAK.out.ends (dsC ⟨0, ⟨#[]⟩⟩) rfl).z.r) rfl rfl rfl ?_
        exact ⟨(by rw [HF.out]; rfl), (HAK.out.ends (dsC ⟨0, ⟨#[]⟩⟩) rfl).k⟩
      · have HF := Lib.hid (tgE_good HALL.out (by rw [← HN.out]; exact hbig))
        have hgi : ¬ (51 : Int) < (n : Int) := by omega
        have hn51 : n ≤ 51 := by omega
        obtain ⟨q, hq⟩ : ∃ q, wr.heap.size = q := ⟨_, rfl⟩
        obtain ⟨wX, hX⟩ : ∃ W, wr.alloc (.cells #[.pointer none, .slice none 0 0] 98) = W := ⟨_, rfl⟩
        have HB0 := Lib.hid (show IsBk q q [] wX by rw [← hq, ← hX]; exact IsBk.new wr)
        have HKX := Lib.hid (show Keeps wr wX by rw [← hX]; exact (Keeps.refl wr).alloc _)
        have HQ := Lib.hid hq
        clear hbig
        go_wp2
        obtain ⟨wJ, hwJ⟩ : ∃ wJ, wJ = wr := ⟨_, rfl⟩
        subst hwJ
        clear hX hq
        go_loopw [25] (fun i wr2 => ∃ k : Nat, k ≤ n ∧ i = .int .i64 (k : Int) ∧ IsBk q q (tgsB (l.take k)) wr2 ∧ Keeps wJ wr2) (fun i _ => n - (intOf i).toNat)
        case atStart => exact ⟨0, Nat.zero_le _, rfl, HB0.out, HKX.out⟩
        case round =>
          obtain ⟨m, hm, rfl, hB, hkw⟩ := hrel
          have HB := Lib.hid hB
          have HKW := Lib.hid hkw
          have hqr : q ≤ wr.heap.size := by rw [← HQ.out]; exact Below.size hkw
          clear hB hkw
          by_cases hlt2 : m < n
          · have hlI2 : (m : Int) < (n : Int) := by omega
            have hmL : m < l.length := by have := HN.out; omega
            obtain ⟨g, off, rfl, hg, hcc⟩ := (HI.out.keeps (HK.out.trans HKW.out)).get hmL
            have hok := HALL.out l[m] (List.getElem_mem hmL)
            have HS := Lib.hid (tgsB_take_succ l hmL)
            have hL0z : (tgsB (l.take m)).length ≤ 300 := by rw [tgsB_length, List.length_take]; omega
            obtain ⟨⟨y1, y2, y3, y4, y5⟩, hp⟩ : ∃ q : Tgt, l[m] = q := ⟨_, rfl⟩
            rw [hp] at hcc hok HS
            have HRW := Lib.hid (show wr.rangeAt g (off + m * 5) (tgC ⟨y1, y2, y3, y4, y5⟩) from fun j v hv => by rw [Nat.add_assoc]; exact hcc j v hv)
            obtain ⟨ho1, ho2⟩ := hok
            have ho1 : (0 : Int) ≤ y5 := ho1
            have ho2 : y5 ≤ 32 := ho2
            have v1 := wrapI (a := (m : Int) + 1) (by omega) (by omega)
            have HNM := Lib.hid (fun W => tnums_any ⟨y1, y2, y3, y4, y5⟩ W)
            have hil : il [y1.toNat, y2.toNat, y3.toNat, y4.toNat, y5.toNat, 0, 0, 0, 0] = [(y1.toNat : Int), (y2.toNat : Int), (y3.toNat : Int), (y4.toNat : Int), y5, 0, 0, 0, 0] := by
              show [(y1.toNat : Int), (y2.toNat : Int), (y3.toNat : Int), (y4.toNat : Int), ((y5.toNat : Nat) : Int), 0, 0, 0, 0] = _
              rw [Int.toNat_of_nonneg ho1]
            have q1 := y1.toNat_lt
            have q2 := y2.toNat_lt
            have q3 := y3.toNat_lt
            have q4 := y4.toNat_lt
            have HTX := Lib.hid (fun W => dwtext_any (ws := wsT) (ns := [y1.toNat, y2.toNat, y3.toNat, y4.toNat, y5.toNat, 0, 0, 0, 0]) rfl rfl gn_T (fun k hk => by
              have hk' : k = 0 ∨ k = 1 ∨ k = 2 ∨ k = 3 ∨ k = 4 ∨ k = 5 ∨ k = 6 ∨ k = 7 ∨ k = 8 := by omega
              rcases hk' with rfl | rfl | rfl | rfl | rfl | rfl | rfl | rfl | rfl
              · exact q1
              · exact q2
              · exact q3
              · exact q4
              · show y5.toNat < 256; omega
              all_goals (show (0 : Nat) < 1; decide)) rfl (by decide) W)
            rw [hil, txT y1 y2 y3 y4 y5.toNat (by omega)] at HTX
            have hTB : ([y1, y2, y3, y4, Ds.u8 y5.toNat] : List UInt8) = tgB ⟨y1, y2, y3, y4, y5⟩ := rfl
            rw [hTB] at HTX
            obtain ⟨TB, hTBe⟩ : ∃ TB, tgB ⟨y1, y2, y3, y4, y5⟩ = TB := ⟨_, rfl⟩
            have hTBl : TB.length = 5 := by rw [← hTBe]; rfl
            rw [hTBe] at HTX HS
            obtain ⟨TS, hTS⟩ : ∃ TS, st TB = TS := ⟨_, rfl⟩
            rw [hTS] at HTX
            have HTS := Lib.hid (show ls TS = TB by rw [← hTS, ls_st])
            have hTSz : TS.size = 5 := by rw [← hTS, st_size, hTBl]
            obtain ⟨L0, hL0⟩ : ∃ L0, tgsB (l.take m) = L0 := ⟨_, rfl⟩
            rw [hL0] at HB HS hL0z
            obtain ⟨c0, hc0⟩ : ∃ c, wr.heap.size = c := ⟨_, rfl⟩
            obtain ⟨wC, hwC⟩ : ∃ W, wr.alloc (.cells #[.int .u8 0, .int .u8 0, .int .u8 0, .int .u8 0, .int .i64 0] 67) = W := ⟨_, rfl⟩
            have HC := Lib.hid (show CsAns wr c0 (tgC ⟨0, 0, 0, 0, 0⟩) wC from ⟨by rw [← hc0, ← hwC]; exact CsAt.made wr #[.int .u8 0, .int .u8 0, .int .u8 0, .int .u8 0, .int .i64 0] _ (by simp), by rw [← hwC]; exact (Keeps.refl wr).alloc _, by omega⟩)
            obtain ⟨wD, hwD⟩ : ∃ W, wC.setCells c0 0 (tgC ⟨y1, y2, y3, y4, y5⟩) = W := ⟨_, rfl⟩
            have hD := HC.out.ends (tgC ⟨y1, y2, y3, y4, y5⟩) rfl
            rw [hwD] at hD
            have HD := Lib.hid hD
            have HBD := Lib.hid (HB.out.keeps hD.k)
            have HKD := Lib.hid (HKW.out.trans hD.k)
            have HTD := Lib.hid (HT.out _ (HK.out.trans HKD.out))
            have HQD := Lib.hid (Nat.le_trans hqr (Below.size hD.k))
            have HWS := Lib.hid (fun W hI hq => wstrk_any q q L0 TS W hI (by omega) hq)
            clear hcc hp hg hD hL0 hTBe hTBl hTS q1 q2 q3 q4 hil hTB hTSz hL0z ho1 ho2
            go_wp2_with (first | (refine wp_ldTg (b := g) (off := off + m * 5) HRW.out rfl _ rfl rfl ?_) | (refine wp_stTg (b := c0) (off := 0) ⟨y1, y2, y3, y4, y5⟩ (HC.out.z.there (by decide)) rfl _ _ rfl rfl rfl ?_; rw [hwD]))
            refine wp_draw_tail 4 (by kernel_rfl) [nV (il wsT), tgV ⟨y1, y2, y3, y4, y5⟩, nV [(y1.toNat : Int), (y2.toNat : Int), (y3.toNat : Int), (y4.toNat : Int), y5, 0, 0, 0, 0], .string TS]
              (fun _ W => Keeps wD W) rfl (by kernel_rfl) (by kernel_rfl) (fin := ?fin0) ?hfin0 ((Keeps.refl wD).eqv (Eqv.drew wD)) ?each0 ?hend0
            case hfin0 => simp [seqA, dstOf, Act.put]; rfl
            case each0 =>
              refine ⟨?_, ?_, ?_, ?_, trivial⟩
              all_goals intro L w5 h0 hd hs hw
              · exact does_load _ _ rfl 2 0 rfl (nC (il wsT)) _ (HTD.out.keeps hw).2 Tryd.underlying113 rfl (by kernel_rfl) ⟨fun _ => rfl, fun _ _ => hw⟩
              · exact does_load _ _ rfl c0 0 rfl (tgC ⟨y1, y2, y3, y4, y5⟩) _ (HD.out.z.keeps hw).r Tryd.underlying67 rfl (by kernel_rfl) ⟨fun _ => rfl, fun _ _ => hw⟩
              · unfold Does
                go_simp
                refine (HNM.out w5).mono ?_
                rintro _ w6 ⟨rfl, k6⟩
                exact ⟨_, rfl, rfl, fun _ _ => Keeps.trans hw k6⟩
              · unfold Does
                go_simp
                refine (HTX.out w5).mono ?_
                rintro _ w6 ⟨rfl, k6⟩
                exact ⟨_, rfl, rfl, fun _ _ => Keeps.trans hw k6⟩
            case hend0 =>
            intro L w7 hL hw
            have HB7 := Lib.hid (HBD.out.keeps hw)
            have HK7 := Lib.hid (HKD.out.trans hw)
            have HQ7 := Lib.hid (Nat.le_trans HQD.out (Below.size hw))
            simp only [List.drop_succ_cons, List.drop_zero]
            clear hw hL
            go_wp2_with (go_at_call 40; refine (HWS.out w7 HB7.out HQ7.out).mono ?_; rintro _ w8 ⟨rfl, hI8, k8, o8⟩; have HI8 := Lib.hid hI8; have HK8 := Lib.hid (HK7.out.on HQ.out k8); clear hI8 k8 o8)
            go_roundw
            case rel => exact ⟨m + 1, by omega, by go_num, by rw [HS.out, ← HTS.out]; exact HI8.out, HK8.out⟩
            case measure => simp [intOf]; omega
          · have hlI2 : ¬ (m : Int) < (n : Int) := by omega
            have HTK := Lib.hid (show l.take m = l from List.take_of_length_le (by have := HN.out; omega))
            rw [HTK.out] at HB
            obtain ⟨BD, hBD⟩ : ∃ BD, st (tgsB l) = BD := ⟨_, rfl⟩
            have HBS := Lib.hid (bstrk_any q q (tgsB l) wr HB.out hqr)
            rw [hBD] at HBS
            have HSD := Lib.hid (show tgD l = ⟨15, BD⟩ by rw [← hBD]; rfl)
            clear hBD
            go_wp2_with (first | (go_at_call 41; refine HBS.out.mono ?_; rintro _ w6 ⟨rfl, k6⟩; have HA6 := Lib.hid (A0.out.keeps (HK.out.trans (HKW.out.on HQ.out k6))); clear k6) | (refine dwp_stP (b := b) (off := 0) ⟨15, BD⟩ (HA6.out.z.there (by decide)) rfl _ _ rfl rfl rfl ?_))
            refine cs_ret2 Tryd.results28 (dlvP (s := ⟨15, BD⟩) (HA6.out.ends (dsC ⟨15, BD⟩) rfl).z.r) rfl rfl rfl ?_
            exact ⟨(by rw [HF.out, HSD.out]; rfl), (HA6.out.ends (dsC ⟨15, BD⟩) rfl).k⟩
end Go.Proofs.YtlghkdkaifcliaaDoor
