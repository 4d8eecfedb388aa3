/-
  What readBody of package descr answers (a goto). The memory that was there stays.
-/
import Derived.Test.YtlghkdkaifcliaaDoorDsA2
namespace Go.Proofs.YtlghkdkaifcliaaDoor
open Go.RowKit Gf Ds
set_option maxRecDepth 100000
set_option linter.unusedVariables false
set_option linter.unusedSimpArgs false
set_option maxHeartbeats 12800000 in
theorem erb_any (s : ByteArray) (w : World) (hs : s.size ≤ 1000000) (hH : TH w) (hL : TL w) : Calls Tryd.prog 56 #[.string s] w (RbP w (ls s)) := by
  have hl := ls_size s
  obtain ⟨b, hb⟩ : ∃ b, w.heap.size = b := ⟨_, rfl⟩
  obtain ⟨wA, hA⟩ : ∃ wX, w.alloc (.cells #[.int .i64 0, .int .i64 0, .int .i64 0, .slice none 0 0, .slice none 0 0] 78) = wX := ⟨_, rfl⟩
  have A0 := Lib.hid (show CsAns w b (iC 0 0 0 none 0 0 none 0 0) wA from CsAns.start (Keeps.refl w) (by simp) hb hA)
  have HBY := Lib.hid (fun W => dbytes_any (ws := wsH) rfl (by decide) (n := 4) rfl W)
  have HTH := Lib.hid (fun W (k : Keeps wA W) => hH.keeps (A0.out.k.trans k))
  have HTL := Lib.hid (fun W (k : Keeps wA W) => hL.keeps (A0.out.k.trans k))
  have HSZ := Lib.hid hs
  have HLS := Lib.hid hl
  clear hH hL hs hl
  go_enter Tryd.func56, Tryd.ntmps56
  go_wp2
  refine scope_loop (rest := ?rest) 0 (RbJ wA b s) (fun a _ => dsLen (a.tmps.getD 7 undef)) ?hf ?pass ?first
  case hf => rfl
  case first =>
    intro hrest
    have HREST := Lib.hid hrest
    clear hrest
    by_cases h4 : s.size < 4
    · have h4i : (s.size : Int) < 4 := by omega
      have HNO := Lib.hid (show ∀ y, okI y → bytI y ≠ ls s from fun y hy e => by have := byt_len y; rw [e, ← HLS.out] at this; omega)
      clear h4
      go_wp2_with (first | (refine dwp_ldG (g := 3) (l := wsH) (HTH.out _ (Keeps.refl _)) rfl _ rfl rfl ?_) | (go_at_call 49; refine (HBY.out _).mono ?_; rintro _ w1 ⟨rfl, k1⟩; have HA1 := Lib.hid (A0.out.keeps k1); clear k1) | (refine wp_stI (b := b) (off := 0) (A := 0) (P := 0) (O := 0) (a := none) (n := 0) (c := 0) (ae := none) (ne := 0) (ce := 0) (HA1.out.z.there (by decide)) rfl _ _ rfl rfl rfl ?_))
      show bodyPost Tryd.prog Tryd.f56 (RbP w (ls s)) Exit.ret _ _
      have E := HA1.out.ends (iC 0 0 0 none 0 0 none 0 0) rfl
      exact cs_ret2 Tryd.results56 (lvI E.z.r) rfl rfl rfl (RbP.no HNO.out (by decide) E.k)
    · have h4i : ¬ (s.size : Int) < 4 := by omega
      have h4I : (4 : Int) ≤ (s.size : Int) := by omega
      have h4n : 4 ≤ s.size := by omega
      have HRD := Lib.hid (fun W => dread_any (ws := wsH) rfl gn_H rfl (by decide) (S := s) (by show 32 / 8 ≤ s.size; omega) HSZ.out W)
      obtain ⟨c0, c1, c2, c3, rr, hlr⟩ : ∃ a b c d r, ls s = a :: b :: c :: d :: r := by
        have hl := HLS.out
        rcases hx : ls s with _ | ⟨a, _ | ⟨b, _ | ⟨c, _ | ⟨d, r⟩⟩⟩⟩
        all_goals try (rw [hx] at hl; simp only [List.length_nil, List.length_cons] at hl; omega)
        exact ⟨a, b, c, d, r, rfl⟩
      have HLR := Lib.hid hlr
      rw [show rdW wsH (ls s) = rdW wsH (c0 :: c1 :: c2 :: c3 :: rr) by rw [hlr], rdH] at HRD
      have HF := Lib.hid (fun (y : IntD) (hy : okI y) (hby : bytI y = ls s) => byt_first (y := y) hy (hby.trans hlr))
      have b0 := c0.toNat_lt
      have b1 := c1.toNat_lt
      have b2 := c2.toNat_lt
      have b3 := c3.toNat_lt
      obtain ⟨M, hM⟩ : ∃ M, 65536 * c0.toNat + 256 * c1.toNat + c2.toNat = M := ⟨_, rfl⟩
      obtain ⟨N, hN⟩ : ∃ N, c3.toNat = N := ⟨_, rfl⟩
      rw [hM, hN] at HRD
      simp only [hM, hN] at HF
      replace HRD := Lib.hid (fun W => show Calls Tryd.prog 50 #[nV (il wsH), .string s] W fun e w' => e = .returned (.agg #[.int .i64 (M : Int), .int .i64 (N : Int), .int .i64 0, .int .i64 0, .int .i64 0, .int .i64 0, .int .i64 0, .int .i64 0, .int .i64 0]) ∧ Keeps W w' from HRD.out W)
      obtain ⟨V, hV⟩ : ∃ V, s.extract 4 s.size = V := ⟨_, rfl⟩
      have HVL := Lib.hid (show ls V = rr by rw [← hV, ds_from, ls_st, hlr]; rfl)
      have HVZ := Lib.hid (show V.size ≤ 1000000 by rw [← hV, ByteArray.size_extract]; have := HSZ.out; omega)
      have HTK := Lib.hid (fun W (k : Keeps wA W) => etl_any V W HVZ.out (HTL.out W k))
      rw [HVL.out] at HTK
      have hless := tkL_less (l := rr)
      obtain ⟨Q, hQ⟩ : ∃ Q, tkL rr = Q := ⟨_, rfl⟩
      rw [hQ] at HTK hless
      simp only [hQ] at HF
      obtain ⟨m, R, G⟩ := Q
      unfold ElP at HTK
      obtain ⟨SR, hSR⟩ : ∃ S, st R = S := ⟨_, rfl⟩
      obtain ⟨K, hK⟩ : ∃ K, m.length = K := ⟨_, rfl⟩
      simp only [hSR, hK] at HTK
      have HSR := Lib.hid hSR
      clear h4 hlr b0 b1 b2 b3 hM hN hQ hSR
      by_cases hG : G = 0
      · subst hG
        have HLE := Lib.hid (show R.length + 6 ≤ (ls s).length by have := hless rfl; rw [HLR.out]; have h5 : R.length + 2 ≤ rr.length := this; simp only [List.length_cons]; omega)
        have HKK := Lib.hid hK
        clear hless hK
        go_wp2_with (first | (refine dwp_ldG (g := 3) (l := wsH) (HTH.out _ (Keeps.refl _)) rfl _ rfl rfl ?_) | (go_at_call 49; refine (HBY.out _).mono ?_; rintro _ w1 ⟨rfl, k1⟩; have HK1 := Lib.hid k1; clear k1) | (refine dwp_ldG (g := 3) (l := wsH) (HTH.out _ HK1.out) rfl _ rfl rfl ?_) | (go_at_call 50; refine (HRD.out _).mono ?_; rintro _ w2 ⟨rfl, k2⟩; have HK2 := Lib.hid (HK1.out.trans k2); obtain ⟨Y, hY⟩ : ∃ Y, w2.heap.size = Y := ⟨_, rfl⟩; obtain ⟨wC, hC⟩ : ∃ W, w2.alloc (.cells #[.int .i64 0, .int .i64 0, .int .i64 0, .int .i64 0, .int .i64 0, .int .i64 0, .int .i64 0, .int .i64 0, .int .i64 0] 111) = W := ⟨_, rfl⟩; have HC := Lib.hid (show CsAns w2 Y (nC [0, 0, 0, 0, 0, 0, 0, 0, 0]) wC from ⟨by rw [← hY, ← hC]; exact CsAt.made w2 #[.int .i64 0, .int .i64 0, .int .i64 0, .int .i64 0, .int .i64 0, .int .i64 0, .int .i64 0, .int .i64 0, .int .i64 0] _ (by simp), by rw [← hC]; exact (Keeps.refl w2).alloc _, by omega⟩); clear k2) | (refine wp_stN (b := Y) HC.out.z rfl (nC [(M : Int), (N : Int), 0, 0, 0, 0, 0, 0, 0]) rfl (nC_one _) rfl _ _ rfl rfl rfl ?_; obtain ⟨wD, hD⟩ : ∃ W, wC.setCells Y 0 (nC [(M : Int), (N : Int), 0, 0, 0, 0, 0, 0, 0]) = W := ⟨_, rfl⟩; have hcD := HC.out.ends (nC [(M : Int), (N : Int), 0, 0, 0, 0, 0, 0, 0]) rfl; rw [hD] at hcD ⊢; have HCD := Lib.hid hcD.z; have HKD := Lib.hid (HK2.out.trans hcD.k); clear hcD hD hC hY) | (go_at_call 60; refine (HTK.out _ HKD.out).mono ?_; rintro _ w4 ⟨a4, c4, rfl, hi4, hc4, hz4, hb4, k4⟩; have HI4 := Lib.hid hi4; have HZ4 := Lib.hid hz4; have HB4 := Lib.hid hb4; have HK4 := Lib.hid (HKD.out.trans k4); have z0 := (HCD.out.keeps k4).cell 0 rfl; have z1 := (HCD.out.keeps k4).cell 1 rfl; clear hi4 hc4 hz4 hb4 k4))
        go_step3
        rename_i hKK
        refine hKK _ _ (HREST.out _ _ ⟨w4, w4.heap.size, Y, (M : Int), (N : Int), m, a4, K, c4, R, [], [], none, 0, 0, ⟨fun y hy hby => ?_, ?_, rfl, ⟨CsAt.made w4 #[.int .i64 0, .int .i64 (M : Int), .int .i64 (N : Int), .slice a4 K c4, .slice none 0 0] _ (by simp), (Keeps.refl w4).alloc _, Nat.le_refl _⟩, OwnE.nil _ _, rfl, fun i h => absurd h (Nat.not_lt_zero _), fun e he => by cases he⟩, ?_, HZ4.out, fun x hx => ?_, HK4.out, rfl, rfl, ?_⟩)
        · obtain ⟨e1, e2, e3⟩ := HF.out y hy hby
          simp only [Prod.mk.injEq, and_true] at e3
          exact ⟨e1, e2, e3.1.symm, y.ents, rfl, e3.2.symm⟩
        · have := HLE.out
          simp only [List.length_nil]; omega
        · rw [← HKK.out]; rw [← HKK.out] at HI4; exact HI4.out
        · have h1 := HB4.out x hx
          have h2 := Below.size HKD.out
          have h3 := A0.out.z.old
          omega
        · rw [HSR.out]; rfl
      · have HNO := Lib.hid (show ∀ y, okI y → bytI y ≠ ls s from fun y hy e => hG (by
          have := (HF.out y hy e).2.2
          simp only [Prod.mk.injEq] at this
          exact this.2.2))
        have hne : (G != 0) = true := bne_iff_ne.2 hG
        have HGN := Lib.hid hG
        clear hless hK hG
        go_wp2_with (first | (refine dwp_ldG (g := 3) (l := wsH) (HTH.out _ (Keeps.refl _)) rfl _ rfl rfl ?_) | (go_at_call 49; refine (HBY.out _).mono ?_; rintro _ w1 ⟨rfl, k1⟩; have HK1 := Lib.hid k1; clear k1) | (refine dwp_ldG (g := 3) (l := wsH) (HTH.out _ HK1.out) rfl _ rfl rfl ?_) | (go_at_call 50; refine (HRD.out _).mono ?_; rintro _ w2 ⟨rfl, k2⟩; have HK2 := Lib.hid (HK1.out.trans k2); obtain ⟨Y, hY⟩ : ∃ Y, w2.heap.size = Y := ⟨_, rfl⟩; obtain ⟨wC, hC⟩ : ∃ W, w2.alloc (.cells #[.int .i64 0, .int .i64 0, .int .i64 0, .int .i64 0, .int .i64 0, .int .i64 0, .int .i64 0, .int .i64 0, .int .i64 0] 111) = W := ⟨_, rfl⟩; have HC := Lib.hid (show CsAns w2 Y (nC [0, 0, 0, 0, 0, 0, 0, 0, 0]) wC from ⟨by rw [← hY, ← hC]; exact CsAt.made w2 #[.int .i64 0, .int .i64 0, .int .i64 0, .int .i64 0, .int .i64 0, .int .i64 0, .int .i64 0, .int .i64 0, .int .i64 0] _ (by simp), by rw [← hC]; exact (Keeps.refl w2).alloc _, by omega⟩); clear k2) | (refine wp_stN (b := Y) HC.out.z rfl (nC [(M : Int), (N : Int), 0, 0, 0, 0, 0, 0, 0]) rfl (nC_one _) rfl _ _ rfl rfl rfl ?_; obtain ⟨wD, hD⟩ : ∃ W, wC.setCells Y 0 (nC [(M : Int), (N : Int), 0, 0, 0, 0, 0, 0, 0]) = W := ⟨_, rfl⟩; have hcD := HC.out.ends (nC [(M : Int), (N : Int), 0, 0, 0, 0, 0, 0, 0]) rfl; rw [hD] at hcD ⊢; have HKD := Lib.hid (HK2.out.trans hcD.k); clear hcD hD hC hY) | (go_at_call 60; refine (HTK.out _ HKD.out).mono ?_; rintro _ w4 ⟨a4, c4, rfl, hi4, hc4, hz4, hb4, k4⟩; have HA4 := Lib.hid (A0.out.keeps (HKD.out.trans k4)); clear hi4 hc4 hz4 hb4 k4) | (refine wp_stI (b := b) (off := 0) (A := 0) (P := 0) (O := 0) (a := none) (n := 0) (c := 0) (ae := none) (ne := 0) (ce := 0) (HA4.out.z.there (by decide)) rfl _ _ rfl rfl rfl ?_))
        show bodyPost Tryd.prog Tryd.f56 (RbP w (ls s)) Exit.ret _ _
        have E := HA4.out.ends (iC 0 0 0 none 0 0 none 0 0) rfl
        exact cs_ret2 Tryd.results56 (lvI E.z.r) rfl rfl rfl (RbP.no HNO.out HGN.out E.k)
  case pass =>
    rintro ac wr ⟨wM, bx, Y, P, O, inf, a, n, c, r, acc, es, ae, ne, ce, hK, hi, hn, ha, hkm, hfs, hfd, hft⟩
    obtain ⟨us, rfl⟩ := frameN 50 [.string s, undef, .pointer (some ⟨b, 0, none⟩), .int .i64 0, .int .i64 4, .pointer (some ⟨Y, 0, none⟩), .slice a n c, .string (st r), .int .i64 0, .pointer (some ⟨bx, 0, none⟩)] hfs hfd hft
    simp only [tailF, List.cons_append, List.nil_append, Nat.reduceAdd]
    have hlen := hK.len
    rw [← HLS.out] at hlen
    have HKK := Lib.hid hK
    have HN := Lib.hid hn
    have HI := Lib.hid (hi.keeps hK.box.k)
    have HA := Lib.hid ha
    have HIM := Lib.hid hi
    have HKM := Lib.hid hkm
    have HKR := Lib.hid (hkm.trans hK.box.k)
    have HAR := Lib.hid (A0.out.keeps (hkm.trans hK.box.k))
    have HBB := Lib.hid (show b < bx by have h1 := A0.out.z.old; have h2 := Below.size hkm; have h3 := hK.at'; omega)
    have HAC := Lib.hid (show acc.length ≤ 100000000 by have := HSZ.out; omega)
    clear hfs hfd hft hK hi hn ha hkm
    have hsz := st_size r
    obtain ⟨S, hS⟩ : ∃ S, st r = S := ⟨_, rfl⟩
    have HS := Lib.hid (show ls S = r by rw [← hS, ls_st])
    rw [hS] at hsz
    rw [hS]
    clear hS
    by_cases h0 : r = []
    · subst h0
      have hE2 : S.toList.isEmpty = true := by rw [ls_toList, HS.out]; rfl
      clear hsz hlen
      go_wp2_with (first | (refine wp_ldI (b := bx) (off := 0) HKK.out.box.z.r rfl _ rfl rfl ?_) | (refine wp_stI (b := b) (off := 0) (A := 0) (P := P) (O := O) (a := a) (n := n) (c := c) (ae := ae) (ne := ne) (ce := ce) (HAR.out.z.there (by decide)) rfl _ _ rfl rfl rfl ?_))
      show bodyPost Tryd.prog Tryd.f56 (RbP w (ls s)) Exit.ret _ _
      have E := HAR.out.ends (iC 0 P O a n c ae ne ce) rfl
      exact cs_ret2 Tryd.results56 (lvI E.z.r) rfl rfl rfl (RbP.yes HKK.out HI.out HN.out HA.out HBB.out HAR.out rfl (Nat.le_of_eq hb))
    · have hE2 : S.toList.isEmpty = false := by
        rw [ls_toList, HS.out]
        cases r with
        | nil => exact absurd rfl h0
        | cons _ _ => rfl
      have HTE := Lib.hid (ete_any S wr (by have := HSZ.out; omega) (HTL.out wr HKR.out))
      rw [HS.out] at HTE
      have hless := tkE_less (l := r)
      have hno := HKK.out.no h0
      obtain ⟨Q, hQ⟩ : ∃ Q, tkE r = Q := ⟨_, rfl⟩
      rw [hQ] at HTE hless hno
      obtain ⟨⟨p, q⟩, R2, G⟩ := Q
      unfold EeP at HTE
      obtain ⟨SR, hSR⟩ : ∃ S, st R2 = S := ⟨_, rfl⟩
      simp only [hSR] at HTE
      have HSR := Lib.hid hSR
      by_cases hG : G = 0
      · subst hG
        have HLT := Lib.hid (show SR.size < S.size by rw [← hSR, st_size, hsz]; have := hless rfl; have h5 : R2.length + 4 ≤ r.length := this; omega)
        have HQ := Lib.hid hQ
        have H0 := Lib.hid h0
        have heL : es.length ≤ 100000000 := by rw [HKK.out.ln]; exact HAC.out
        clear hless hno hsz hlen hSR hQ h0
        go_wp2_with (first | (go_at_call 61; refine HTE.out.mono ?_; rintro _ w4 ⟨⟨ta, tn, tc, oa, on', oc⟩, rfl, hp, k4⟩; obtain ⟨i1, i2, z1, z2, b1, b2⟩ := hp rfl; have HK4 := Lib.hid k4; have HI1 := Lib.hid i1; have HI2 := Lib.hid i2; have HZ1 := Lib.hid z1; have HZ2 := Lib.hid z2; have HB1 := Lib.hid b1; have HB2 := Lib.hid b2; obtain ⟨c5, hc5⟩ : ∃ c, w4.heap.size = c := ⟨_, rfl⟩; obtain ⟨w5, hw5⟩ : ∃ W, w4.alloc (.cells #[.slice ta tn tc, .slice oa on' oc] 119) = W := ⟨_, rfl⟩; have HK5 := Lib.hid (show Keeps w4 w5 by rw [← hw5]; exact (Keeps.refl w4).alloc _); have HC5 := Lib.hid (show CsAt c5 (enC ⟨ta, tn, tc, oa, on', oc⟩) w5 by rw [← hc5, ← hw5]; exact CsAt.made w4 #[.slice ta tn tc, .slice oa on' oc] _ (by simp)); have z4 := (HKK.out.box.z.keeps (k4.trans HK5.out)).cell 4 rfl; clear hp k4 i1 i2 z1 z2 b1 b2) | (refine wp_ldEn (b := c5) (off := 0) (s := ⟨ta, tn, tc, oa, on', oc⟩) HC5.out.r rfl _ rfl rfl ?_) | (at_builtin; refine wp_pushE (T := rowEn) rfl _ _ rfl ⟨ta, tn, tc, oa, on', oc⟩ _ rfl w5.heap.size rfl (HKK.out.own.keeps (HK4.out.trans HK5.out)) rfl rfl heL (Nat.le_trans HKK.out.box.z.old (Below.size (HK4.out.trans HK5.out))) _ ?_; intro v7 w7 own7 grow7 at7; obtain ⟨a7, c7, hv7, _, _⟩ := own7.is; obtain ⟨n7, hn7⟩ : ∃ n, (es ++ [(⟨ta, tn, tc, oa, on', oc⟩ : EnR)]).length = n := ⟨_, rfl⟩; rw [hn7] at hv7; subst hv7; have HNX := Lib.hid (HKK.out.next H0.out HQ.out HK4.out HI1.out HI2.out HZ1.out HZ2.out HB1.out HB2.out HK5.out grow7 own7 at7); have h7 := (HKK.out.box7 (HK4.out.trans HK5.out) grow7).z; have y4 := h7.cell 4 rfl; have f4 := h7.fz 4 (show 4 < 5 by decide); clear own7 grow7 at7 h7 hn7 z4))
        go_step3
        exact ⟨rfl, ⟨wM, bx, Y, P, O, inf, a, n, c, R2, acc ++ [(p, q)], es ++ [⟨ta, tn, tc, oa, on', oc⟩], a7, n7, c7, HNX.out, HIM.out, HN.out, HA.out, HKM.out, rfl, rfl, by rw [HSR.out]; rfl⟩, HLT.out⟩
      · have hne : (G != 0) = true := bne_iff_ne.2 hG
        have HNO := Lib.hid (hno hG)
        have HGN := Lib.hid hG
        clear hless hno hsz hlen hSR hQ h0 hG
        go_wp2_with (first | (go_at_call 61; refine HTE.out.mono ?_; rintro _ w4 ⟨⟨ta, tn, tc, oa, on', oc⟩, rfl, hp, k4⟩; have HA4 := Lib.hid (HAR.out.keeps (k4.alloc (.cells #[.slice ta tn tc, .slice oa on' oc] 119))); clear hp k4) | (refine wp_stI (b := b) (off := 0) (A := 0) (P := 0) (O := 0) (a := none) (n := 0) (c := 0) (ae := none) (ne := 0) (ce := 0) (HA4.out.z.there (by decide)) rfl _ _ rfl rfl rfl ?_))
        show bodyPost Tryd.prog Tryd.f56 (RbP w (ls s)) Exit.ret _ _
        have E := HA4.out.ends (iC 0 0 0 none 0 0 none 0 0) rfl
        exact cs_ret2 Tryd.results56 (lvI E.z.r) rfl rfl rfl (RbP.no HNO.out HGN.out E.k)
end Go.Proofs.YtlghkdkaifcliaaDoor
