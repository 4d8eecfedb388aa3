/-
  What Decode of package mpe answers. The memory that was there stays.
-/
import Derived.Test.YtbkodlinfmflkaaMpA
namespace Go.Proofs.Ytbkodlinfmflkaa
open Go.RowKit Gf Tm Sct Mpe
set_option maxRecDepth 100000
theorem chain_no {α : Type} {a1 b1 a3 b3 a4 b4 a6 b6 a7 b7 : Int} {a2 b2 a5 b5 : Bool} {a8 b8 : List UInt8} {r s : α} (h : (a1 == b1 && a2 == b2 && a3 == b3 && a4 == b4 && a5 == b5 && a6 == b6 && a7 == b7 && a8 == b8) = false) :
    (if a1 = b1 then if a2 = b2 then if a3 = b3 then if a4 = b4 then if a5 = b5 then if a6 = b6 then if a7 = b7 then if a8 = b8 then r else s else s else s else s else s else s else s else s) = s := by
  by_cases h1 : a1 = b1
  · by_cases h2 : a2 = b2
    · by_cases h3 : a3 = b3
      · by_cases h4 : a4 = b4
        · by_cases h5 : a5 = b5
          · by_cases h6 : a6 = b6
            · by_cases h7 : a7 = b7
              · by_cases h8 : a8 = b8
                · simp [h1, h2, h3, h4, h5, h6, h7, h8] at h
                · rw [if_pos h1, if_pos h2, if_pos h3, if_pos h4, if_pos h5, if_pos h6, if_pos h7, if_neg h8]
              · rw [if_pos h1, if_pos h2, if_pos h3, if_pos h4, if_pos h5, if_pos h6, if_neg h7]
            · rw [if_pos h1, if_pos h2, if_pos h3, if_pos h4, if_pos h5, if_neg h6]
          · rw [if_pos h1, if_pos h2, if_pos h3, if_pos h4, if_neg h5]
        · rw [if_pos h1, if_pos h2, if_pos h3, if_neg h4]
      · rw [if_pos h1, if_pos h2, if_neg h3]
    · rw [if_pos h1, if_neg h2]
  · rw [if_neg h1]
set_option maxHeartbeats 6400000 in
theorem mpdecode_any (w0 : World) (s : ByteArray) (w : World) (hs : s.size ≤ 1000000) (hk : Keeps w0 w) : Calls Try.prog 17 #[.string s] w (PdcPost w0 (dcP (ls s))) := by
  obtain ⟨b, hbw⟩ : ∃ b, w.heap.size = b := ⟨_, rfl⟩
  obtain ⟨wA, hA⟩ : ∃ wA, w.alloc (.cells #[.int .i64 0, .int .i64 0, .bool false, .bool false, .int .i64 0, .string ⟨#[]⟩] 25) = wA := ⟨_, rfl⟩
  have A0 := Lib.hid (CsAns.start hk (a := zpA) (by simp) hbw hA)
  have HD := Lib.hid (scdec_any wA s wA hs (Keeps.refl wA))
  unfold RdPost at HD
  have HC := Lib.hid (fun p n W => PdcPost.of (w0 := w0) (r := dcP (ls s)) (p := p) (n := n) (W := W))
  obtain ⟨⟨S, e⟩, hd⟩ : ∃ q, dec (ls s) = q := ⟨_, rfl⟩
  simp only [hd] at HD
  clear hk
  by_cases he : e = 0
  · subst he
    have hrd : dcP (ls s) = rdP S := by rw [dcP_rd (by rw [hd]), hd]
    have hb := bytes_dec (l := ls s) (by rw [hd])
    rw [hd] at hb
    simp only at hb
    have hbz : S.body.size ≤ 1000000 := by
      have h1 := bytes_length S
      rw [hb.2, ← ls_size] at h1
      omega
    have HS := Lib.hid (fun W => SecAt.made W S 58)
    by_cases h1 : S.tb = 62
    · have HNE := Lib.hid (good_same h1)
      have HCA := Lib.hid (fun W => mpcarrier_any S.ex S.body W)
      have heg := egS
      by_cases h2 : good S
      · rw [decide_eq_true h2] at HNE
        obtain ⟨ex, hex⟩ : ∃ ex, S.ex = ex := ⟨_, rfl⟩
        obtain ⟨B, hB⟩ : ∃ B, S.body = B := ⟨_, rfl⟩
        obtain rfl : S = ⟨62, false, ex, 0, true, 0, 0, B⟩ := by
          have := sameB_iff.1 HNE.out
          rw [this, hex, hB]; rfl
        clear hex hB HNE
        unfold carr at HCA
        by_cases h3 : B.size < 4
        · have HE := Lib.hid (hrd.trans (rdP_short h1 h2 h3))
          have h3i : (B.size : Int) < 4 := by omega
          clear hb hd hrd h2 hbz h1 h3
          go_enter Try.func17, Try.ntmps17
          go_wp2_with (go_at_call 31; refine HD.out.mono ?_; rintro _ w2 ⟨rfl, k2⟩; have HA3 := Lib.hid (HS.out w2); have A3 := Lib.hid ((A0.out.keeps k2).alloc (.cells #[.int .i64 62, .bool false, .int .i64 ex, .int .i64 0, .bool true, .int .i64 0, .int .i64 0, .string B] 58)); clear k2)
          refine wp_draw (by kernel_rfl) [secV ⟨62, false, ex, 0, true, 0, 0, B⟩, .pointer (some ⟨w2.heap.size, 2, none⟩), .int .i64 ex, .pointer (some ⟨w2.heap.size, 7, none⟩), .string B, secV ⟨62, false, ex, 0, true, 0, 0, B⟩, .bool false, .bool false]
            (fun _ W => Keeps (w2.alloc (.cells #[.int .i64 62, .bool false, .int .i64 ex, .int .i64 0, .bool true, .int .i64 0, .int .i64 0, .string B] 58)) W) rfl (by kernel_rfl) (fin := ?fin2) ?hfin2 ((Keeps.refl _).eqv (Eqv.drew _)) ?each2 ?hend2
          case hfin2 => simp [seqA, dstOf, Act.put]; rfl
          case each2 =>
            refine ⟨?_, ?_, ?_, ?_, ?_, ?_, ?_, ?_, trivial⟩
            all_goals intro X w6 h0 hd hs hw
            all_goals unfold Does
            all_goals obtain ⟨q0, q1, q2, q3, q4, q5, q6, q7, _⟩ := HA3.out.keeps hw
            all_goals simp only at q0 q1 q2 q3 q4 q5 q6 q7
            all_goals go_simp
            all_goals first | exact fun L' k => hw | ((with_reducible refine (HCA.out w6).mono ?_); rintro e w8 ⟨rfl, k8⟩; exact ⟨_, rfl, rfl, fun _ _ => hw.trans k8⟩)
          case hend2 =>
          intro X w6 hL hw
          have A6 := Lib.hid (A3.out.keeps hw)
          have HA6 := Lib.hid (HA3.out.keeps hw)
          have q2 := HA6.out.c2
          have q7 := HA6.out.c7
          simp only at q2 q7
          clear hw hL
          go_wp2_with (first | (refine wp_stP (b := b) (off := 0) zp (A6.out.z.there (by decide)) rfl _ _ rfl rfl rfl ?_))
          have E := A6.out.ends (prC zp) rfl
          exact cs_ret2 Try.results17 (lvP E.z.r) rfl rfl rfl (HC.out _ _ _ HE.out E.k)
        · have HTD := Lib.hid (fun W => tmdecode_any W (B.extract 0 4) W (Keeps.refl W))
          unfold DcPost at HTD
          have e4 : ls (B.extract 0 4) = (ls B).take 4 := by rw [ls_part, List.drop_zero]
          have l4 : 4 ≤ (ls B).length := by rw [← ls_size]; omega
          rw [dcT_ok (by rw [e4, List.length_take]; omega), e4, n4_take _ l4] at HTD
          have e5 : ls (B.extract 4 B.size) = (ls B).drop 4 := by rw [ls_part, List.take_of_length_le (by rw [List.length_drop, ← ls_size]; exact Nat.le_refl _)]
          have hbz2 : B.size ≤ 1000000 := hbz
          have HG := Lib.hid (fun W => dgcheck_any W (B.extract 4 B.size) W (by rw [ls_size, e5, List.length_drop, ← ls_size]; omega) (Keeps.refl W))
          unfold ChPost at HG
          rw [e5] at HG
          have h3i : ¬ (B.size : Int) < 4 := by omega
          have h3j : (4 : Int) ≤ (B.size : Int) := by omega
          obtain ⟨x, hx⟩ : ∃ x, ofN (n4 (ls B)) = x := ⟨_, rfl⟩
          rw [hx] at HTD
          by_cases h4 : Dg.check ((ls B).drop 4) = 0
          · have HE := Lib.hid (hrd.trans (rdP_ok h1 h2 h3 h4))
            have HP := Lib.hid (show pOf ⟨62, false, ex, 0, true, 0, 0, B⟩ = ⟨ex, x, B.extract 4 B.size⟩ from prt_ext rfl hx (by show ls (st _) = _; rw [ls_st, e5]))
            rw [HP.out] at HE
            rw [h4] at HG
            clear hb hd hrd h2 h1 h3 h4 e4 e5 l4 hx
            obtain ⟨x0, x1, x2, x3⟩ := x
            go_enter Try.func17, Try.ntmps17
            go_wp2_with (go_at_call 31; refine HD.out.mono ?_; rintro _ w2 ⟨rfl, k2⟩; have HA3 := Lib.hid (HS.out w2); have A3 := Lib.hid ((A0.out.keeps k2).alloc (.cells #[.int .i64 62, .bool false, .int .i64 ex, .int .i64 0, .bool true, .int .i64 0, .int .i64 0, .string B] 58)); clear k2)
            refine wp_draw (by kernel_rfl) [secV ⟨62, false, ex, 0, true, 0, 0, B⟩, .pointer (some ⟨w2.heap.size, 2, none⟩), .int .i64 ex, .pointer (some ⟨w2.heap.size, 7, none⟩), .string B, secV ⟨62, false, ex, 0, true, 0, 0, B⟩, .bool false, .bool false]
              (fun _ W => Keeps (w2.alloc (.cells #[.int .i64 62, .bool false, .int .i64 ex, .int .i64 0, .bool true, .int .i64 0, .int .i64 0, .string B] 58)) W) rfl (by kernel_rfl) (fin := ?fin7) ?hfin7 ((Keeps.refl _).eqv (Eqv.drew _)) ?each7 ?hend7
            case hfin7 => simp [seqA, dstOf, Act.put]; rfl
            case each7 =>
              refine ⟨?_, ?_, ?_, ?_, ?_, ?_, ?_, ?_, trivial⟩
              all_goals intro X w6 h0 hd hs hw
              all_goals unfold Does
              all_goals obtain ⟨q0, q1, q2, q3, q4, q5, q6, q7, _⟩ := HA3.out.keeps hw
              all_goals simp only at q0 q1 q2 q3 q4 q5 q6 q7
              all_goals go_simp
              all_goals first | exact fun L' k => hw | ((with_reducible refine (HCA.out w6).mono ?_); rintro e w8 ⟨rfl, k8⟩; exact ⟨_, rfl, rfl, fun _ _ => hw.trans k8⟩)
            case hend7 =>
            intro X w6 hL hw
            have A6 := Lib.hid (A3.out.keeps hw)
            have HA6 := Lib.hid (HA3.out.keeps hw)
            have q2 := HA6.out.c2
            have q7 := HA6.out.c7
            simp only at q2 q7
            clear hw hL
            go_wp2_with (first | (go_at_call 32; refine (HTD.out _).mono ?_; rintro _ w7 ⟨rfl, k7⟩; have HA7 := Lib.hid ((HA6.out.keeps k7).keeps ((Keeps.refl w7).alloc (.cells #[.int .i64 x0, .bool x1, .bool x2, .int .i64 x3] 23))); have A7 := Lib.hid ((A6.out.keeps k7).alloc (.cells #[.int .i64 x0, .bool x1, .bool x2, .int .i64 x3] 23)); have HT7 := Lib.hid (TmAt.made w7 ⟨x0, x1, x2, x3⟩ 23); have q27 := HA7.out.c2; have q77 := HA7.out.c7; simp only at q27 q77; clear k7) | (go_at_call 28; refine (HG.out _).mono ?_; rintro _ w8 ⟨rfl, k8⟩; have A8 := Lib.hid (A7.out.keeps k8); have q28 := (HA7.out.keeps k8).c2; obtain ⟨t0, t1, t2, t3, _⟩ := HT7.out.keeps k8; simp only at q28 t0 t1 t2 t3; clear k8) | (refine wp_stP (b := b) (off := 0) ⟨ex, ⟨x0, x1, x2, x3⟩, B.extract 4 B.size⟩ (A8.out.z.there (by decide)) rfl _ _ rfl rfl rfl ?_))
            have E := A8.out.ends (prC ⟨ex, ⟨x0, x1, x2, x3⟩, B.extract 4 B.size⟩) rfl
            exact cs_ret2 Try.results17 (lvP E.z.r) rfl rfl rfl (HC.out _ _ _ HE.out E.k)
          · have HE := Lib.hid (hrd.trans (rdP_bad h1 h2 h3 h4))
            obtain ⟨n, hn⟩ : ∃ n, Dg.check ((ls B).drop 4) = n := ⟨_, rfl⟩
            rw [hn] at HE h4
            simp only [hn] at HG
            have h4b : (n != 0) = true := by simpa using h4
            clear hn
            clear hb hd hrd h2 h1 h3 h4 e4 e5 l4 hx
            obtain ⟨x0, x1, x2, x3⟩ := x
            go_enter Try.func17, Try.ntmps17
            go_wp2_with (go_at_call 31; refine HD.out.mono ?_; rintro _ w2 ⟨rfl, k2⟩; have HA3 := Lib.hid (HS.out w2); have A3 := Lib.hid ((A0.out.keeps k2).alloc (.cells #[.int .i64 62, .bool false, .int .i64 ex, .int .i64 0, .bool true, .int .i64 0, .int .i64 0, .string B] 58)); clear k2)
            refine wp_draw (by kernel_rfl) [secV ⟨62, false, ex, 0, true, 0, 0, B⟩, .pointer (some ⟨w2.heap.size, 2, none⟩), .int .i64 ex, .pointer (some ⟨w2.heap.size, 7, none⟩), .string B, secV ⟨62, false, ex, 0, true, 0, 0, B⟩, .bool false, .bool false]
              (fun _ W => Keeps (w2.alloc (.cells #[.int .i64 62, .bool false, .int .i64 ex, .int .i64 0, .bool true, .int .i64 0, .int .i64 0, .string B] 58)) W) rfl (by kernel_rfl) (fin := ?fin12) ?hfin12 ((Keeps.refl _).eqv (Eqv.drew _)) ?each12 ?hend12
            case hfin12 => simp [seqA, dstOf, Act.put]; rfl
            case each12 =>
              refine ⟨?_, ?_, ?_, ?_, ?_, ?_, ?_, ?_, trivial⟩
              all_goals intro X w6 h0 hd hs hw
              all_goals unfold Does
              all_goals obtain ⟨q0, q1, q2, q3, q4, q5, q6, q7, _⟩ := HA3.out.keeps hw
              all_goals simp only at q0 q1 q2 q3 q4 q5 q6 q7
              all_goals go_simp
              all_goals first | exact fun L' k => hw | ((with_reducible refine (HCA.out w6).mono ?_); rintro e w8 ⟨rfl, k8⟩; exact ⟨_, rfl, rfl, fun _ _ => hw.trans k8⟩)
            case hend12 =>
            intro X w6 hL hw
            have A6 := Lib.hid (A3.out.keeps hw)
            have HA6 := Lib.hid (HA3.out.keeps hw)
            have q2 := HA6.out.c2
            have q7 := HA6.out.c7
            simp only at q2 q7
            clear hw hL
            go_wp2_with (first | (go_at_call 32; refine (HTD.out _).mono ?_; rintro _ w7 ⟨rfl, k7⟩; have HA7 := Lib.hid ((HA6.out.keeps k7).keeps ((Keeps.refl w7).alloc (.cells #[.int .i64 x0, .bool x1, .bool x2, .int .i64 x3] 23))); have A7 := Lib.hid ((A6.out.keeps k7).alloc (.cells #[.int .i64 x0, .bool x1, .bool x2, .int .i64 x3] 23)); have HT7 := Lib.hid (TmAt.made w7 ⟨x0, x1, x2, x3⟩ 23); have q27 := HA7.out.c2; have q77 := HA7.out.c7; simp only at q27 q77; clear k7) | (go_at_call 28; refine (HG.out _).mono ?_; rintro _ w8 ⟨rfl, k8⟩; have A8 := Lib.hid (A7.out.keeps k8); have q28 := (HA7.out.keeps k8).c2; obtain ⟨t0, t1, t2, t3, _⟩ := HT7.out.keeps k8; simp only at q28 t0 t1 t2 t3; clear k8) | (refine wp_stP (b := b) (off := 0) zp (A8.out.z.there (by decide)) rfl _ _ rfl rfl rfl ?_))
            have E := A8.out.ends (prC zp) rfl
            exact cs_ret2 Try.results17 (lvP E.z.r) rfl rfl rfl (HC.out _ _ _ HE.out E.k)
      · have HE := Lib.hid (hrd.trans (rdP_form h1 h2))
        rw [decide_eq_false h2] at HNE
        obtain ⟨c, hc⟩ : ∃ c, carr S.ex S.body = c := ⟨_, rfl⟩
        rw [hc] at HNE HCA
        clear hb hd hrd h2 hbz hc
        obtain ⟨tb, pv, ex, ver, nw, num, la, B⟩ := S
        simp only at h1 HCA HS
        subst h1
        go_enter Try.func17, Try.ntmps17
        go_wp2_with (go_at_call 31; refine HD.out.mono ?_; rintro _ w2 ⟨rfl, k2⟩; have HA3 := Lib.hid (HS.out w2); have A3 := Lib.hid ((A0.out.keeps k2).alloc (.cells #[.int .i64 62, .bool pv, .int .i64 ex, .int .i64 ver, .bool nw, .int .i64 num, .int .i64 la, .string B] 58)); clear k2)
        refine wp_draw (by kernel_rfl) [secV ⟨62, pv, ex, ver, nw, num, la, B⟩, .pointer (some ⟨w2.heap.size, 2, none⟩), .int .i64 ex, .pointer (some ⟨w2.heap.size, 7, none⟩), .string B, secV c, .bool true, .bool true]
          (fun _ W => Keeps (w2.alloc (.cells #[.int .i64 62, .bool pv, .int .i64 ex, .int .i64 ver, .bool nw, .int .i64 num, .int .i64 la, .string B] 58)) W) rfl (by kernel_rfl) (fin := ?fin13) ?hfin13 ((Keeps.refl _).eqv (Eqv.drew _)) ?each13 ?hend13
        case hfin13 => simp [seqA, dstOf, Act.put]; rfl
        case each13 =>
          refine ⟨?_, ?_, ?_, ?_, ?_, ?_, ?_, ?_, trivial⟩
          all_goals intro X w6 h0 hd hs hw
          all_goals unfold Does
          all_goals obtain ⟨q0, q1, q2, q3, q4, q5, q6, q7, _⟩ := HA3.out.keeps hw
          all_goals simp only at q0 q1 q2 q3 q4 q5 q6 q7
          all_goals go_simp
          all_goals first | exact fun L' k => hw | ((with_reducible refine (HCA.out w6).mono ?_); rintro e w8 ⟨rfl, k8⟩; exact ⟨_, rfl, rfl, fun _ _ => hw.trans k8⟩) | (rw [chain_no HNE.out]; exact ⟨rfl, fun L' k => hw⟩)
        case hend13 =>
        intro X w6 hL hw
        have A6 := Lib.hid (A3.out.keeps hw)
        clear hw hL
        go_wp2_with (first | (refine wp_stP (b := b) (off := 0) zp (A6.out.z.there (by decide)) rfl _ _ rfl rfl rfl ?_))
        have E := A6.out.ends (prC zp) rfl
        exact cs_ret2 Try.results17 (lvP E.z.r) rfl rfl rfl (HC.out _ _ _ HE.out E.k)
    · have HE := Lib.hid (hrd.trans (rdP_kind h1))
      have htb : (S.tb != 62) = true := by simpa using h1
      obtain ⟨tb, pv, ex, ver, nw, num, la, B⟩ := S
      simp only at htb
      clear hb hd hrd h1 HS hbz
      go_enter Try.func17, Try.ntmps17
      go_wp2_with (first | (go_at_call 31; refine HD.out.mono ?_; rintro _ w2 ⟨rfl, k2⟩; have A2 := Lib.hid ((A0.out.keeps k2).alloc (.cells #[.int .i64 tb, .bool pv, .int .i64 ex, .int .i64 ver, .bool nw, .int .i64 num, .int .i64 la, .string B] 58)); clear k2) | (refine wp_stP (b := b) (off := 0) zp (A2.out.z.there (by decide)) rfl _ _ rfl rfl rfl ?_))
      have E := A2.out.ends (prC zp) rfl
      exact cs_ret2 Try.results17 (lvP E.z.r) rfl rfl rfl (HC.out _ _ _ HE.out E.k)
  · have HE := Lib.hid (show dcP (ls s) = (zp, e) by rw [dcP_bad (by rw [hd]; exact he), hd])
    have hrb : (e != 0) = true := by simpa using he
    obtain ⟨tb, pv, ex, ver, nw, num, la, B⟩ := S
    clear hd
    go_enter Try.func17, Try.ntmps17
    go_wp2_with (first | (go_at_call 31; refine HD.out.mono ?_; rintro _ w2 ⟨rfl, k2⟩; have A2 := Lib.hid ((A0.out.keeps k2).alloc (.cells #[.int .i64 tb, .bool pv, .int .i64 ex, .int .i64 ver, .bool nw, .int .i64 num, .int .i64 la, .string B] 58)); clear k2) | (refine wp_stP (b := b) (off := 0) zp (A2.out.z.there (by decide)) rfl _ _ rfl rfl rfl ?_))
    have E := A2.out.ends (prC zp) rfl
    exact cs_ret2 Try.results17 (lvP E.z.r) rfl rfl rfl (HC.out _ _ _ HE.out E.k)
end Go.Proofs.Ytbkodlinfmflkaa
