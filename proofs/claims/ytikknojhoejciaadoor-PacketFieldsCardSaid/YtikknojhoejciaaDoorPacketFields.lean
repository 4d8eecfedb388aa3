/-
  For any packet PacketFields returns true: what the body is does not turn the fields, and a body that is cut by one byte stands behind an adaptation that is one byte longer; nothing that was there is changed. The table of widths of package packet starts as the program lays it.
-/
import Derived.SevenTiedAt
import Derived.Test.YtikknojhoejciaaDoorRows
import Derived.Test.YtikknojhoejciaaDoorCards
import Derived.Test.YtikknojhoejciaaDoorTie
import Derived.Test.YtikknojhoejciaaDoorPkLaid
import Derived.Test.YtikknojhoejciaaDoorPkLaw
namespace Go.Proofs.YtikknojhoejciaaDoor.packetFields
open Go.ChangeShapes Go.WideShapes Go.ChangeAt Go.RowKit Gf Pk
set_option maxRecDepth 100000
open Go.ChangeMaps (open_string shut_string)
set_option linter.unusedVariables false
set_option maxHeartbeats 12800000 in
theorem walk (p : Pkt) (w : World) (hW : Wd w) :
    Calls Tryd.prog 8 #[pkV p] w fun e w' => e = .returned (.bool true) ∧ Below w.heap.size w w' := by
  obtain ⟨pid, start, count, bad, body⟩ := p
  obtain ⟨b, hb⟩ : ∃ b, w.heap.size = b := ⟨_, rfl⟩
  obtain ⟨wA, hA⟩ : ∃ wX, w.alloc (.cells #[.int .i64 pid, .bool start, .int .i64 count, .bool bad, .string body] 23) = wX := ⟨_, rfl⟩
  have HA := Lib.hid (show CsAt b (pkC ⟨pid, start, count, bad, body⟩) wA by rw [← hb, ← hA]; exact CsAt.made w #[.int .i64 pid, .bool start, .int .i64 count, .bool bad, .string body] _ (by simp))
  have HK := Lib.hid (show Keeps w wA by rw [← hA]; exact (Keeps.refl w).alloc _)
  have HW := Lib.hid (fun W (q : Keeps w W) => awake14_any W W (Keeps.refl W) (hW.keeps q))
  have HPL := Lib.hid (fun W => pkplain_any ⟨pid, start, count, bad, body⟩ W)
  have HRC := Lib.hid (fun W => rpkcheck_any W ⟨pid, start, count, bad, body⟩ W (Keeps.refl W))
  unfold PkkPost at HRC
  by_cases hc : ckP ⟨pid, start, count, bad, body⟩ = 0
  · rw [hc] at HRC
    by_cases h0 : body.size = 0
    · have ht : body.toList = [] := by rw [ls_toList]; exact List.length_eq_zero_iff.1 (by rw [← ls_size]; exact h0)
      clear hc h0
      go_enter Tryd.func8, Tryd.ntmps8
      go_wp2_with (first | (refine wp_ldP (b := b) (off := 0) HA.out.r rfl _ rfl rfl ?_) | (go_at_call 11; refine (HPL.out _).mono ?_; rintro _ w1 ⟨rfl, k1⟩; have HA := Lib.hid (HA.out.keeps k1); have HK := Lib.hid (HK.out.trans k1); clear k1) | (go_at_call 10; refine (HRC.out _).mono ?_; rintro _ w2 ⟨rfl, k2⟩; have HA := Lib.hid (HA.out.keeps k2); have HK := Lib.hid (HK.out.trans k2); clear k2; have c4 : w2.cell? ⟨b, 4, none⟩ = some (.string body) := HA.out.cell 4 rfl) | (go_at_call 9; refine (HW.out _ (by first | exact HK.out | exact HK.out.alloc _ | exact (HK.out.alloc _).alloc _)).mono ?_; rintro _ w9 ⟨rfl, k9⟩; have HK := Lib.hid (HK.out.trans k9); clear k9))
      go_ret
      exact ⟨rfl, HK.out⟩
    have ht : (body.toList == []) = false := by
      rw [beq_eq_false_iff_ne, ls_toList]; intro e
      have h3 := ls_size body; rw [e] at h3
      exact h0 h3
    obtain ⟨body2, hb2⟩ : ∃ x, body.extract 1 body.size = x := ⟨_, rfl⟩
    have hl2 : ls body2 = (ls body).drop 1 := by rw [← hb2, pk_drop, ls_st]
    have hzb := (ckP_good hc).2
    obtain ⟨d1, d2, d3, d4, d5, d6⟩ := cut_one (p := ⟨pid, start, count, bad, body⟩) (q := ⟨pid, start, count, bad, body2⟩) hc (by show 0 < body.size; omega) rfl rfl rfl rfl hl2
    have hq1 := ecP_ok hc
    have hq2 := ecP_ok d1
    obtain ⟨g1, g2⟩ := dc_bts d1
    have hz1 := bts_length hzb
    have hz2 := bts_length (ckP_good d1).2
    simp only at hzb d4 d5 d6
    have HE1 := Lib.hid (fun W (q : Keeps w W) => pkencode_any ⟨pid, start, count, bad, body⟩ W (hW.keeps q) (by show body.size ≤ 1000000; omega))
    have HE2 := Lib.hid (fun W (q : Keeps w W) => pkencode_any ⟨pid, start, count, bad, body2⟩ W (hW.keeps q) (by show body2.size ≤ 1000000; rw [ls_size, hl2, List.length_drop, ← ls_size]; omega))
    rw [hq1] at HE1
    rw [hq2] at HE2
    obtain ⟨S, hS⟩ : ∃ S, st (bts ⟨pid, start, count, bad, body⟩) = S := ⟨_, rfl⟩
    obtain ⟨T, hT⟩ : ∃ S, st (bts ⟨pid, start, count, bad, body2⟩) = S := ⟨_, rfl⟩
    have hS1 : ls S = bts ⟨pid, start, count, bad, body⟩ := by rw [← hS, ls_st]
    have hT1 : ls T = bts ⟨pid, start, count, bad, body2⟩ := by rw [← hT, ls_st]
    have hSz : S.size = 188 := by rw [ls_size, hS1]; exact hz1
    have hTz : T.size = 188 := by rw [ls_size, hT1]; exact hz2
    simp only [hS] at HE1
    simp only [hT] at HE2
    have HD := Lib.hid (fun W (q : Keeps w W) => pkdecode_any T W (hW.keeps q) (by omega))
    rw [hT1, dc_ok g1, g2] at HD
    have hne := fun W => neP ⟨pid, start, count, bad, body2⟩ ⟨pid, start, count, bad, body2⟩ W
    rw [sameP_self] at hne
    have heg := egP
    rw [← hS1, ← hT1] at d2 d3 d6
    rw [← hS1] at d4
    rw [← hT1] at d5
    have x1 : S.extract 0 3 = st ((ls S).take 3) := pk_take S 0 3
    have x2 : T.extract 0 3 = st ((ls S).take 3) := by rw [d2]; exact pk_take T 0 3
    obtain ⟨A3, hA3⟩ : ∃ A, st ((ls S).take 3) = A := ⟨_, rfl⟩
    rw [hA3] at x1 x2
    have x3 : S.extract (189 - body.size) 188 = body2 := by rw [← hSz, pk_drop, d4]; exact st_ls body2
    have x4 : T.extract (189 - body.size) 188 = body2 := by rw [← hTz, pk_drop, d5]; exact st_ls body2
    have z3 : 3 < S.size := by omega
    have z4 : 4 < S.size := by omega
    have y3 : 3 < T.size := by omega
    have y4 : 4 < T.size := by omega
    have s3 := ls_get S 3 z3
    have s4 := ls_get S 4 z4
    have t3 := ls_get T 3 y3
    have t4 := ls_get T 4 y4
    obtain ⟨u3, hu3⟩ : ∃ x, cf (ls S) 3 = x := ⟨_, rfl⟩
    obtain ⟨u4, hu4⟩ : ∃ x, cf (ls S) 4 = x := ⟨_, rfl⟩
    obtain ⟨v3, hv3⟩ : ∃ x, cf (ls T) 3 = x := ⟨_, rfl⟩
    obtain ⟨v4, hv4⟩ : ∃ x, cf (ls T) 4 = x := ⟨_, rfl⟩
    rw [hu3] at s3 d3
    rw [hu4] at s4 d6
    rw [hv3] at t3 d3
    rw [hv4] at t4 d6
    obtain ⟨m, hm⟩ : ∃ m : Int, (u3.toNat : Int) % 16 = m := ⟨_, rfl⟩
    have hb3 := u8_bd u3
    have hb4 := u8_bd u4
    have hc3 := u8_bd v3
    have hc4 := u8_bd v4
    have e1 : (u3.toNat : Int).tmod 16 = m := by rw [Int.tmod_eq_emod_of_nonneg (by omega)]; exact hm
    have e2 : (v3.toNat : Int).tmod 16 = m := by rw [Int.tmod_eq_emod_of_nonneg (by omega)]; omega
    have hm1 : 0 ≤ m := by omega
    have hm2 : m ≤ 15 := by omega
    have wrm : IntKind.u8.wrap m = m := by simp [IntKind.wrap, IntKind.bits, IntKind.signed]; omega
    have wr4 := wrapI (a := (u4.toNat : Int)) (by omega) (by omega)
    have wr5 := wrapI (a := (v4.toNat : Int)) (by omega) (by omega)
    have wr6 := wrapI (a := (u4.toNat : Int) + 1) (by omega) (by omega)
    obtain ⟨n, hn⟩ : ∃ n : Int, (body.size : Int) = n := ⟨_, rfl⟩
    have hn1 : 1 ≤ n := by omega
    have hn2 : n ≤ 184 := by omega
    obtain ⟨d, hd⟩ : ∃ d : Int, 189 - n = d := ⟨_, rfl⟩
    have wr7 := wrapI (a := d) (by omega) (by omega)
    have hdn : d.toNat = 189 - body.size := by omega
    have hd1 : 0 ≤ d := by omega
    have hd2 : d ≤ 188 := by omega
    have hb1i : (1 : Int) ≤ (body.size : Int) := by omega
    have HN := Lib.hid hn
    have HDN := Lib.hid hd
    have HD6 := Lib.hid d6
    have c4 := HA.out.cell 4 rfl
    rw [← hdn] at x3 x4
    clear hc h0 hl2 hzb hq1 hq2 g1 g2 hz1 hz2 hS hT hS1 hT1 hA3 hu3 hu4 hv3 hv4 d1 d2 d3 d4 d5 d6 hdn hm
    by_cases hn4 : n = 184
    · subst hn4
      obtain rfl : d = 5 := by have := HDN.out; omega
      have x3 : S.extract 5 188 = body2 := x3
      have x4 : T.extract 5 188 = body2 := x4
      have wr7 : IntKind.i64.wrap 5 = 5 := by decide
      go_enter Tryd.func8, Tryd.ntmps8
      go_wp2_with (first | (refine wp_ldP (b := b) (off := 0) HA.out.r rfl _ rfl rfl ?_) | (go_at_call 11; refine (HPL.out _).mono ?_; rintro _ w1 ⟨rfl, k1⟩; have HA := Lib.hid (HA.out.keeps k1); have HK := Lib.hid (HK.out.trans k1); clear k1) | (go_at_call 10; refine (HRC.out _).mono ?_; rintro _ w2 ⟨rfl, k2⟩; have HA := Lib.hid (HA.out.keeps k2); have HK := Lib.hid (HK.out.trans k2); clear k2; have c4 : w2.cell? ⟨b, 4, none⟩ = some (.string body) := HA.out.cell 4 rfl; have c4a : (w2.alloc (.cells #[.int .i64 pid, .bool start, .int .i64 count, .bool bad, .string body] 23)).cell? ⟨b, 4, none⟩ = some (.string body) := (HA.out.keeps ((Keeps.refl w2).alloc (.cells #[.int .i64 pid, .bool start, .int .i64 count, .bool bad, .string body] 23))).cell 4 rfl) | (refine wp_ldP (b := b) (off := 0) (HA.out.keeps ((Keeps.refl w2).alloc (.cells #[.int .i64 pid, .bool start, .int .i64 count, .bool bad, .string body2] 23))).r rfl _ rfl rfl ?_) | (go_at_call 12; (with_reducible refine (HE1.out _ (by first | exact HK.out | exact HK.out.alloc _ | exact (HK.out.alloc _).alloc _)).mono ?_); rintro _ w3 ⟨rfl, k3⟩; have HA := Lib.hid ((HA.out.keeps ((Keeps.refl w2).alloc (.cells #[.int .i64 pid, .bool start, .int .i64 count, .bool bad, .string body2] 23))).keeps k3); have HQ := Lib.hid (show CsAt w2.heap.size (pkC ⟨pid, start, count, bad, body2⟩) w3 from (CsAt.made w2 #[.int .i64 pid, .bool start, .int .i64 count, .bool bad, .string body2] 23 (by simp)).keeps k3); have HK := Lib.hid ((HK.out.alloc (.cells #[.int .i64 pid, .bool start, .int .i64 count, .bool bad, .string body2] 23)).trans k3); clear k3) | (refine wp_ldP (b := w2.heap.size) (off := 0) HQ.out.r rfl _ rfl rfl ?_) | (go_at_call 12; (with_reducible refine (HE2.out _ (by first | exact HK.out | exact HK.out.alloc _ | exact (HK.out.alloc _).alloc _)).mono ?_); rintro _ w4 ⟨rfl, k4⟩; have HA := Lib.hid (HA.out.keeps k4); have HQ := Lib.hid (HQ.out.keeps k4); have HK := Lib.hid (HK.out.trans k4); clear k4) | (go_at_call 17; refine (HD.out _ (by first | exact HK.out | exact HK.out.alloc _ | exact (HK.out.alloc _).alloc _)).mono ?_; rintro _ w5 ⟨rfl, k5⟩; have HA := Lib.hid ((HA.out.keeps k5).keeps ((Keeps.refl w5).alloc (.cells #[.int .i64 pid, .bool start, .int .i64 count, .bool bad, .string body2] 23))); have HQ := Lib.hid ((HQ.out.keeps k5).keeps ((Keeps.refl w5).alloc (.cells #[.int .i64 pid, .bool start, .int .i64 count, .bool bad, .string body2] 23))); have HK := Lib.hid ((HK.out.trans k5).alloc (.cells #[.int .i64 pid, .bool start, .int .i64 count, .bool bad, .string body2] 23)); have y0 : (w5.alloc (.cells #[.int .i64 pid, .bool start, .int .i64 count, .bool bad, .string body2] 23)).cell? ⟨w2.heap.size, 0, none⟩ = some (.int .i64 pid) := HQ.out.cell 0 rfl; have y1 : (w5.alloc (.cells #[.int .i64 pid, .bool start, .int .i64 count, .bool bad, .string body2] 23)).cell? ⟨w2.heap.size, 1, none⟩ = some (.bool start) := HQ.out.cell 1 rfl; have y2 : (w5.alloc (.cells #[.int .i64 pid, .bool start, .int .i64 count, .bool bad, .string body2] 23)).cell? ⟨w2.heap.size, 2, none⟩ = some (.int .i64 count) := HQ.out.cell 2 rfl; have y3 : (w5.alloc (.cells #[.int .i64 pid, .bool start, .int .i64 count, .bool bad, .string body2] 23)).cell? ⟨w2.heap.size, 3, none⟩ = some (.bool bad) := HQ.out.cell 3 rfl; have y4 : (w5.alloc (.cells #[.int .i64 pid, .bool start, .int .i64 count, .bool bad, .string body2] 23)).cell? ⟨w2.heap.size, 4, none⟩ = some (.string body2) := HQ.out.cell 4 rfl; clear k5))
      refine wp_draw (by kernel_rfl) [.string S, .string A3, .string T, .string A3, .bool true, .bool true, .string S, .int .u8 (u3.toNat : Int), .int .u8 m, .string T, .int .u8 (v3.toNat : Int), .int .u8 m, .bool true, .bool true, .bool true, .string S, .pointer (some ⟨b, 4, none⟩), .string body, .int .i64 184, .int .i64 5, .string body2, .string T, .pointer (some ⟨b, 4, none⟩), .string body, .int .i64 184, .int .i64 5, .string body2, .bool true, .bool true, .bool true, .pointer (some ⟨b, 4, none⟩), .string body, .int .i64 184, .bool true, .bool true, undef, undef, undef, undef, undef, undef, undef, undef, .bool true, .bool true, .bool true, .bool true, .bool true, .bool true]
        (fun _ W => Keeps (w5.alloc (.cells #[.int .i64 pid, .bool start, .int .i64 count, .bool bad, .string body2] 23)) W) rfl (by kernel_rfl) (fin := ?fin0) ?hfin0 ((Keeps.refl _).eqv (Eqv.drew _)) ?each0 ?hend0
      case hfin0 => simp [seqA, dstOf, Act.put]; rfl
      case each0 =>
        refine ⟨?_, ?_, ?_, ?_, ?_, ?_, ?_, ?_, ?_, ?_, ?_, ?_, ?_, ?_, ?_, ?_, ?_, ?_, ?_, ?_, ?_, ?_, ?_, ?_, ?_, ?_, ?_, ?_, ?_, ?_, ?_, ?_, ?_, ?_, ?_, ?_, ?_, ?_, ?_, ?_, ?_, ?_, ?_, ?_, ?_, ?_, ?_, ?_, ?_, trivial⟩
        all_goals intro X w6 h0 hd hs hw
        all_goals have c4 : w6.cell? ⟨b, 4, none⟩ = some (.string body) := (HA.out.keeps hw).cell 4 rfl
        all_goals have hnr := HN.out
        all_goals have hdr := HDN.out
        all_goals have i1 : (3 : Int) < (S.size : Int) := by omega
        all_goals have i2 : (3 : Int) < (T.size : Int) := by omega
        all_goals have i3 : (4 : Int) < (S.size : Int) := by omega
        all_goals have i4 : (4 : Int) < (T.size : Int) := by omega
        all_goals first | rw [if_pos (by rfl)] | rw [if_neg (by decide)] | skip
        all_goals try unfold Does
        all_goals go_simp
        all_goals first | exact fun L' k => hw | ((with_reducible refine (HW.out w6 (Keeps.more HK.out hw)).mono ?_); rintro e w8 ⟨rfl, k8⟩; exact ⟨_, rfl, rfl, fun _ _ => hw.trans k8⟩) | exact fun hh => absurd hh (by decide) | decide
      case hend0 =>
      intro X w6 hL hw
      have HK6 := Lib.hid (HK.out.trans hw)
      clear hw hL
      go_wp2
      go_ret
      exact ⟨rfl, HK6.out⟩
    · have hnb : (n == 184) = false := by rw [beq_eq_false_iff_ne]; exact hn4
      have hv : (v4.toNat : Int) = (u4.toNat : Int) + 1 := by have := HD6.out (by have := HN.out; omega); omega
      go_enter Tryd.func8, Tryd.ntmps8
      go_wp2_with (first | (refine wp_ldP (b := b) (off := 0) HA.out.r rfl _ rfl rfl ?_) | (go_at_call 11; refine (HPL.out _).mono ?_; rintro _ w1 ⟨rfl, k1⟩; have HA := Lib.hid (HA.out.keeps k1); have HK := Lib.hid (HK.out.trans k1); clear k1) | (go_at_call 10; refine (HRC.out _).mono ?_; rintro _ w2 ⟨rfl, k2⟩; have HA := Lib.hid (HA.out.keeps k2); have HK := Lib.hid (HK.out.trans k2); clear k2; have c4 : w2.cell? ⟨b, 4, none⟩ = some (.string body) := HA.out.cell 4 rfl; have c4a : (w2.alloc (.cells #[.int .i64 pid, .bool start, .int .i64 count, .bool bad, .string body] 23)).cell? ⟨b, 4, none⟩ = some (.string body) := (HA.out.keeps ((Keeps.refl w2).alloc (.cells #[.int .i64 pid, .bool start, .int .i64 count, .bool bad, .string body] 23))).cell 4 rfl) | (refine wp_ldP (b := b) (off := 0) (HA.out.keeps ((Keeps.refl w2).alloc (.cells #[.int .i64 pid, .bool start, .int .i64 count, .bool bad, .string body2] 23))).r rfl _ rfl rfl ?_) | (go_at_call 12; (with_reducible refine (HE1.out _ (by first | exact HK.out | exact HK.out.alloc _ | exact (HK.out.alloc _).alloc _)).mono ?_); rintro _ w3 ⟨rfl, k3⟩; have HA := Lib.hid ((HA.out.keeps ((Keeps.refl w2).alloc (.cells #[.int .i64 pid, .bool start, .int .i64 count, .bool bad, .string body2] 23))).keeps k3); have HQ := Lib.hid (show CsAt w2.heap.size (pkC ⟨pid, start, count, bad, body2⟩) w3 from (CsAt.made w2 #[.int .i64 pid, .bool start, .int .i64 count, .bool bad, .string body2] 23 (by simp)).keeps k3); have HK := Lib.hid ((HK.out.alloc (.cells #[.int .i64 pid, .bool start, .int .i64 count, .bool bad, .string body2] 23)).trans k3); clear k3) | (refine wp_ldP (b := w2.heap.size) (off := 0) HQ.out.r rfl _ rfl rfl ?_) | (go_at_call 12; (with_reducible refine (HE2.out _ (by first | exact HK.out | exact HK.out.alloc _ | exact (HK.out.alloc _).alloc _)).mono ?_); rintro _ w4 ⟨rfl, k4⟩; have HA := Lib.hid (HA.out.keeps k4); have HQ := Lib.hid (HQ.out.keeps k4); have HK := Lib.hid (HK.out.trans k4); clear k4) | (go_at_call 17; refine (HD.out _ (by first | exact HK.out | exact HK.out.alloc _ | exact (HK.out.alloc _).alloc _)).mono ?_; rintro _ w5 ⟨rfl, k5⟩; have HA := Lib.hid ((HA.out.keeps k5).keeps ((Keeps.refl w5).alloc (.cells #[.int .i64 pid, .bool start, .int .i64 count, .bool bad, .string body2] 23))); have HQ := Lib.hid ((HQ.out.keeps k5).keeps ((Keeps.refl w5).alloc (.cells #[.int .i64 pid, .bool start, .int .i64 count, .bool bad, .string body2] 23))); have HK := Lib.hid ((HK.out.trans k5).alloc (.cells #[.int .i64 pid, .bool start, .int .i64 count, .bool bad, .string body2] 23)); have y0 : (w5.alloc (.cells #[.int .i64 pid, .bool start, .int .i64 count, .bool bad, .string body2] 23)).cell? ⟨w2.heap.size, 0, none⟩ = some (.int .i64 pid) := HQ.out.cell 0 rfl; have y1 : (w5.alloc (.cells #[.int .i64 pid, .bool start, .int .i64 count, .bool bad, .string body2] 23)).cell? ⟨w2.heap.size, 1, none⟩ = some (.bool start) := HQ.out.cell 1 rfl; have y2 : (w5.alloc (.cells #[.int .i64 pid, .bool start, .int .i64 count, .bool bad, .string body2] 23)).cell? ⟨w2.heap.size, 2, none⟩ = some (.int .i64 count) := HQ.out.cell 2 rfl; have y3 : (w5.alloc (.cells #[.int .i64 pid, .bool start, .int .i64 count, .bool bad, .string body2] 23)).cell? ⟨w2.heap.size, 3, none⟩ = some (.bool bad) := HQ.out.cell 3 rfl; have y4 : (w5.alloc (.cells #[.int .i64 pid, .bool start, .int .i64 count, .bool bad, .string body2] 23)).cell? ⟨w2.heap.size, 4, none⟩ = some (.string body2) := HQ.out.cell 4 rfl; clear k5))
      refine wp_draw (by kernel_rfl) [.string S, .string A3, .string T, .string A3, .bool true, .bool true, .string S, .int .u8 (u3.toNat : Int), .int .u8 m, .string T, .int .u8 (v3.toNat : Int), .int .u8 m, .bool true, .bool true, .bool true, .string S, .pointer (some ⟨b, 4, none⟩), .string body, .int .i64 n, .int .i64 d, .string body2, .string T, .pointer (some ⟨b, 4, none⟩), .string body, .int .i64 n, .int .i64 d, .string body2, .bool true, .bool true, .bool true, .pointer (some ⟨b, 4, none⟩), .string body, .int .i64 n, .bool false, .bool false, .string T, .int .u8 (v4.toNat : Int), .int .i64 (v4.toNat : Int), .string S, .int .u8 (u4.toNat : Int), .int .i64 (u4.toNat : Int), .int .i64 ((u4.toNat : Int) + 1), .bool true, .bool true, .bool true, .bool true, .bool true, .bool true, .bool true]
        (fun _ W => Keeps (w5.alloc (.cells #[.int .i64 pid, .bool start, .int .i64 count, .bool bad, .string body2] 23)) W) rfl (by kernel_rfl) (fin := ?fin1) ?hfin1 ((Keeps.refl _).eqv (Eqv.drew _)) ?each1 ?hend1
      case hfin1 => simp [seqA, dstOf, Act.put]; rfl
      case each1 =>
        refine ⟨?_, ?_, ?_, ?_, ?_, ?_, ?_, ?_, ?_, ?_, ?_, ?_, ?_, ?_, ?_, ?_, ?_, ?_, ?_, ?_, ?_, ?_, ?_, ?_, ?_, ?_, ?_, ?_, ?_, ?_, ?_, ?_, ?_, ?_, ?_, ?_, ?_, ?_, ?_, ?_, ?_, ?_, ?_, ?_, ?_, ?_, ?_, ?_, ?_, trivial⟩
        all_goals intro X w6 h0 hd hs hw
        all_goals have c4 : w6.cell? ⟨b, 4, none⟩ = some (.string body) := (HA.out.keeps hw).cell 4 rfl
        all_goals have hnr := HN.out
        all_goals have hdr := HDN.out
        all_goals have i1 : (3 : Int) < (S.size : Int) := by omega
        all_goals have i2 : (3 : Int) < (T.size : Int) := by omega
        all_goals have i3 : (4 : Int) < (S.size : Int) := by omega
        all_goals have i4 : (4 : Int) < (T.size : Int) := by omega
        all_goals first | rw [if_pos (by rfl)] | rw [if_neg (by decide)] | skip
        all_goals try unfold Does
        all_goals go_simp
        all_goals first | exact fun L' k => hw | ((with_reducible refine (HW.out w6 (Keeps.more HK.out hw)).mono ?_); rintro e w8 ⟨rfl, k8⟩; exact ⟨_, rfl, rfl, fun _ _ => hw.trans k8⟩) | exact fun hh => absurd hh (by decide) | decide
      case hend1 =>
      intro X w6 hL hw
      have HK6 := Lib.hid (HK.out.trans hw)
      clear hw hL
      go_wp2
      go_ret
      exact ⟨rfl, HK6.out⟩
  · obtain ⟨c, hcc⟩ : ∃ c, ckP ⟨pid, start, count, bad, body⟩ = c := ⟨_, rfl⟩
    rw [hcc] at HRC hc
    have hcb : (c == 0) = false := by rw [beq_eq_false_iff_ne]; exact hc
    clear hcc
    go_enter Tryd.func8, Tryd.ntmps8
    go_wp2_with (first | (refine wp_ldP (b := b) (off := 0) HA.out.r rfl _ rfl rfl ?_) | (go_at_call 11; refine (HPL.out _).mono ?_; rintro _ w1 ⟨rfl, k1⟩; have HA := Lib.hid (HA.out.keeps k1); have HK := Lib.hid (HK.out.trans k1); clear k1) | (go_at_call 10; refine (HRC.out _).mono ?_; rintro _ w2 ⟨rfl, k2⟩; have HA := Lib.hid (HA.out.keeps k2); have HK := Lib.hid (HK.out.trans k2); clear k2; have c4 : w2.cell? ⟨b, 4, none⟩ = some (.string body) := HA.out.cell 4 rfl) | (go_at_call 9; refine (HW.out _ (by first | exact HK.out | exact HK.out.alloc _ | exact (HK.out.alloc _).alloc _)).mono ?_; rintro _ w9 ⟨rfl, k9⟩; have HK := Lib.hid (HK.out.trans k9); clear k9))
    go_ret
    exact ⟨rfl, HK.out⟩

theorem own : ownKnob Tryd.prog.godebug = none := by kernel_rfl
theorem laidOut : laidOutB Tryd.prog = true := by kernel_rfl
set_option maxRecDepth 100000 in
theorem lifted (os : Os) (started : os.Started) (H : Type) (enc : TypeId × Value → H) :
    ReturnsInHanded {} Tryd.checked os 8 .any (fun w args => (Rows.packetFieldsSpec.pre enc Tryd.prog Tryd.f8 [] false w args ∧ laidMetH Tryd.prog [("clarion/packet.wide", Rows.laid_clarion_packet_wide)] w) ∧ sizedMet enc Tryd.prog Tryd.f8 (OpenSpec.ofChange Rows.packetFieldsSpec) false w args) (Rows.packetFieldsSpec.post enc Tryd.prog Tryd.f8 false true false false) := by
  refine returnsInHanded_of_change_and (C := Tryd.checked) (X := fun w _ => laidMetH Tryd.prog [("clarion/packet.wide", Rows.laid_clarion_packet_wide)] w) (fun _ _ _ hh h => h.of_heap hh) own started (by kernel_rfl) Tryd.func8
    (ChangeSpec.witness_shaped (enc := enc) (C := Tryd.checked) (os := os) (X := fun w _ => laidMetH Tryd.prog [("clarion/packet.wide", Rows.laid_clarion_packet_wide)] w) false (World.doorLaid Tryd.prog 400 os) #[.agg #[.int .i64 0, .bool false, .int .i64 0, .bool false, .string ByteArray.empty]] 8 rfl (World.shaped_of_RefB (by kernel_rfl) (by kernel_rfl)) (by kernel_rfl) (by kernel_rfl) (by kernel_rfl) (door_met os _)) ?_
  intro W base args ds gs before hval0 hW hcnd _ hL _
  have hval : ∀ (j : Nat) t v, Tryd.f8.params[j]? = some t → args[j]? = some v → Value.okWide Tryd.prog W .any base t v := hval0
  have hW' := hW
  obtain ⟨p, q, hA0, hV, rfl, hfz, hnd⟩ := hW
  have hA : DataW.TrodAll enc Tryd.prog W 0 (fun _ => true) true Tryd.f8.params.toList args.toList ds p := hA0
  rw [Tryd.params8] at hA hval
  obtain ⟨v0, vs0, d0, ds0, p0, q0, hargs, rfl, rfl, h0, r0⟩ := trodAll_cons hA
  obtain ⟨rfl, rfl, rfl⟩ := trodAll_nil r0
  obtain rfl : args = #[v0] := by cases args; simp_all
  obtain ⟨rfl, rfl⟩ := trodVars_none hV
  have k0 := h0
  have lt0 : ∀ x ∈ p0, x.block < W.heap.size := by obtain ⟨m, hm⟩ := k0; exact DataW.trod_lt m _ _ _ hm
  obtain ⟨P0, rfl⟩ := open_pkt (hval 0 23 v0 rfl rfl) h0
  clear hA0 hval0
  refine (walk P0 W (wd_of_laid hL)).mono fun e W' ⟨he, bel⟩ => ?_
  subst he
  exact ⟨_, rfl, _, _, _, [], _, [], hW', trodAll_mk1 (shut_bool Tryd.underlying4 _), (trodAll_cons_mk (Below.trod laidOut (by kernel_rfl) (of_decide_eq_true (by kernel_rfl)) k0 bel lt0) trodAll_mk0), rfl, bel.frame _, fun h => by cases h⟩

theorem over : Rows.packetFieldsRow.holds Tryd.pinned (OpenSpec.ofChange Rows.packetFieldsSpec) :=
  OpenClaim.holds_of_wide 8 Tryd.f8 rfl rfl rfl rfl rfl rfl rfl ⟨rfl, rfl, rfl, rfl, rfl⟩ rfl rfl rfl rfl rfl (by kernel_rfl) Tryd.func8 (by kernel_rfl)
    (of_decide_eq_true (by kernel_rfl)) (by unfold Func.isWrapper; first | (rw [if_pos (by decide +kernel)]; kernel_rfl) | (rw [if_neg (by decide +kernel)]; exact ⟨rfl, rfl⟩))
    (fun os started H enc _ => lifted os started H enc)

set_option maxRecDepth 100000 in
theorem proved : Rows.PacketFieldsCardSaid :=
  Claim7.holds_tied_plain_at .later [] [.data] true (true, _) false over (fun _ h => by cases h) (by kernel_rfl) (fun _ h => by cases h) packetFields_row_tie rfl ⟨rfl, rfl⟩ (by kernel_rfl) rfl
    (fun f fn hf hfn => by
      obtain rfl : f = 8 := Option.some.inj ((show Tryd.prog.funcNamed "clarion/clarionlaw14.PacketFields" = some 8 by kernel_rfl).symm.trans hf) |>.symm
      obtain rfl : fn = Tryd.f8 := (Option.some.inj (Tryd.func8.symm.trans hfn)).symm
      exact ⟨by kernel_rfl, fun j t ht => by
        rw [Tryd.params8] at ht
        have hm : t ∈ [23] := by simpa using Array.mem_of_getElem? ht
        have hall : ([23].all fun u => !Tryd.prog.wantsStandIn u) = true := by kernel_rfl
        exact (show Tryd.prog.wantsStandIn t = false by simpa using List.all_eq_true.1 hall t hm)⟩)
    (by kernel_rfl)
#print axioms proved
end Go.Proofs.YtikknojhoejciaaDoor.packetFields
