/-
  For any string and any times FecReads returns true: which part a section is, or why none, and what it is with other times; nothing that was there is changed. No condition.
-/
import Derived.Test.YtdpgphidielajaaRows
import Derived.Test.YtdpgphidielajaaFeC
import Derived.Test.YtdpgphidielajaaFeE
namespace Go.Proofs.Ytdpgphidielajaa.fecReads
open Go.ChangeShapes Go.WideShapes Go.ChangeAt Go.RowKit Gf Tm Sct Mpe Fec
set_option maxRecDepth 100000
open Go.ChangeMaps (open_string shut_string)
set_option linter.unusedVariables false
set_option maxHeartbeats 12800000 in
theorem core (t : ByteArray) (x : Tms) (w : World) (h : t.size ≤ 5000) :
    Calls Try.prog 4 #[.string t, tmV x] w fun e w' => e = .returned (.bool true) ∧ Below w.heap.size w w' := by
  obtain ⟨b, hb⟩ : ∃ b, w.heap.size = b := ⟨_, rfl⟩
  obtain ⟨wA, hA⟩ : ∃ wX, w.alloc (.cells #[.int .i64 x.dt, .bool x.tb, .bool x.fr, .int .i64 x.ad] 23) = wX := ⟨_, rfl⟩
  have HT := Lib.hid (show TmAt b x wA by rw [← hb, ← hA]; exact TmAt.made w x _)
  have HK0 := Lib.hid (show Keeps w wA by rw [← hA]; exact (Keeps.refl w).alloc _)
  have HX0 := Lib.hid (show CsAt b (tmC x) wA from ⟨HT.out.range, HT.out.fz, by simp⟩)
  have hi : ¬ (5000 : Int) < (t.size : Int) := by omega
  have HD := Lib.hid (fun W => fedecode_any W t W (by omega) (Keeps.refl W))
  unfold FdcPost at HD
  have HR := Lib.hid (fun W => rfedecode_any W t W (by omega) (Keeps.refl W))
  unfold RfdPost at HR
  have HWI := Lib.hid (fun W => fewith_any W t x W (by omega) (Keeps.refl W))
  unfold FwtLost at HWI
  have HIS := Lib.hid (fun W => feis_any t W)
  have heg := egF
  have heg2 := egG
  obtain ⟨⟨P, e⟩, hQ⟩ : ∃ q, dcF (ls t) = q := ⟨_, rfl⟩
  simp only [hQ] at HD HR
  by_cases he : e = 0
  · subst he
    obtain ⟨b1, b2, -, -⟩ := fby_dcF (l := ls t) (by rw [hQ])
    have hd0 : (dcF (ls t)).2 = 0 := by rw [hQ]
    rw [hQ] at b1 b2
    simp only at b1 b2
    have hM : isF (ls t) = true := by rw [← b2]; exact isF_fby P
    have htz : t.size = P.txt.size + 16 := by rw [ls_size, ← b2, fby_length]
    have z0 : 0 < t.size := by omega
    have hzi : (0 : Int) < (t.size : Int) := by omega
    have g0 := ls_get t 0 z0
    obtain ⟨x0, hx0⟩ : ∃ x, cf (ls t) 0 = x := ⟨_, rfl⟩
    rw [hx0] at g0
    have h120 : x0 = 120 := by
      unfold isF at hM
      rw [hx0] at hM
      simp only [Bool.and_eq_true, decide_eq_true_eq] at hM
      exact hM.2
    subst h120
    have h120 : ((120 : UInt8).toNat : Int) = 120 := rfl
    rw [hM] at HIS
    have HPL := Lib.hid (fun W => feplain_any P W)
    have hts := (okZ_le (ckF_good b1).2).2
    have HCK := Lib.hid (fun W => rfecheck_any W (wtF P x) W (Keeps.refl W))
    unfold RfkPost at HCK
    by_cases hx : okT x
    · have hck := ckF_wt b1 hx
      have HBY := Lib.hid (fun W => rfebytes_any W (wtF P x) W hck (Keeps.refl W))
      rw [wtL_ok hd0 hx, hQ] at HWI
      rw [hck] at HCK
      obtain ⟨U, hU⟩ : ∃ U, st (fby (wtF P x)) = U := ⟨_, rfl⟩
      simp only [hU] at HWI HBY
      clear hck hx hM hU b1 b2 hQ hd0 hx0 htz hts
      obtain ⟨pad, num, la, ⟨dt, tb, fr, ad⟩, txt⟩ := P
      obtain ⟨xd, xt, xf, xa⟩ := x
      simp only at hA
      go_enter Try.func4, Try.ntmps4
      go_wp2_with (first | (go_at_call 16; refine (HD.out _).mono ?_; rintro _ w2 ⟨rfl, k2⟩; have HX2 := Lib.hid ((HX0.out.keeps k2).keeps ((Keeps.refl w2).alloc (.cells #[.int .i64 pad, .int .i64 num, .int .i64 la, .int .i64 dt, .bool tb, .bool fr, .int .i64 ad, .string txt] 25))); have HK2 := Lib.hid ((HK0.out.trans k2).alloc (.cells #[.int .i64 pad, .int .i64 num, .int .i64 la, .int .i64 dt, .bool tb, .bool fr, .int .i64 ad, .string txt] 25)); have HP2 := Lib.hid (show CsAt w2.heap.size (feC ⟨pad, num, la, ⟨dt, tb, fr, ad⟩, txt⟩) (w2.alloc (.cells #[.int .i64 pad, .int .i64 num, .int .i64 la, .int .i64 dt, .bool tb, .bool fr, .int .i64 ad, .string txt] 25)) from CsAt.made w2 #[.int .i64 pad, .int .i64 num, .int .i64 la, .int .i64 dt, .bool tb, .bool fr, .int .i64 ad, .string txt] _ (by simp)); clear k2) | (go_at_call 17; refine (HR.out _).mono ?_; rintro _ w3 ⟨rfl, k3⟩; have HX3 := Lib.hid ((HX2.out.keeps k3).keeps ((Keeps.refl w3).alloc (.cells #[.int .i64 pad, .int .i64 num, .int .i64 la, .int .i64 dt, .bool tb, .bool fr, .int .i64 ad, .string txt] 29))); have HB3 := Lib.hid (HK2.out.trans k3); have HK3 := Lib.hid ((HK2.out.trans k3).alloc (.cells #[.int .i64 pad, .int .i64 num, .int .i64 la, .int .i64 dt, .bool tb, .bool fr, .int .i64 ad, .string txt] 29)); have HP3 := Lib.hid ((HP2.out.keeps k3).keeps ((Keeps.refl w3).alloc (.cells #[.int .i64 pad, .int .i64 num, .int .i64 la, .int .i64 dt, .bool tb, .bool fr, .int .i64 ad, .string txt] 29))); have HQ3 := Lib.hid (show CsAt w3.heap.size (feC ⟨pad, num, la, ⟨dt, tb, fr, ad⟩, txt⟩) (w3.alloc (.cells #[.int .i64 pad, .int .i64 num, .int .i64 la, .int .i64 dt, .bool tb, .bool fr, .int .i64 ad, .string txt] 29)) from CsAt.made w3 #[.int .i64 pad, .int .i64 num, .int .i64 la, .int .i64 dt, .bool tb, .bool fr, .int .i64 ad, .string txt] _ (by simp)); have xx0 : (w3.alloc (.cells #[.int .i64 pad, .int .i64 num, .int .i64 la, .int .i64 dt, .bool tb, .bool fr, .int .i64 ad, .string txt] 29)).cell? ⟨b, 0, none⟩ = some (.int .i64 xd) := HX3.out.cell 0 rfl; have xx1 : (w3.alloc (.cells #[.int .i64 pad, .int .i64 num, .int .i64 la, .int .i64 dt, .bool tb, .bool fr, .int .i64 ad, .string txt] 29)).cell? ⟨b, 1, none⟩ = some (.bool xt) := HX3.out.cell 1 rfl; have xx2 : (w3.alloc (.cells #[.int .i64 pad, .int .i64 num, .int .i64 la, .int .i64 dt, .bool tb, .bool fr, .int .i64 ad, .string txt] 29)).cell? ⟨b, 2, none⟩ = some (.bool xf) := HX3.out.cell 2 rfl; have xx3 : (w3.alloc (.cells #[.int .i64 pad, .int .i64 num, .int .i64 la, .int .i64 dt, .bool tb, .bool fr, .int .i64 ad, .string txt] 29)).cell? ⟨b, 3, none⟩ = some (.int .i64 xa) := HX3.out.cell 3 rfl; clear k3) | (go_at_call 18; refine (HWI.out _).mono ?_; rintro _ w4 ⟨rfl, k4⟩; have HX4 := Lib.hid (HX3.out.keeps k4); have HK4 := Lib.hid (HK3.out.trans k4); have HP4 := Lib.hid (HP3.out.keeps k4); have HQ4 := Lib.hid (HQ3.out.keeps k4); clear k4))
      refine wp_draw (by kernel_rfl) [.int .i64 0, .int .i64 0, .bool false, .bool false, feV ⟨pad, num, la, ⟨dt, tb, fr, ad⟩, txt⟩, feV ⟨pad, num, la, ⟨dt, tb, fr, ad⟩, txt⟩, feV ⟨pad, num, la, ⟨dt, tb, fr, ad⟩, txt⟩, .bool false, .bool false, .bool false, .string t, .bool true, .string t, .int .i64 (t.size : Int), .bool true, .bool true, .string t, .int .u8 120, .bool true, .bool true, .bool false, .bool false]
        (fun _ W => Keeps w4 W) rfl (by kernel_rfl) (fin := ?fin0) ?hfin0 ((Keeps.refl w4).eqv (Eqv.drew w4)) ?each0 ?hend0
      case hfin0 => simp [seqA, dstOf, Act.put]; rfl
      case each0 =>
        refine ⟨?_, ?_, ?_, ?_, ?_, ?_, ?_, ?_, ?_, ?_, ?_, ?_, ?_, ?_, ?_, ?_, ?_, ?_, ?_, ?_, ?_, ?_, trivial⟩
        all_goals intro X w6 h0 hd hs hw
        all_goals have p0 : w6.cell? ⟨w2.heap.size, 0, none⟩ = some (.int .i64 pad) := (HP4.out.keeps hw).cell 0 rfl
        all_goals have q0 : w6.cell? ⟨w3.heap.size, 0, none⟩ = some (.int .i64 pad) := (HQ4.out.keeps hw).cell 0 rfl
        all_goals have p1 : w6.cell? ⟨w2.heap.size, 1, none⟩ = some (.int .i64 num) := (HP4.out.keeps hw).cell 1 rfl
        all_goals have q1 : w6.cell? ⟨w3.heap.size, 1, none⟩ = some (.int .i64 num) := (HQ4.out.keeps hw).cell 1 rfl
        all_goals have p2 : w6.cell? ⟨w2.heap.size, 2, none⟩ = some (.int .i64 la) := (HP4.out.keeps hw).cell 2 rfl
        all_goals have q2 : w6.cell? ⟨w3.heap.size, 2, none⟩ = some (.int .i64 la) := (HQ4.out.keeps hw).cell 2 rfl
        all_goals have p3 : w6.cell? ⟨w2.heap.size, 3, none⟩ = some (.int .i64 dt) := (HP4.out.keeps hw).cell 3 rfl
        all_goals have q3 : w6.cell? ⟨w3.heap.size, 3, none⟩ = some (.int .i64 dt) := (HQ4.out.keeps hw).cell 3 rfl
        all_goals have p4 : w6.cell? ⟨w2.heap.size, 4, none⟩ = some (.bool tb) := (HP4.out.keeps hw).cell 4 rfl
        all_goals have q4 : w6.cell? ⟨w3.heap.size, 4, none⟩ = some (.bool tb) := (HQ4.out.keeps hw).cell 4 rfl
        all_goals have p5 : w6.cell? ⟨w2.heap.size, 5, none⟩ = some (.bool fr) := (HP4.out.keeps hw).cell 5 rfl
        all_goals have q5 : w6.cell? ⟨w3.heap.size, 5, none⟩ = some (.bool fr) := (HQ4.out.keeps hw).cell 5 rfl
        all_goals have p6 : w6.cell? ⟨w2.heap.size, 6, none⟩ = some (.int .i64 ad) := (HP4.out.keeps hw).cell 6 rfl
        all_goals have q6 : w6.cell? ⟨w3.heap.size, 6, none⟩ = some (.int .i64 ad) := (HQ4.out.keeps hw).cell 6 rfl
        all_goals have p7 : w6.cell? ⟨w2.heap.size, 7, none⟩ = some (.string txt) := (HP4.out.keeps hw).cell 7 rfl
        all_goals have q7 : w6.cell? ⟨w3.heap.size, 7, none⟩ = some (.string txt) := (HQ4.out.keeps hw).cell 7 rfl
        all_goals first | rw [if_pos (by rfl)] | rw [if_neg (by decide)] | skip
        all_goals try unfold Does
        all_goals go_simp
        all_goals first | exact fun L' k => hw | ((with_reducible refine (HPL.out w6).mono ?_); rintro e w8 ⟨rfl, k8⟩; exact ⟨_, rfl, rfl, fun _ _ => hw.trans k8⟩) | ((with_reducible refine (HIS.out w6).mono ?_); rintro e w8 ⟨rfl, rfl⟩; exact ⟨_, rfl, rfl, fun _ _ => hw⟩) | exact fun hh => absurd hh (by decide)
      case hend0 =>
      intro X w6 hL hw
      have HX6 := Lib.hid (HX4.out.keeps hw)
      have HK6 := Lib.hid (HK4.out.trans hw)
      have HQ6 := Lib.hid (HQ4.out.keeps hw)
      clear hw hL
      have x0_6 : w6.cell? ⟨b, 0, none⟩ = some (.int .i64 xd) := HX6.out.cell 0 rfl
      have x1_6 : w6.cell? ⟨b, 1, none⟩ = some (.bool xt) := HX6.out.cell 1 rfl
      have x2_6 : w6.cell? ⟨b, 2, none⟩ = some (.bool xf) := HX6.out.cell 2 rfl
      have x3_6 : w6.cell? ⟨b, 3, none⟩ = some (.int .i64 xa) := HX6.out.cell 3 rfl
      go_wp2_with (first | (refine wp_stT (b := w3.heap.size) (off := 3) ⟨xd, xt, xf, xa⟩ (HQ6.out.there (show 3 + 4 ≤ 8 by decide)) rfl _ _ rfl rfl rfl ?_; have HQ7 := Lib.hid (feC_put HQ6.out ⟨xd, xt, xf, xa⟩); have HK7 := Lib.hid ((only_setCells w3.heap.size (tmC ⟨xd, xt, xf, xa⟩) 3 w6).keeps HK6.out (Below.size HB3.out)); obtain ⟨w7, hw7⟩ : ∃ w7, w6.setCells w3.heap.size 3 (tmC ⟨xd, xt, xf, xa⟩) = w7 := ⟨_, rfl⟩; rw [hw7] at HQ7 HK7 ⊢; clear hw7) | (refine wp_ldG (b := w3.heap.size) (off := 0) (s := wtF ⟨pad, num, la, ⟨dt, tb, fr, ad⟩, txt⟩ ⟨xd, xt, xf, xa⟩) HQ7.out.r rfl _ rfl rfl ?_) | (go_at_call 9; refine (HCK.out _).mono ?_; rintro _ w8 ⟨rfl, k8⟩; have HK8 := Lib.hid (HK7.out.trans k8); have q0_8 : w8.cell? ⟨w3.heap.size, 0, none⟩ = some (.int .i64 pad) := (HQ7.out.keeps k8).cell 0 rfl; have q1_8 : w8.cell? ⟨w3.heap.size, 1, none⟩ = some (.int .i64 num) := (HQ7.out.keeps k8).cell 1 rfl; have q2_8 : w8.cell? ⟨w3.heap.size, 2, none⟩ = some (.int .i64 la) := (HQ7.out.keeps k8).cell 2 rfl; have q3_8 : w8.cell? ⟨w3.heap.size, 3, none⟩ = some (.int .i64 xd) := (HQ7.out.keeps k8).cell 3 rfl; have q4_8 : w8.cell? ⟨w3.heap.size, 4, none⟩ = some (.bool xt) := (HQ7.out.keeps k8).cell 4 rfl; have q5_8 : w8.cell? ⟨w3.heap.size, 5, none⟩ = some (.bool xf) := (HQ7.out.keeps k8).cell 5 rfl; have q6_8 : w8.cell? ⟨w3.heap.size, 6, none⟩ = some (.int .i64 xa) := (HQ7.out.keeps k8).cell 6 rfl; have q7_8 : w8.cell? ⟨w3.heap.size, 7, none⟩ = some (.string txt) := (HQ7.out.keeps k8).cell 7 rfl; clear k8) | (go_at_call 13; refine (HBY.out _).mono ?_; rintro _ w9 ⟨rfl, k9⟩; have HK9 := Lib.hid (HK8.out.trans k9); clear k9) | (go_at_call 8; refine (awake11_any w _ (HK9.out)).mono ?_; rintro _ w99 ⟨rfl, k99⟩))
      go_ret
      exact ⟨rfl, k99⟩
    · rw [wtL_no hd0 hx] at HWI
      have hck : ckF (wtF P x) = 15 := ckF_wtno hx
      rw [hck] at HCK
      have hnil : st [] = (⟨#[]⟩ : ByteArray) := rfl
      simp only [hnil] at HWI
      clear hck hx hM b1 b2 hQ hd0 hx0 htz hts hnil
      obtain ⟨pad, num, la, ⟨dt, tb, fr, ad⟩, txt⟩ := P
      obtain ⟨xd, xt, xf, xa⟩ := x
      simp only at hA
      go_enter Try.func4, Try.ntmps4
      go_wp2_with (first | (go_at_call 16; refine (HD.out _).mono ?_; rintro _ w2 ⟨rfl, k2⟩; have HX2 := Lib.hid ((HX0.out.keeps k2).keeps ((Keeps.refl w2).alloc (.cells #[.int .i64 pad, .int .i64 num, .int .i64 la, .int .i64 dt, .bool tb, .bool fr, .int .i64 ad, .string txt] 25))); have HK2 := Lib.hid ((HK0.out.trans k2).alloc (.cells #[.int .i64 pad, .int .i64 num, .int .i64 la, .int .i64 dt, .bool tb, .bool fr, .int .i64 ad, .string txt] 25)); have HP2 := Lib.hid (show CsAt w2.heap.size (feC ⟨pad, num, la, ⟨dt, tb, fr, ad⟩, txt⟩) (w2.alloc (.cells #[.int .i64 pad, .int .i64 num, .int .i64 la, .int .i64 dt, .bool tb, .bool fr, .int .i64 ad, .string txt] 25)) from CsAt.made w2 #[.int .i64 pad, .int .i64 num, .int .i64 la, .int .i64 dt, .bool tb, .bool fr, .int .i64 ad, .string txt] _ (by simp)); clear k2) | (go_at_call 17; refine (HR.out _).mono ?_; rintro _ w3 ⟨rfl, k3⟩; have HX3 := Lib.hid ((HX2.out.keeps k3).keeps ((Keeps.refl w3).alloc (.cells #[.int .i64 pad, .int .i64 num, .int .i64 la, .int .i64 dt, .bool tb, .bool fr, .int .i64 ad, .string txt] 29))); have HB3 := Lib.hid (HK2.out.trans k3); have HK3 := Lib.hid ((HK2.out.trans k3).alloc (.cells #[.int .i64 pad, .int .i64 num, .int .i64 la, .int .i64 dt, .bool tb, .bool fr, .int .i64 ad, .string txt] 29)); have HP3 := Lib.hid ((HP2.out.keeps k3).keeps ((Keeps.refl w3).alloc (.cells #[.int .i64 pad, .int .i64 num, .int .i64 la, .int .i64 dt, .bool tb, .bool fr, .int .i64 ad, .string txt] 29))); have HQ3 := Lib.hid (show CsAt w3.heap.size (feC ⟨pad, num, la, ⟨dt, tb, fr, ad⟩, txt⟩) (w3.alloc (.cells #[.int .i64 pad, .int .i64 num, .int .i64 la, .int .i64 dt, .bool tb, .bool fr, .int .i64 ad, .string txt] 29)) from CsAt.made w3 #[.int .i64 pad, .int .i64 num, .int .i64 la, .int .i64 dt, .bool tb, .bool fr, .int .i64 ad, .string txt] _ (by simp)); have xx0 : (w3.alloc (.cells #[.int .i64 pad, .int .i64 num, .int .i64 la, .int .i64 dt, .bool tb, .bool fr, .int .i64 ad, .string txt] 29)).cell? ⟨b, 0, none⟩ = some (.int .i64 xd) := HX3.out.cell 0 rfl; have xx1 : (w3.alloc (.cells #[.int .i64 pad, .int .i64 num, .int .i64 la, .int .i64 dt, .bool tb, .bool fr, .int .i64 ad, .string txt] 29)).cell? ⟨b, 1, none⟩ = some (.bool xt) := HX3.out.cell 1 rfl; have xx2 : (w3.alloc (.cells #[.int .i64 pad, .int .i64 num, .int .i64 la, .int .i64 dt, .bool tb, .bool fr, .int .i64 ad, .string txt] 29)).cell? ⟨b, 2, none⟩ = some (.bool xf) := HX3.out.cell 2 rfl; have xx3 : (w3.alloc (.cells #[.int .i64 pad, .int .i64 num, .int .i64 la, .int .i64 dt, .bool tb, .bool fr, .int .i64 ad, .string txt] 29)).cell? ⟨b, 3, none⟩ = some (.int .i64 xa) := HX3.out.cell 3 rfl; clear k3) | (go_at_call 18; refine (HWI.out _).mono ?_; rintro _ w4 ⟨rfl, k4⟩; have HX4 := Lib.hid (HX3.out.keeps k4); have HK4 := Lib.hid (HK3.out.trans k4); have HP4 := Lib.hid (HP3.out.keeps k4); have HQ4 := Lib.hid (HQ3.out.keeps k4); clear k4))
      refine wp_draw (by kernel_rfl) [.int .i64 0, .int .i64 0, .bool false, .bool false, feV ⟨pad, num, la, ⟨dt, tb, fr, ad⟩, txt⟩, feV ⟨pad, num, la, ⟨dt, tb, fr, ad⟩, txt⟩, feV ⟨pad, num, la, ⟨dt, tb, fr, ad⟩, txt⟩, .bool false, .bool false, .bool false, .string t, .bool true, .string t, .int .i64 (t.size : Int), .bool true, .bool true, .string t, .int .u8 120, .bool true, .bool true, .bool false, .bool false]
        (fun _ W => Keeps w4 W) rfl (by kernel_rfl) (fin := ?fin1) ?hfin1 ((Keeps.refl w4).eqv (Eqv.drew w4)) ?each1 ?hend1
      case hfin1 => simp [seqA, dstOf, Act.put]; rfl
      case each1 =>
        refine ⟨?_, ?_, ?_, ?_, ?_, ?_, ?_, ?_, ?_, ?_, ?_, ?_, ?_, ?_, ?_, ?_, ?_, ?_, ?_, ?_, ?_, ?_, trivial⟩
        all_goals intro X w6 h0 hd hs hw
        all_goals have p0 : w6.cell? ⟨w2.heap.size, 0, none⟩ = some (.int .i64 pad) := (HP4.out.keeps hw).cell 0 rfl
        all_goals have q0 : w6.cell? ⟨w3.heap.size, 0, none⟩ = some (.int .i64 pad) := (HQ4.out.keeps hw).cell 0 rfl
        all_goals have p1 : w6.cell? ⟨w2.heap.size, 1, none⟩ = some (.int .i64 num) := (HP4.out.keeps hw).cell 1 rfl
        all_goals have q1 : w6.cell? ⟨w3.heap.size, 1, none⟩ = some (.int .i64 num) := (HQ4.out.keeps hw).cell 1 rfl
        all_goals have p2 : w6.cell? ⟨w2.heap.size, 2, none⟩ = some (.int .i64 la) := (HP4.out.keeps hw).cell 2 rfl
        all_goals have q2 : w6.cell? ⟨w3.heap.size, 2, none⟩ = some (.int .i64 la) := (HQ4.out.keeps hw).cell 2 rfl
        all_goals have p3 : w6.cell? ⟨w2.heap.size, 3, none⟩ = some (.int .i64 dt) := (HP4.out.keeps hw).cell 3 rfl
        all_goals have q3 : w6.cell? ⟨w3.heap.size, 3, none⟩ = some (.int .i64 dt) := (HQ4.out.keeps hw).cell 3 rfl
        all_goals have p4 : w6.cell? ⟨w2.heap.size, 4, none⟩ = some (.bool tb) := (HP4.out.keeps hw).cell 4 rfl
        all_goals have q4 : w6.cell? ⟨w3.heap.size, 4, none⟩ = some (.bool tb) := (HQ4.out.keeps hw).cell 4 rfl
        all_goals have p5 : w6.cell? ⟨w2.heap.size, 5, none⟩ = some (.bool fr) := (HP4.out.keeps hw).cell 5 rfl
        all_goals have q5 : w6.cell? ⟨w3.heap.size, 5, none⟩ = some (.bool fr) := (HQ4.out.keeps hw).cell 5 rfl
        all_goals have p6 : w6.cell? ⟨w2.heap.size, 6, none⟩ = some (.int .i64 ad) := (HP4.out.keeps hw).cell 6 rfl
        all_goals have q6 : w6.cell? ⟨w3.heap.size, 6, none⟩ = some (.int .i64 ad) := (HQ4.out.keeps hw).cell 6 rfl
        all_goals have p7 : w6.cell? ⟨w2.heap.size, 7, none⟩ = some (.string txt) := (HP4.out.keeps hw).cell 7 rfl
        all_goals have q7 : w6.cell? ⟨w3.heap.size, 7, none⟩ = some (.string txt) := (HQ4.out.keeps hw).cell 7 rfl
        all_goals first | rw [if_pos (by rfl)] | rw [if_neg (by decide)] | skip
        all_goals try unfold Does
        all_goals go_simp
        all_goals first | exact fun L' k => hw | ((with_reducible refine (HPL.out w6).mono ?_); rintro e w8 ⟨rfl, k8⟩; exact ⟨_, rfl, rfl, fun _ _ => hw.trans k8⟩) | ((with_reducible refine (HIS.out w6).mono ?_); rintro e w8 ⟨rfl, rfl⟩; exact ⟨_, rfl, rfl, fun _ _ => hw⟩) | exact fun hh => absurd hh (by decide)
      case hend1 =>
      intro X w6 hL hw
      have HX6 := Lib.hid (HX4.out.keeps hw)
      have HK6 := Lib.hid (HK4.out.trans hw)
      have HQ6 := Lib.hid (HQ4.out.keeps hw)
      clear hw hL
      have x0_6 : w6.cell? ⟨b, 0, none⟩ = some (.int .i64 xd) := HX6.out.cell 0 rfl
      have x1_6 : w6.cell? ⟨b, 1, none⟩ = some (.bool xt) := HX6.out.cell 1 rfl
      have x2_6 : w6.cell? ⟨b, 2, none⟩ = some (.bool xf) := HX6.out.cell 2 rfl
      have x3_6 : w6.cell? ⟨b, 3, none⟩ = some (.int .i64 xa) := HX6.out.cell 3 rfl
      go_wp2_with (first | (refine wp_stT (b := w3.heap.size) (off := 3) ⟨xd, xt, xf, xa⟩ (HQ6.out.there (show 3 + 4 ≤ 8 by decide)) rfl _ _ rfl rfl rfl ?_; have HQ7 := Lib.hid (feC_put HQ6.out ⟨xd, xt, xf, xa⟩); have HK7 := Lib.hid ((only_setCells w3.heap.size (tmC ⟨xd, xt, xf, xa⟩) 3 w6).keeps HK6.out (Below.size HB3.out)); obtain ⟨w7, hw7⟩ : ∃ w7, w6.setCells w3.heap.size 3 (tmC ⟨xd, xt, xf, xa⟩) = w7 := ⟨_, rfl⟩; rw [hw7] at HQ7 HK7 ⊢; clear hw7) | (refine wp_ldG (b := w3.heap.size) (off := 0) (s := wtF ⟨pad, num, la, ⟨dt, tb, fr, ad⟩, txt⟩ ⟨xd, xt, xf, xa⟩) HQ7.out.r rfl _ rfl rfl ?_) | (go_at_call 9; refine (HCK.out _).mono ?_; rintro _ w8 ⟨rfl, k8⟩; have HK8 := Lib.hid (HK7.out.trans k8); have q0_8 : w8.cell? ⟨w3.heap.size, 0, none⟩ = some (.int .i64 pad) := (HQ7.out.keeps k8).cell 0 rfl; have q1_8 : w8.cell? ⟨w3.heap.size, 1, none⟩ = some (.int .i64 num) := (HQ7.out.keeps k8).cell 1 rfl; have q2_8 : w8.cell? ⟨w3.heap.size, 2, none⟩ = some (.int .i64 la) := (HQ7.out.keeps k8).cell 2 rfl; have q3_8 : w8.cell? ⟨w3.heap.size, 3, none⟩ = some (.int .i64 xd) := (HQ7.out.keeps k8).cell 3 rfl; have q4_8 : w8.cell? ⟨w3.heap.size, 4, none⟩ = some (.bool xt) := (HQ7.out.keeps k8).cell 4 rfl; have q5_8 : w8.cell? ⟨w3.heap.size, 5, none⟩ = some (.bool xf) := (HQ7.out.keeps k8).cell 5 rfl; have q6_8 : w8.cell? ⟨w3.heap.size, 6, none⟩ = some (.int .i64 xa) := (HQ7.out.keeps k8).cell 6 rfl; have q7_8 : w8.cell? ⟨w3.heap.size, 7, none⟩ = some (.string txt) := (HQ7.out.keeps k8).cell 7 rfl; clear k8) | (go_at_call 8; refine (awake11_any w _ (HK8.out)).mono ?_; rintro _ w99 ⟨rfl, k99⟩))
      go_ret
      exact ⟨rfl, k99⟩
  · have hz : P = zf := by have := dcF_err (l := ls t) (by rw [hQ]; exact he); rwa [hQ] at this
    subst hz
    have hrb : (e != 0) = true := by simpa using he
    have hwe : wtL (ls t) x = ([], e) := by rw [wtL_bad (by rw [hQ]; exact he), hQ]
    have hnil : st [] = (⟨#[]⟩ : ByteArray) := rfl
    rw [hwe] at HWI
    simp only [hnil] at HWI
    have HPL := Lib.hid (fun W => feplain_any zf W)
    unfold zf zt at HD HR HPL
    clear hQ he hwe hnil
    obtain ⟨xd, xt, xf, xa⟩ := x
    simp only at hA
    by_cases h0 : t.size = 0
    · have hM : isF (ls t) = false := by
        rw [show ls t = [] from List.length_eq_zero_iff.1 (by rw [← ls_size]; exact h0)]; rfl
      rw [hM] at HIS
      have hzi : ¬ (0 : Int) < (t.size : Int) := by omega
      clear hM
      go_enter Try.func4, Try.ntmps4
      go_wp2_with (first | (go_at_call 16; refine (HD.out _).mono ?_; rintro _ w2 ⟨rfl, k2⟩; have HX2 := Lib.hid ((HX0.out.keeps k2).keeps ((Keeps.refl w2).alloc (.cells #[.int .i64 0, .int .i64 0, .int .i64 0, .int .i64 0, .bool false, .bool false, .int .i64 0, .string ⟨#[]⟩] 25))); have HK2 := Lib.hid ((HK0.out.trans k2).alloc (.cells #[.int .i64 0, .int .i64 0, .int .i64 0, .int .i64 0, .bool false, .bool false, .int .i64 0, .string ⟨#[]⟩] 25)); have HP2 := Lib.hid (show CsAt w2.heap.size (feC ⟨0, 0, 0, ⟨0, false, false, 0⟩, ⟨#[]⟩⟩) (w2.alloc (.cells #[.int .i64 0, .int .i64 0, .int .i64 0, .int .i64 0, .bool false, .bool false, .int .i64 0, .string ⟨#[]⟩] 25)) from CsAt.made w2 #[.int .i64 0, .int .i64 0, .int .i64 0, .int .i64 0, .bool false, .bool false, .int .i64 0, .string ⟨#[]⟩] _ (by simp)); clear k2) | (go_at_call 17; refine (HR.out _).mono ?_; rintro _ w3 ⟨rfl, k3⟩; have HX3 := Lib.hid ((HX2.out.keeps k3).keeps ((Keeps.refl w3).alloc (.cells #[.int .i64 0, .int .i64 0, .int .i64 0, .int .i64 0, .bool false, .bool false, .int .i64 0, .string ⟨#[]⟩] 29))); have HB3 := Lib.hid (HK2.out.trans k3); have HK3 := Lib.hid ((HK2.out.trans k3).alloc (.cells #[.int .i64 0, .int .i64 0, .int .i64 0, .int .i64 0, .bool false, .bool false, .int .i64 0, .string ⟨#[]⟩] 29)); have HP3 := Lib.hid ((HP2.out.keeps k3).keeps ((Keeps.refl w3).alloc (.cells #[.int .i64 0, .int .i64 0, .int .i64 0, .int .i64 0, .bool false, .bool false, .int .i64 0, .string ⟨#[]⟩] 29))); have HQ3 := Lib.hid (show CsAt w3.heap.size (feC ⟨0, 0, 0, ⟨0, false, false, 0⟩, ⟨#[]⟩⟩) (w3.alloc (.cells #[.int .i64 0, .int .i64 0, .int .i64 0, .int .i64 0, .bool false, .bool false, .int .i64 0, .string ⟨#[]⟩] 29)) from CsAt.made w3 #[.int .i64 0, .int .i64 0, .int .i64 0, .int .i64 0, .bool false, .bool false, .int .i64 0, .string ⟨#[]⟩] _ (by simp)); have xx0 : (w3.alloc (.cells #[.int .i64 0, .int .i64 0, .int .i64 0, .int .i64 0, .bool false, .bool false, .int .i64 0, .string ⟨#[]⟩] 29)).cell? ⟨b, 0, none⟩ = some (.int .i64 xd) := HX3.out.cell 0 rfl; have xx1 : (w3.alloc (.cells #[.int .i64 0, .int .i64 0, .int .i64 0, .int .i64 0, .bool false, .bool false, .int .i64 0, .string ⟨#[]⟩] 29)).cell? ⟨b, 1, none⟩ = some (.bool xt) := HX3.out.cell 1 rfl; have xx2 : (w3.alloc (.cells #[.int .i64 0, .int .i64 0, .int .i64 0, .int .i64 0, .bool false, .bool false, .int .i64 0, .string ⟨#[]⟩] 29)).cell? ⟨b, 2, none⟩ = some (.bool xf) := HX3.out.cell 2 rfl; have xx3 : (w3.alloc (.cells #[.int .i64 0, .int .i64 0, .int .i64 0, .int .i64 0, .bool false, .bool false, .int .i64 0, .string ⟨#[]⟩] 29)).cell? ⟨b, 3, none⟩ = some (.int .i64 xa) := HX3.out.cell 3 rfl; clear k3) | (go_at_call 18; refine (HWI.out _).mono ?_; rintro _ w4 ⟨rfl, k4⟩; have HX4 := Lib.hid (HX3.out.keeps k4); have HK4 := Lib.hid (HK3.out.trans k4); have HP4 := Lib.hid (HP3.out.keeps k4); have HQ4 := Lib.hid (HQ3.out.keeps k4); clear k4))
      refine wp_draw (by kernel_rfl) [.int .i64 e, .int .i64 e, .bool false, .bool false, feV ⟨0, 0, 0, ⟨0, false, false, 0⟩, ⟨#[]⟩⟩, feV ⟨0, 0, 0, ⟨0, false, false, 0⟩, ⟨#[]⟩⟩, feV ⟨0, 0, 0, ⟨0, false, false, 0⟩, ⟨#[]⟩⟩, .bool false, .bool false, .bool false, .string t, .bool false, .string t, .int .i64 (t.size : Int), .bool false, .bool false, undef, undef, undef, .bool false, .bool false, .bool false]
        (fun _ W => Keeps w4 W) rfl (by kernel_rfl) (fin := ?fin2) ?hfin2 ((Keeps.refl w4).eqv (Eqv.drew w4)) ?each2 ?hend2
      case hfin2 => simp [seqA, dstOf, Act.put]; rfl
      case each2 =>
        refine ⟨?_, ?_, ?_, ?_, ?_, ?_, ?_, ?_, ?_, ?_, ?_, ?_, ?_, ?_, ?_, ?_, ?_, ?_, ?_, ?_, ?_, ?_, trivial⟩
        all_goals intro X w6 h0 hd hs hw
        all_goals have p0 : w6.cell? ⟨w2.heap.size, 0, none⟩ = some (.int .i64 0) := (HP4.out.keeps hw).cell 0 rfl
        all_goals have q0 : w6.cell? ⟨w3.heap.size, 0, none⟩ = some (.int .i64 0) := (HQ4.out.keeps hw).cell 0 rfl
        all_goals have p1 : w6.cell? ⟨w2.heap.size, 1, none⟩ = some (.int .i64 0) := (HP4.out.keeps hw).cell 1 rfl
        all_goals have q1 : w6.cell? ⟨w3.heap.size, 1, none⟩ = some (.int .i64 0) := (HQ4.out.keeps hw).cell 1 rfl
        all_goals have p2 : w6.cell? ⟨w2.heap.size, 2, none⟩ = some (.int .i64 0) := (HP4.out.keeps hw).cell 2 rfl
        all_goals have q2 : w6.cell? ⟨w3.heap.size, 2, none⟩ = some (.int .i64 0) := (HQ4.out.keeps hw).cell 2 rfl
        all_goals have p3 : w6.cell? ⟨w2.heap.size, 3, none⟩ = some (.int .i64 0) := (HP4.out.keeps hw).cell 3 rfl
        all_goals have q3 : w6.cell? ⟨w3.heap.size, 3, none⟩ = some (.int .i64 0) := (HQ4.out.keeps hw).cell 3 rfl
        all_goals have p4 : w6.cell? ⟨w2.heap.size, 4, none⟩ = some (.bool false) := (HP4.out.keeps hw).cell 4 rfl
        all_goals have q4 : w6.cell? ⟨w3.heap.size, 4, none⟩ = some (.bool false) := (HQ4.out.keeps hw).cell 4 rfl
        all_goals have p5 : w6.cell? ⟨w2.heap.size, 5, none⟩ = some (.bool false) := (HP4.out.keeps hw).cell 5 rfl
        all_goals have q5 : w6.cell? ⟨w3.heap.size, 5, none⟩ = some (.bool false) := (HQ4.out.keeps hw).cell 5 rfl
        all_goals have p6 : w6.cell? ⟨w2.heap.size, 6, none⟩ = some (.int .i64 0) := (HP4.out.keeps hw).cell 6 rfl
        all_goals have q6 : w6.cell? ⟨w3.heap.size, 6, none⟩ = some (.int .i64 0) := (HQ4.out.keeps hw).cell 6 rfl
        all_goals have p7 : w6.cell? ⟨w2.heap.size, 7, none⟩ = some (.string ⟨#[]⟩) := (HP4.out.keeps hw).cell 7 rfl
        all_goals have q7 : w6.cell? ⟨w3.heap.size, 7, none⟩ = some (.string ⟨#[]⟩) := (HQ4.out.keeps hw).cell 7 rfl
        all_goals first | rw [if_pos (by rfl)] | rw [if_neg (by decide)] | skip
        all_goals try unfold Does
        all_goals go_simp
        all_goals first | exact fun L' k => hw | ((with_reducible refine (HPL.out w6).mono ?_); rintro e w8 ⟨rfl, k8⟩; exact ⟨_, rfl, rfl, fun _ _ => hw.trans k8⟩) | ((with_reducible refine (HIS.out w6).mono ?_); rintro e w8 ⟨rfl, rfl⟩; exact ⟨_, rfl, rfl, fun _ _ => hw⟩) | exact fun hh => absurd hh (by decide)
      case hend2 =>
      intro X w6 hL hw
      have HX6 := Lib.hid (HX4.out.keeps hw)
      have HK6 := Lib.hid (HK4.out.trans hw)
      have HQ6 := Lib.hid (HQ4.out.keeps hw)
      clear hw hL
      go_wp2_with (first | (go_at_call 8; refine (awake11_any w _ (HK6.out)).mono ?_; rintro _ w99 ⟨rfl, k99⟩))
      go_ret
      exact ⟨rfl, k99⟩
    · have z0 : 0 < t.size := by omega
      have hzi : (0 : Int) < (t.size : Int) := by omega
      have g0 := ls_get t 0 z0
      obtain ⟨x0, hx0⟩ : ∃ x, cf (ls t) 0 = x := ⟨_, rfl⟩
      rw [hx0] at g0
      obtain ⟨M, hM⟩ : ∃ M, ((x0.toNat : Int) == 120) = M := ⟨_, rfl⟩
      have hMM : isF (ls t) = M := by
        rw [← hM]
        unfold isF
        rw [decide_eq_true (show 0 < (ls t).length by rw [← ls_size]; exact z0), hx0, Bool.true_and]
        by_cases k : x0 = 120
        · subst k; rfl
        · rw [decide_eq_false k]; symm; rw [beq_eq_false_iff_ne]; intro k2; exact k (UInt8.toNat_inj.1 (by rw [show ((120 : UInt8).toNat) = 120 from rfl]; omega))
      rw [hMM] at HIS
      clear hMM hx0 h0
      go_enter Try.func4, Try.ntmps4
      go_wp2_with (first | (go_at_call 16; refine (HD.out _).mono ?_; rintro _ w2 ⟨rfl, k2⟩; have HX2 := Lib.hid ((HX0.out.keeps k2).keeps ((Keeps.refl w2).alloc (.cells #[.int .i64 0, .int .i64 0, .int .i64 0, .int .i64 0, .bool false, .bool false, .int .i64 0, .string ⟨#[]⟩] 25))); have HK2 := Lib.hid ((HK0.out.trans k2).alloc (.cells #[.int .i64 0, .int .i64 0, .int .i64 0, .int .i64 0, .bool false, .bool false, .int .i64 0, .string ⟨#[]⟩] 25)); have HP2 := Lib.hid (show CsAt w2.heap.size (feC ⟨0, 0, 0, ⟨0, false, false, 0⟩, ⟨#[]⟩⟩) (w2.alloc (.cells #[.int .i64 0, .int .i64 0, .int .i64 0, .int .i64 0, .bool false, .bool false, .int .i64 0, .string ⟨#[]⟩] 25)) from CsAt.made w2 #[.int .i64 0, .int .i64 0, .int .i64 0, .int .i64 0, .bool false, .bool false, .int .i64 0, .string ⟨#[]⟩] _ (by simp)); clear k2) | (go_at_call 17; refine (HR.out _).mono ?_; rintro _ w3 ⟨rfl, k3⟩; have HX3 := Lib.hid ((HX2.out.keeps k3).keeps ((Keeps.refl w3).alloc (.cells #[.int .i64 0, .int .i64 0, .int .i64 0, .int .i64 0, .bool false, .bool false, .int .i64 0, .string ⟨#[]⟩] 29))); have HB3 := Lib.hid (HK2.out.trans k3); have HK3 := Lib.hid ((HK2.out.trans k3).alloc (.cells #[.int .i64 0, .int .i64 0, .int .i64 0, .int .i64 0, .bool false, .bool false, .int .i64 0, .string ⟨#[]⟩] 29)); have HP3 := Lib.hid ((HP2.out.keeps k3).keeps ((Keeps.refl w3).alloc (.cells #[.int .i64 0, .int .i64 0, .int .i64 0, .int .i64 0, .bool false, .bool false, .int .i64 0, .string ⟨#[]⟩] 29))); have HQ3 := Lib.hid (show CsAt w3.heap.size (feC ⟨0, 0, 0, ⟨0, false, false, 0⟩, ⟨#[]⟩⟩) (w3.alloc (.cells #[.int .i64 0, .int .i64 0, .int .i64 0, .int .i64 0, .bool false, .bool false, .int .i64 0, .string ⟨#[]⟩] 29)) from CsAt.made w3 #[.int .i64 0, .int .i64 0, .int .i64 0, .int .i64 0, .bool false, .bool false, .int .i64 0, .string ⟨#[]⟩] _ (by simp)); have xx0 : (w3.alloc (.cells #[.int .i64 0, .int .i64 0, .int .i64 0, .int .i64 0, .bool false, .bool false, .int .i64 0, .string ⟨#[]⟩] 29)).cell? ⟨b, 0, none⟩ = some (.int .i64 xd) := HX3.out.cell 0 rfl; have xx1 : (w3.alloc (.cells #[.int .i64 0, .int .i64 0, .int .i64 0, .int .i64 0, .bool false, .bool false, .int .i64 0, .string ⟨#[]⟩] 29)).cell? ⟨b, 1, none⟩ = some (.bool xt) := HX3.out.cell 1 rfl; have xx2 : (w3.alloc (.cells #[.int .i64 0, .int .i64 0, .int .i64 0, .int .i64 0, .bool false, .bool false, .int .i64 0, .string ⟨#[]⟩] 29)).cell? ⟨b, 2, none⟩ = some (.bool xf) := HX3.out.cell 2 rfl; have xx3 : (w3.alloc (.cells #[.int .i64 0, .int .i64 0, .int .i64 0, .int .i64 0, .bool false, .bool false, .int .i64 0, .string ⟨#[]⟩] 29)).cell? ⟨b, 3, none⟩ = some (.int .i64 xa) := HX3.out.cell 3 rfl; clear k3) | (go_at_call 18; refine (HWI.out _).mono ?_; rintro _ w4 ⟨rfl, k4⟩; have HX4 := Lib.hid (HX3.out.keeps k4); have HK4 := Lib.hid (HK3.out.trans k4); have HP4 := Lib.hid (HP3.out.keeps k4); have HQ4 := Lib.hid (HQ3.out.keeps k4); clear k4))
      refine wp_draw (by kernel_rfl) [.int .i64 e, .int .i64 e, .bool false, .bool false, feV ⟨0, 0, 0, ⟨0, false, false, 0⟩, ⟨#[]⟩⟩, feV ⟨0, 0, 0, ⟨0, false, false, 0⟩, ⟨#[]⟩⟩, feV ⟨0, 0, 0, ⟨0, false, false, 0⟩, ⟨#[]⟩⟩, .bool false, .bool false, .bool false, .string t, .bool M, .string t, .int .i64 (t.size : Int), .bool true, .bool true, .string t, .int .u8 (x0.toNat : Int), .bool M, .bool M, .bool false, .bool false]
        (fun _ W => Keeps w4 W) rfl (by kernel_rfl) (fin := ?fin3) ?hfin3 ((Keeps.refl w4).eqv (Eqv.drew w4)) ?each3 ?hend3
      case hfin3 => simp [seqA, dstOf, Act.put]; rfl
      case each3 =>
        refine ⟨?_, ?_, ?_, ?_, ?_, ?_, ?_, ?_, ?_, ?_, ?_, ?_, ?_, ?_, ?_, ?_, ?_, ?_, ?_, ?_, ?_, ?_, trivial⟩
        all_goals intro X w6 h0 hd hs hw
        all_goals have p0 : w6.cell? ⟨w2.heap.size, 0, none⟩ = some (.int .i64 0) := (HP4.out.keeps hw).cell 0 rfl
        all_goals have q0 : w6.cell? ⟨w3.heap.size, 0, none⟩ = some (.int .i64 0) := (HQ4.out.keeps hw).cell 0 rfl
        all_goals have p1 : w6.cell? ⟨w2.heap.size, 1, none⟩ = some (.int .i64 0) := (HP4.out.keeps hw).cell 1 rfl
        all_goals have q1 : w6.cell? ⟨w3.heap.size, 1, none⟩ = some (.int .i64 0) := (HQ4.out.keeps hw).cell 1 rfl
        all_goals have p2 : w6.cell? ⟨w2.heap.size, 2, none⟩ = some (.int .i64 0) := (HP4.out.keeps hw).cell 2 rfl
        all_goals have q2 : w6.cell? ⟨w3.heap.size, 2, none⟩ = some (.int .i64 0) := (HQ4.out.keeps hw).cell 2 rfl
        all_goals have p3 : w6.cell? ⟨w2.heap.size, 3, none⟩ = some (.int .i64 0) := (HP4.out.keeps hw).cell 3 rfl
        all_goals have q3 : w6.cell? ⟨w3.heap.size, 3, none⟩ = some (.int .i64 0) := (HQ4.out.keeps hw).cell 3 rfl
        all_goals have p4 : w6.cell? ⟨w2.heap.size, 4, none⟩ = some (.bool false) := (HP4.out.keeps hw).cell 4 rfl
        all_goals have q4 : w6.cell? ⟨w3.heap.size, 4, none⟩ = some (.bool false) := (HQ4.out.keeps hw).cell 4 rfl
        all_goals have p5 : w6.cell? ⟨w2.heap.size, 5, none⟩ = some (.bool false) := (HP4.out.keeps hw).cell 5 rfl
        all_goals have q5 : w6.cell? ⟨w3.heap.size, 5, none⟩ = some (.bool false) := (HQ4.out.keeps hw).cell 5 rfl
        all_goals have p6 : w6.cell? ⟨w2.heap.size, 6, none⟩ = some (.int .i64 0) := (HP4.out.keeps hw).cell 6 rfl
        all_goals have q6 : w6.cell? ⟨w3.heap.size, 6, none⟩ = some (.int .i64 0) := (HQ4.out.keeps hw).cell 6 rfl
        all_goals have p7 : w6.cell? ⟨w2.heap.size, 7, none⟩ = some (.string ⟨#[]⟩) := (HP4.out.keeps hw).cell 7 rfl
        all_goals have q7 : w6.cell? ⟨w3.heap.size, 7, none⟩ = some (.string ⟨#[]⟩) := (HQ4.out.keeps hw).cell 7 rfl
        all_goals first | rw [if_pos (by rfl)] | rw [if_neg (by decide)] | skip
        all_goals try unfold Does
        all_goals go_simp
        all_goals first | exact fun L' k => hw | ((with_reducible refine (HPL.out w6).mono ?_); rintro e w8 ⟨rfl, k8⟩; exact ⟨_, rfl, rfl, fun _ _ => hw.trans k8⟩) | ((with_reducible refine (HIS.out w6).mono ?_); rintro e w8 ⟨rfl, rfl⟩; exact ⟨_, rfl, rfl, fun _ _ => hw⟩) | exact fun hh => absurd hh (by decide)
      case hend3 =>
      intro X w6 hL hw
      have HX6 := Lib.hid (HX4.out.keeps hw)
      have HK6 := Lib.hid (HK4.out.trans hw)
      have HQ6 := Lib.hid (HQ4.out.keeps hw)
      clear hw hL
      go_wp2_with (first | (go_at_call 8; refine (awake11_any w _ (HK6.out)).mono ?_; rintro _ w99 ⟨rfl, k99⟩))
      go_ret
      exact ⟨rfl, k99⟩
theorem walk (t : ByteArray) (ht : t.size ≤ maxLen) (x : Tms) (w : World) :
    Calls Try.prog 4 #[.string t, tmV x] w fun e w' => e = .returned (.bool true) ∧ Below w.heap.size w w' := by
  by_cases h : t.size ≤ 5000
  · exact core t x w h
  · have hi : (5000 : Int) < (t.size : Int) := by omega
    obtain ⟨b, hb⟩ : ∃ b, w.heap.size = b := ⟨_, rfl⟩
    obtain ⟨wA, hA⟩ : ∃ wX, w.alloc (.cells #[.int .i64 x.dt, .bool x.tb, .bool x.fr, .int .i64 x.ad] 23) = wX := ⟨_, rfl⟩
    have HT := Lib.hid (show TmAt b x wA by rw [← hb, ← hA]; exact TmAt.made w x _)
    have HK0 := Lib.hid (show Keeps w wA by rw [← hA]; exact (Keeps.refl w).alloc _)
    have HX0 := Lib.hid (show CsAt b (tmC x) wA from ⟨HT.out.range, HT.out.fz, by simp⟩)
    obtain ⟨xd, xt, xf, xa⟩ := x
    simp only at hA
    go_enter Try.func4, Try.ntmps4
    go_wp2_with (first | (go_at_call 8; refine (awake11_any w _ (HK0.out)).mono ?_; rintro _ w99 ⟨rfl, k99⟩))
    go_ret
    exact ⟨rfl, k99⟩


theorem own : ownKnob Try.prog.godebug = none := by kernel_rfl
theorem laidOut : laidOutB Try.prog = true := by kernel_rfl
set_option maxRecDepth 100000 in
theorem lifted (os : Os) (started : os.Started) (H : Type) (enc : TypeId × Value → H) :
    ReturnsInHanded {} Try.checked os 4 .any (Rows.fecReadsSpec.pre6 enc Try.prog Try.f4 Rows.fecReadsRow.domain false) (Rows.fecReadsSpec.post enc Try.prog Try.f4 false true false false) := by
  refine returnsInHanded_of_change (C := Try.checked) own started (by kernel_rfl) Try.func4
    (ChangeSpec.witness6 (enc := enc) (C := Try.checked) false ⟨#[], #[.string ByteArray.empty, .agg #[.int .i64 0, .bool false, .bool false, .int .i64 0]], []⟩ 8 (by kernel_rfl) (by kernel_rfl) (by kernel_rfl) (by kernel_rfl)) ?_
  intro W base args ds gs before hval0 hW hcnd _
  have hval : ∀ (j : Nat) t v, Try.f4.params[j]? = some t → args[j]? = some v → Value.okWide Try.prog W .any base t v := hval0
  have hW' := hW
  obtain ⟨p, q, hA0, hV, rfl, hfz, hnd⟩ := hW
  have hA : DataW.TrodAll enc Try.prog W 0 (fun _ => true) true Try.f4.params.toList args.toList ds p := hA0
  rw [Try.params4] at hA hval
  obtain ⟨v0, vs0, d0, ds0, p0, q0, hargs, rfl, rfl, h0, r0⟩ := trodAll_cons hA
  obtain ⟨v1, vs1, d1, ds1, p1, q1, rfl, rfl, rfl, h1, r1⟩ := trodAll_cons r0
  obtain ⟨rfl, rfl, rfl⟩ := trodAll_nil r1
  obtain rfl : args = #[v0, v1] := by cases args; simp_all
  obtain ⟨rfl, rfl⟩ := trodVars_none hV
  obtain ⟨a0, rfl, rfl, rfl, w0⟩ := open_string Try.underlying9 (hval 0 9 v0 rfl rfl) h0
  have k1 := h1
  have lt1 : ∀ x ∈ p1, x.block < W.heap.size := by obtain ⟨m, hm⟩ := k1; exact DataW.trod_lt m _ _ _ hm
  obtain ⟨s1, rfl⟩ := open_tms (hval 1 23 v1 rfl rfl) h1
  clear hA0 hval0
  refine (walk a0 w0 s1 W).mono fun e W' ⟨he, bel⟩ => ?_
  subst he
  exact ⟨_, rfl, _, _, _, [], _, [], hW', trodAll_mk1 (shut_bool Try.underlying4 _), (trodAll_cons_mk (shut_string Try.underlying9 w0) (trodAll_cons_mk (Below.trod laidOut (by kernel_rfl) (of_decide_eq_true (by kernel_rfl)) k1 bel lt1) trodAll_mk0)), rfl, bel.frame _, fun h => by cases h⟩

theorem over : Rows.fecReadsRow.holds Try.pinned (OpenSpec.ofChange Rows.fecReadsSpec) :=
  OpenClaim.holds_of_wide 4 Try.f4 rfl rfl rfl rfl rfl rfl rfl ⟨rfl, rfl, rfl, rfl, rfl⟩ rfl rfl rfl rfl rfl (by kernel_rfl) Try.func4 (by kernel_rfl)
    (of_decide_eq_true (by kernel_rfl)) (by unfold Func.isWrapper; first | (rw [if_pos (by decide +kernel)]; kernel_rfl) | (rw [if_neg (by decide +kernel)]; exact ⟨rfl, rfl⟩))
    (fun os started H enc _ => lifted os started H enc)

theorem proved : Rows.FecReadsSaid := over
#print axioms proved
end Go.Proofs.Ytdpgphidielajaa.fecReads
