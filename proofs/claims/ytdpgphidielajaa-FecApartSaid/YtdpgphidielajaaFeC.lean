/-
  What With and Cut of package fec answer, and the chapter's example of layer 11. The memory that was there stays.
-/
import Derived.Test.YtdpgphidielajaaFeB
import Derived.Test.YtdpgphidielajaaFeLaw
namespace Go.Proofs.Ytdpgphidielajaa
open Go.RowKit Gf Tm Sct Mpe Fec
set_option maxRecDepth 100000
def FwtLost (w0 : World) (r : List UInt8 × Int) (e : Ending) (w' : World) : Prop := e = .returned (.tuple #[.string (st r.1), .int .i64 r.2]) ∧ Keeps w0 w'
theorem FwtLost.of {w0 W : World} {r : List UInt8 × Int} {l : List UInt8} {n : Int} {t : ByteArray} (e : r = (l, n)) (ht : t = st l) (k : Keeps w0 W) : FwtLost w0 r (.returned (.tuple #[.string t, .int .i64 n])) W := by rw [e, ht]; exact ⟨rfl, k⟩
set_option maxHeartbeats 6400000 in
theorem fewith_any (w0 : World) (s : ByteArray) (x : Tms) (w : World) (hs : s.size ≤ 1000000) (hk : Keeps w0 w) : Calls Try.prog 18 #[.string s, tmV x] w (FwtLost w0 (wtL (ls s) x)) := by
  obtain ⟨b, hb⟩ : ∃ b, w.heap.size = b := ⟨_, rfl⟩
  obtain ⟨wA, hA⟩ : ∃ wA, w.alloc (.cells #[.int .i64 x.dt, .bool x.tb, .bool x.fr, .int .i64 x.ad] 23) = wA := ⟨_, rfl⟩
  have HT := Lib.hid (show TmAt b x wA by rw [← hb, ← hA]; exact TmAt.made w x _)
  have HK := Lib.hid (show Keeps w0 wA by rw [← hA]; exact hk.alloc _)
  have HD := Lib.hid (fun W => fedecode_any W s W hs (Keeps.refl W))
  unfold FdcPost at HD
  have HC := Lib.hid (fun l n t W => FwtLost.of (w0 := w0) (r := wtL (ls s) x) (l := l) (n := n) (t := t) (W := W))
  obtain ⟨⟨P, e⟩, hd⟩ : ∃ q, dcF (ls s) = q := ⟨_, rfl⟩
  simp only [hd] at HD
  clear hk
  by_cases he : e = 0
  · subst he
    have hm := fby_dcF (l := ls s) (by rw [hd])
    rw [hd] at hm
    obtain ⟨m1, m2, -, -⟩ := hm
    simp only at m1 m2
    have m3 := (okZ_le (ckF_good m1).2).2
    have HE := Lib.hid (fun Q h W => feencode_any W Q W h (Keeps.refl W))
    unfold FecPost at HE
    by_cases hx : x = P.tm
    · subst hx
      have hok := (ckF_good m1).1.2
      have HR := Lib.hid (show wtL (ls s) P.tm = (ls s, 0) by rw [wtL_ok (by rw [hd]) hok, hd]; show (fby P, (0 : Int)) = _; rw [m2])
      have HCL := Lib.hid (fun W => clone_any s W (by omega))
      have HSS := Lib.hid (show s = st (ls s) from (st_ls s).symm)
      clear hd m1 m2 m3 hok HE
      obtain ⟨pad, num, la, ⟨pd, pt, pf, pa⟩, txt⟩ := P
      simp only at hA HT HD
      go_enter Try.func18, Try.ntmps18
      go_wp2_with (first | (go_at_call 16; refine (HD.out _).mono ?_; rintro _ w2 ⟨rfl, k2⟩; have H3 := Lib.hid (HT.out.keeps (((Keeps.refl wA).trans k2).alloc (.cells #[.int .i64 pad, .int .i64 num, .int .i64 la, .int .i64 pd, .bool pt, .bool pf, .int .i64 pa, .string txt] 25) |>.alloc (.cells #[.int .i64 pad, .int .i64 num, .int .i64 la, .int .i64 pd, .bool pt, .bool pf, .int .i64 pa, .string txt] 25))); have HK2 := Lib.hid (HK.out.trans k2); clear k2) | (refine wp_ldT (b := b) (off := 0) H3.out.range rfl _ rfl rfl ?_) | (go_at_call 32; refine (HCL.out _).mono ?_; rintro _ w4 ⟨rfl, k4⟩; have HK4 := Lib.hid (((HK2.out.alloc _).alloc _).trans k4); clear k4))
      go_ret2
      exact HC.out _ _ _ _ HR.out HSS.out HK4.out
    · have HN := Lib.hid (sameF_no (a := wtF P x) (b := P) fun h => hx (by rw [← h]; rfl))
      have HR := Lib.hid (show wtL (ls s) x = ecF (wtF P x) by
        by_cases hok : okT x
        · rw [wtL_ok (by rw [hd]) hok, hd, ecF_ok (ckF_wt m1 hok)]
        · rw [wtL_no (by rw [hd]) hok, ecF_no (by rw [ckF_wtno hok]; decide), ckF_wtno hok])
      have HX := Lib.hid (HE.out (wtF P x) (by show P.txt.size ≤ _; omega))
      obtain ⟨⟨l, n⟩, hln⟩ : ∃ q, ecF (wtF P x) = q := ⟨_, rfl⟩
      rw [hln] at HR
      simp only [hln] at HX
      clear hd m1 m2 m3 HE hx hln
      obtain ⟨pad, num, la, ⟨pd, pt, pf, pa⟩, txt⟩ := P
      obtain ⟨xd, xt, xf, xa⟩ := x
      have HEQ := Lib.hid (fun W => show (binOp .eql 25 (.agg #[.int .i64 pad, .int .i64 num, .int .i64 la, .int .i64 xd, .bool xt, .bool xf, .int .i64 xa, .string txt]) (.agg #[.int .i64 pad, .int .i64 num, .int .i64 la, .int .i64 pd, .bool pt, .bool pf, .int .i64 pa, .string txt])).run Try.prog W = .ok (.bool false) W from by
        have := eqF (wtF ⟨pad, num, la, ⟨pd, pt, pf, pa⟩, txt⟩ ⟨xd, xt, xf, xa⟩) ⟨pad, num, la, ⟨pd, pt, pf, pa⟩, txt⟩ W
        rw [HN.out] at this
        exact this)
      simp only at hA HT HD
      go_enter Try.func18, Try.ntmps18
      go_wp2_with (first | (go_at_call 16; refine (HD.out _).mono ?_; rintro _ w2 ⟨rfl, k2⟩; have H3 := Lib.hid (HT.out.keeps (((Keeps.refl wA).trans k2).alloc (.cells #[.int .i64 pad, .int .i64 num, .int .i64 la, .int .i64 pd, .bool pt, .bool pf, .int .i64 pa, .string txt] 25) |>.alloc (.cells #[.int .i64 pad, .int .i64 num, .int .i64 la, .int .i64 pd, .bool pt, .bool pf, .int .i64 pa, .string txt] 25))); have HK2 := Lib.hid (HK.out.trans k2); clear k2) | (refine wp_ldT (b := b) (off := 0) H3.out.range rfl _ rfl rfl ?_) | (refine wp_cmp (HEQ.out _) egF rfl _ _ rfl rfl rfl ?_) | (go_at_call 11; refine (HX.out _).mono ?_; rintro _ w4 ⟨rfl, k4⟩; have HK4 := Lib.hid (((HK2.out.alloc _).alloc _).trans k4); clear k4))
      go_ret2
      exact HC.out _ _ _ _ HR.out rfl HK4.out
  · have HR := Lib.hid (show wtL (ls s) x = ([], e) by rw [wtL_bad (by rw [hd]; exact he), hd])
    have hrb : (e != 0) = true := by simpa using he
    obtain ⟨dt, tb, fr, ad⟩ := x
    obtain ⟨pad, num, la, ⟨pd, pt, pf, pa⟩, txt⟩ := P
    clear hd
    go_enter Try.func18, Try.ntmps18
    go_wp2_with (first | (go_at_call 16; refine (HD.out _).mono ?_; rintro _ w2 ⟨rfl, k2⟩; have HK2 := Lib.hid ((HK.out.trans k2).alloc (.cells #[.int .i64 pad, .int .i64 num, .int .i64 la, .int .i64 pd, .bool pt, .bool pf, .int .i64 pa, .string txt] 25)); clear k2))
    go_ret2
    exact HC.out _ _ _ _ HR.out rfl HK2.out
theorem fecut_any (p : Fpt) (w : World) (h : 0 ≤ p.la ∧ p.la ≤ 63) : Calls Try.prog 15 #[feV p] w fun e w' => e = .returned (.int .i64 (63 - p.la)) ∧ Keeps w w' := by
  obtain ⟨b, hb⟩ : ∃ b, w.heap.size = b := ⟨_, rfl⟩
  obtain ⟨pad, num, la, ⟨dt, tb, fr, ad⟩, txt⟩ := p
  simp only at h
  have HK := Lib.hid ((Keeps.refl w).alloc (.cells #[.int .i64 pad, .int .i64 num, .int .i64 la, .int .i64 dt, .bool tb, .bool fr, .int .i64 ad, .string txt] 25))
  go_enter Try.func15, Try.ntmps15
  go_wp2
  go_ret
  exact ⟨ret_int (by omega), HK.out⟩
theorem isF_fby (p : Fpt) : isF (fby p) = true := by
  unfold isF
  rw [decide_eq_true (show 0 < (fby p).length by rw [fby_length]; omega), ← cf_take_lt (fby p) 8 0 (by decide), fby_head, hd8_sF]
  rfl
/-- The example's part. -/
def exF : Fpt := ⟨2, 1, 3, zt, st (col 7 256)⟩
theorem exF_size : exF.txt.size = 256 := by show (st (col 7 256)).size = 256; rw [st_size, col_length]
theorem exF_ck : ckF exF = 0 := by
  refine ckF_ok ⟨⟨⟨by decide, by decide⟩, ⟨by decide, by decide⟩, by decide, by decide⟩, ⟨by decide, by decide⟩, by decide, by decide⟩ ?_
  rw [exF_size]; exact .inl rfl
theorem exF_head : (fby exF).take 12 = [120, 241, 13, 2, 255, 255, 1, 3, 0, 0, 0, 0] := by
  rw [fby_twelve, hd8_sF, exF_size]; rfl
theorem exF_text : ((fby exF).drop 12).take 256 = col 7 256 := by
  have := fby_text exF
  rw [exF_size] at this
  rw [this]; exact ls_st _
set_option maxHeartbeats 1600000 in
theorem awake11_any (w0 w : World) (hk : Keeps w0 w) : Calls Try.prog 8 #[] w fun e w' => e = .returned (.bool true) ∧ Keeps w0 w' := by
  have HG := Lib.hid (fun W => show Calls Try.prog 19 #[.int .i64 256, .int .u8 7] W fun e w' => e = .returned (.string (st (col 7 256))) ∧ Keeps W w' from column_any W 256 7 W (by decide) (Keeps.refl W))
  have HE := Lib.hid (fun W => feencode_any W exF W (by rw [exF_size]; decide) (Keeps.refl W))
  unfold FecPost at HE
  rw [ecF_ok exF_ck] at HE
  obtain ⟨S, hS⟩ : ∃ S, st (fby exF) = S := ⟨_, rfl⟩
  have hz : S.size = 272 := by rw [← hS, st_size, fby_length, exF_size]
  have h12 : S.extract 0 12 = ⟨#[120, 241, 13, 2, 255, 255, 1, 3, 0, 0, 0, 0]⟩ := by
    rw [← st_ls (S.extract 0 12), ls_part, ← hS, ls_st, List.drop_zero, exF_head]; rfl
  have h34 : S.extract 12 268 = st (col 7 256) := by
    rw [← st_ls (S.extract 12 268), ls_part, ← hS, ls_st, exF_text]
  simp only [hS] at HE
  unfold exF zt at HE
  obtain ⟨G, hG⟩ : ∃ G, st (col 7 256) = G := ⟨_, rfl⟩
  rw [hG] at HE h34
  simp only [hG] at HG
  have HKK := Lib.hid hk
  clear hS hG hk
  go_enter Try.func8, Try.ntmps8
  go_wp2_with (first | (go_at_call 19; refine (HG.out _).mono ?_; rintro _ w1 ⟨rfl, k1⟩; have HK1 := Lib.hid (HKK.out.trans k1); clear k1) | (go_at_call 11; refine (HE.out _).mono ?_; rintro _ w2 ⟨rfl, k2⟩; have HK2 := Lib.hid (HK1.out.trans k2); clear k2))
  refine wp_draw (by kernel_rfl) [.int .i64 0, .bool true, .bool true, .string S, .int .i64 272, .bool true, .bool true, .bool true, .string S, .string ⟨#[120, 241, 13, 2, 255, 255, 1, 3, 0, 0, 0, 0]⟩, .bool true, .bool true, .bool true, .string S, .string G, .string G, .bool true, .bool true, .bool true]
    (fun _ W => Keeps w2 W) rfl (by kernel_rfl) (fin := ?fin) ?hfin ((Keeps.refl w2).eqv (Eqv.drew w2)) ?each ?hend
  case hfin => simp [seqA, dstOf, Act.put]; rfl
  case each =>
    refine ⟨?_, ?_, ?_, ?_, ?_, ?_, ?_, ?_, ?_, ?_, ?_, ?_, ?_, ?_, ?_, ?_, ?_, ?_, ?_, trivial⟩
    all_goals intro X w6 h0 hd hs hw
    all_goals try rw [if_pos (by rfl)]
    all_goals unfold Does
    all_goals go_simp
    all_goals first | exact fun L' k => hw | ((with_reducible refine (HG.out w6).mono ?_); rintro e w8 ⟨rfl, k8⟩; exact ⟨_, rfl, rfl, fun _ _ => hw.trans k8⟩)
  case hend =>
  intro X w6 hL hw
  have HK3 := Lib.hid (HK2.out.trans hw)
  clear hw hL
  go_wp2
  go_ret
  exact ⟨rfl, HK3.out⟩
end Go.Proofs.Ytdpgphidielajaa
