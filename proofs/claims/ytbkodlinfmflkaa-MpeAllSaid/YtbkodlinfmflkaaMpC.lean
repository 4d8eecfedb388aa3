/-
  What With of package mpe answers. The memory that was there stays.
-/
import Derived.Test.YtbkodlinfmflkaaMpB
namespace Go.Proofs.Ytbkodlinfmflkaa
open Go.RowKit Gf Tm Sct Mpe
set_option maxRecDepth 100000
def PwtPost (w0 : World) (r : List UInt8 × Int) (e : Ending) (w' : World) : Prop := e = .returned (.tuple #[.string (st r.1), .int .i64 r.2]) ∧ Keeps w0 w'
theorem PwtPost.of {w0 W : World} {r : List UInt8 × Int} {l : List UInt8} {n : Int} {t : ByteArray} (e : r = (l, n)) (ht : t = st l) (k : Keeps w0 W) : PwtPost w0 r (.returned (.tuple #[.string t, .int .i64 n])) W := by rw [e, ht]; exact ⟨rfl, k⟩
set_option maxHeartbeats 6400000 in
theorem mpwith_any (w0 : World) (s : ByteArray) (x : Tms) (w : World) (hs : s.size ≤ 1000000) (hk : Keeps w0 w) : Calls Try.prog 19 #[.string s, tmV x] w (PwtPost w0 (wtP (ls s) x)) := by
  obtain ⟨b, hb⟩ : ∃ b, w.heap.size = b := ⟨_, rfl⟩
  obtain ⟨wA, hA⟩ : ∃ wA, w.alloc (.cells #[.int .i64 x.dt, .bool x.tb, .bool x.fr, .int .i64 x.ad] 23) = wA := ⟨_, rfl⟩
  have HT := Lib.hid (show TmAt b x wA by rw [← hb, ← hA]; exact TmAt.made w x _)
  have HK := Lib.hid (show Keeps w0 wA by rw [← hA]; exact hk.alloc _)
  have HD := Lib.hid (fun W => mpdecode_any W s W hs (Keeps.refl W))
  unfold PdcPost at HD
  have HC := Lib.hid (fun l n t W => PwtPost.of (w0 := w0) (r := wtP (ls s) x) (l := l) (n := n) (t := t) (W := W))
  obtain ⟨⟨P, e⟩, hd⟩ : ∃ q, dcP (ls s) = q := ⟨_, rfl⟩
  simp only [hd] at HD
  clear hk
  by_cases he : e = 0
  · subst he
    have hm := mby_dcP (l := ls s) (by rw [hd])
    rw [hd] at hm
    obtain ⟨m1, m2, -, -⟩ := hm
    simp only at m1 m2
    have m3 := (check_len (ckP_good m1).2).2
    rw [← ls_size] at m3
    have HE := Lib.hid (fun Q h W => mpencode_any W Q W h (Keeps.refl W))
    unfold PecPost at HE
    by_cases hx : x = P.tm
    · subst hx
      have hok := (ckP_good m1).1.2
      have HR := Lib.hid (show wtP (ls s) P.tm = (ls s, 0) by rw [wtP_ok (by rw [hd]) hok, hd]; show (mby P, (0 : Int)) = _; rw [m2])
      have HCL := Lib.hid (fun W => clone_any s W (by omega))
      have HSS := Lib.hid (show s = st (ls s) from (st_ls s).symm)
      clear hd m1 m2 m3 hok HE
      obtain ⟨mac, ⟨pd, pt, pf, pa⟩, txt⟩ := P
      simp only at hA HT HD
      go_enter Try.func19, Try.ntmps19
      go_wp2_with (first | (go_at_call 17; refine (HD.out _).mono ?_; rintro _ w2 ⟨rfl, k2⟩; have H3 := Lib.hid (HT.out.keeps (((Keeps.refl wA).trans k2).alloc (.cells #[.int .i64 mac, .int .i64 pd, .bool pt, .bool pf, .int .i64 pa, .string txt] 25) |>.alloc (.cells #[.int .i64 mac, .int .i64 pd, .bool pt, .bool pf, .int .i64 pa, .string txt] 25))); have HK2 := Lib.hid (HK.out.trans k2); clear k2) | (refine wp_ldT (b := b) (off := 0) H3.out.range rfl _ rfl rfl ?_) | (go_at_call 34; refine (HCL.out _).mono ?_; rintro _ w4 ⟨rfl, k4⟩; have HK4 := Lib.hid (((HK2.out.alloc _).alloc _).trans k4); clear k4))
      go_ret2
      exact HC.out _ _ _ _ HR.out HSS.out HK4.out
    · have HN := Lib.hid (sameP_no (a := wt P x) (b := P) fun h => hx (by rw [← h]; rfl))
      have HR := Lib.hid (show wtP (ls s) x = ecP (wt P x) by
        by_cases hok : okT x
        · rw [wtP_ok (by rw [hd]) hok, hd, ecP_ok (ckP_wt m1 hok)]
        · rw [wtP_no (by rw [hd]) hok, ecP_no (by rw [ckP_wtno hok]; decide), ckP_wtno hok])
      have HX := Lib.hid (HE.out (wt P x) (by show P.txt.size ≤ _; omega))
      obtain ⟨⟨l, n⟩, hln⟩ : ∃ q, ecP (wt P x) = q := ⟨_, rfl⟩
      rw [hln] at HR
      simp only [hln] at HX
      clear hd m1 m2 m3 HE hx hln
      obtain ⟨mac, ⟨pd, pt, pf, pa⟩, txt⟩ := P
      obtain ⟨xd, xt, xf, xa⟩ := x
      have HEQ := Lib.hid (fun W => show (binOp .eql 25 (.agg #[.int .i64 mac, .int .i64 xd, .bool xt, .bool xf, .int .i64 xa, .string txt]) (.agg #[.int .i64 mac, .int .i64 pd, .bool pt, .bool pf, .int .i64 pa, .string txt])).run Try.prog W = .ok (.bool false) W from by
        have := eqP (wt ⟨mac, ⟨pd, pt, pf, pa⟩, txt⟩ ⟨xd, xt, xf, xa⟩) ⟨mac, ⟨pd, pt, pf, pa⟩, txt⟩ W
        rw [HN.out] at this
        exact this)
      simp only at hA HT HD
      go_enter Try.func19, Try.ntmps19
      go_wp2_with (first | (go_at_call 17; refine (HD.out _).mono ?_; rintro _ w2 ⟨rfl, k2⟩; have H3 := Lib.hid (HT.out.keeps (((Keeps.refl wA).trans k2).alloc (.cells #[.int .i64 mac, .int .i64 pd, .bool pt, .bool pf, .int .i64 pa, .string txt] 25) |>.alloc (.cells #[.int .i64 mac, .int .i64 pd, .bool pt, .bool pf, .int .i64 pa, .string txt] 25))); have HK2 := Lib.hid (HK.out.trans k2); clear k2) | (refine wp_ldT (b := b) (off := 0) H3.out.range rfl _ rfl rfl ?_) | (refine wp_cmp (HEQ.out _) egP rfl _ _ rfl rfl rfl ?_) | (go_at_call 13; refine (HX.out _).mono ?_; rintro _ w4 ⟨rfl, k4⟩; have HK4 := Lib.hid (((HK2.out.alloc _).alloc _).trans k4); clear k4))
      go_ret2
      exact HC.out _ _ _ _ HR.out rfl HK4.out
  · have HR := Lib.hid (show wtP (ls s) x = ([], e) by rw [wtP_bad (by rw [hd]; exact he), hd])
    have hrb : (e != 0) = true := by simpa using he
    obtain ⟨dt, tb, fr, ad⟩ := x
    obtain ⟨mac, ⟨pd, pt, pf, pa⟩, txt⟩ := P
    clear hd
    go_enter Try.func19, Try.ntmps19
    go_wp2_with (first | (go_at_call 17; refine (HD.out _).mono ?_; rintro _ w2 ⟨rfl, k2⟩; have HK2 := Lib.hid ((HK.out.trans k2).alloc (.cells #[.int .i64 mac, .int .i64 pd, .bool pt, .bool pf, .int .i64 pa, .string txt] 25)); clear k2))
    go_ret2
    exact HC.out _ _ _ _ HR.out rfl HK2.out
end Go.Proofs.Ytbkodlinfmflkaa
