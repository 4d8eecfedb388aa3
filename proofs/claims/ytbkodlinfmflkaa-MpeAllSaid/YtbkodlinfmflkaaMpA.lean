/-
  What Check, Encode, Decode and With of package mpe answer. The memory that was there stays.
-/
import Derived.Test.YtbkodlinfmflkaaMpV
import Derived.Test.YtbkodlinfmflkaaTmD
import Derived.Test.YtbkodlinfmflkaaShelf
namespace Go.Proofs.Ytbkodlinfmflkaa
open Go.RowKit Gf Tm Sct Mpe
set_option maxRecDepth 100000
def PckPost (w0 : World) (p : Prt) (e : Ending) (w' : World) : Prop := e = .returned (.int .i64 (ckP p)) ∧ Keeps w0 w'
theorem PckPost.of {w0 W : World} {p : Prt} {n : Int} (e : ckP p = n) (k : Keeps w0 W) : PckPost w0 p (.returned (.int .i64 n)) W := ⟨by rw [e], k⟩
set_option maxHeartbeats 1600000 in
theorem mpcheck_any (w0 : World) (p : Prt) (w : World) (hs : p.txt.size ≤ 1000000000) (hk : Keeps w0 w) : Calls Try.prog 14 #[prV p] w (PckPost w0 p) := by
  obtain ⟨b, hb⟩ : ∃ b, w.heap.size = b := ⟨_, rfl⟩
  have HA := Lib.hid (show CsAt b (prC p) (w.alloc (.cells #[.int .i64 p.mac, .int .i64 p.tm.dt, .bool p.tm.tb, .bool p.tm.fr, .int .i64 p.tm.ad, .string p.txt] 25)) by
    rw [← hb]; exact CsAt.made w #[.int .i64 p.mac, .int .i64 p.tm.dt, .bool p.tm.tb, .bool p.tm.fr, .int .i64 p.tm.ad, .string p.txt] _ (by simp))
  have HK := Lib.hid hk
  have HT := Lib.hid (fun W => tmcheck_any W p.tm W (Keeps.refl W))
  unfold TckPost at HT
  have HG := Lib.hid (fun W => dgcheck_any W p.txt W hs (Keeps.refl W))
  unfold ChPost at HG
  have HC := Lib.hid (fun n W => PckPost.of (w0 := w0) (p := p) (n := n) (W := W))
  by_cases h1 : p.mac < 0
  · have HE := Lib.hid (ckP_no (p := p) fun x => by have := x.1.1; omega)
    obtain ⟨mac, ⟨dt, tb, fr, ad⟩, txt⟩ := p
    simp only at h1
    clear hs hk HT HG
    go_enter Try.func14, Try.ntmps14
    go_wp2
    go_ret
    exact HC.out _ _ HE.out (HK.out.alloc _)
  · by_cases h2 : 65535 < p.mac
    · have HE := Lib.hid (ckP_no (p := p) fun x => by have := x.1.2; omega)
      obtain ⟨mac, ⟨dt, tb, fr, ad⟩, txt⟩ := p
      simp only at h1 h2
      clear hs hk HT HG
      go_enter Try.func14, Try.ntmps14
      go_wp2
      go_ret
      exact HC.out _ _ HE.out (HK.out.alloc _)
    · by_cases h3 : okT p.tm
      · have HE := Lib.hid (ckP_ok (p := p) ⟨⟨by omega, by omega⟩, h3⟩)
        rw [ckT_ok h3] at HT
        obtain ⟨mac, ⟨dt, tb, fr, ad⟩, txt⟩ := p
        obtain ⟨n, hn⟩ : ∃ n, Dg.check (ls txt) = n := ⟨_, rfl⟩
        simp only at h1 h2 HT HG HA HE hn
        rw [hn] at HE
        simp only [hn] at HG
        clear hs hk h3 hn
        go_enter Try.func14, Try.ntmps14
        go_wp2_with (first | (go_at_call 27; refine (HT.out _).mono ?_; rintro _ w2 ⟨rfl, k2⟩; have q5 := (HA.out.keeps k2).cell 5 rfl; have HK2 := Lib.hid ((HK.out.alloc _).trans k2); clear k2) | (go_at_call 28; refine (HG.out _).mono ?_; rintro _ w3 ⟨rfl, k3⟩; have HK3 := Lib.hid (HK2.out.trans k3); clear k3))
        go_ret
        exact HC.out _ _ HE.out HK3.out
      · have HE := Lib.hid (ckP_no (p := p) fun x => h3 x.2)
        rw [ckT_no h3] at HT
        obtain ⟨mac, ⟨dt, tb, fr, ad⟩, txt⟩ := p
        simp only at h1 h2 HT HG HA HE
        clear hs hk h3 HG
        go_enter Try.func14, Try.ntmps14
        go_wp2_with (first | (go_at_call 27; refine (HT.out _).mono ?_; rintro _ w2 ⟨rfl, k2⟩; have q5 := (HA.out.keeps k2).cell 5 rfl; have HK2 := Lib.hid ((HK.out.alloc _).trans k2); clear k2))
        go_ret
        exact HC.out _ _ HE.out HK2.out
def PecPost (w0 : World) (p : Prt) (e : Ending) (w' : World) : Prop := e = .returned (.tuple #[.string (st (ecP p).1), .int .i64 (ecP p).2]) ∧ Keeps w0 w'
theorem PecPost.of {w0 W : World} {p : Prt} {l : List UInt8} {n : Int} {t : ByteArray} (e : ecP p = (l, n)) (ht : t = st l) (k : Keeps w0 W) : PecPost w0 p (.returned (.tuple #[.string t, .int .i64 n])) W := by unfold PecPost; rw [e, ht]; exact ⟨rfl, k⟩
theorem carr_sOf (p : Prt) : carr p.mac (st (bod p.tm (ls p.txt))) = sOf p := rfl
set_option maxHeartbeats 1600000 in
theorem mpencode_any (w0 : World) (p : Prt) (w : World) (hs : p.txt.size ≤ 1000000000) (hk : Keeps w0 w) : Calls Try.prog 13 #[prV p] w (PecPost w0 p) := by
  obtain ⟨b, hb⟩ : ∃ b, w.heap.size = b := ⟨_, rfl⟩
  obtain ⟨wA, hA⟩ : ∃ wA, w.alloc (.cells #[.int .i64 p.mac, .int .i64 p.tm.dt, .bool p.tm.tb, .bool p.tm.fr, .int .i64 p.tm.ad, .string p.txt] 25) = wA := ⟨_, rfl⟩
  have HA := Lib.hid (show CsAt b (prC p) wA by
    rw [← hb, ← hA]; exact CsAt.made w #[.int .i64 p.mac, .int .i64 p.tm.dt, .bool p.tm.tb, .bool p.tm.fr, .int .i64 p.tm.ad, .string p.txt] _ (by simp))
  have HK := Lib.hid (show Keeps w0 wA by rw [← hA]; exact hk.alloc _)
  have HT := Lib.hid (fun W => mpcheck_any W p W hs (Keeps.refl W))
  unfold PckPost at HT
  have HC := Lib.hid (fun l n t W => PecPost.of (w0 := w0) (p := p) (l := l) (n := n) (t := t) (W := W))
  by_cases h1 : ckP p = 0
  · have HE := Lib.hid (ecP_ok h1)
    rw [h1] at HT
    obtain ⟨⟨h2, h3⟩, h4⟩ := ckP_good h1
    have HN := Lib.hid (fun W => tmencode_any W p.tm W (Keeps.refl W))
    unfold EcPost at HN
    rw [ecT_ok h3] at HN
    have h5 := (check_len h4).2
    rw [← ls_size] at h5
    obtain ⟨S, hS⟩ : ∃ S, st (by4 (nbr p.tm)) = S := ⟨_, rfl⟩
    have hSs : S.size = 4 := by rw [← hS, st_size, by4_length]
    have HB := Lib.hid (show S ++ p.txt = st (bod p.tm (ls p.txt)) by rw [← hS]; unfold bod; rw [← st_append, st_ls])
    have HX := Lib.hid (fun W => scenc_any W (sOf p) W (Keeps.refl W))
    unfold ScEncPost at HX
    rw [ecd_ok (chk_sOf h1)] at HX
    obtain ⟨Y, hY⟩ : ∃ Y, st (Sct.bytes (sOf p)) = Y := ⟨_, rfl⟩
    have HY := Lib.hid (show Y = st (mby p) from hY.symm)
    have HM := Lib.hid (fun B W => mpcarrier_any p.mac B W)
    have HSO := Lib.hid (carr_sOf p)
    simp only [hS] at HN
    simp only [hY] at HX
    obtain ⟨T, hT⟩ : ∃ T, S ++ p.txt = T := ⟨_, rfl⟩
    rw [hT] at HB
    rw [← HB.out] at HSO
    rw [← HSO.out] at HX
    obtain ⟨c, hc⟩ : ∃ c, carr p.mac T = c := ⟨_, rfl⟩
    have HM2 := Lib.hid (fun W => hc ▸ HM.out T W)
    rw [hc] at HX
    clear hs hk h1 h2 h3 h4 hS hY hc HB HSO HM
    obtain ⟨mac, ⟨dt, tb, fr, ad⟩, txt⟩ := p
    simp only at HT HA HE hA HN HM2 HY hT h5
    go_enter Try.func13, Try.ntmps13
    go_wp2_with (first | (refine wp_ldP (b := b) (off := 0) HA.out.r rfl _ rfl rfl ?_) | (go_at_call 14; refine (HT.out _).mono ?_; rintro _ w2 ⟨rfl, k2⟩; have HA2 := Lib.hid (HA.out.keeps k2); have HK2 := Lib.hid (HK.out.trans k2); clear k2) | (refine wp_ldT (b := b) (off := 1) (prC_mid HA2.out) rfl _ rfl rfl ?_) | (go_at_call 24; refine (HN.out _).mono ?_; rintro _ w3 ⟨rfl, k3⟩; have q0 := (HA2.out.keeps k3).cell 0 rfl; have q5 := (HA2.out.keeps k3).cell 5 rfl; have HK3 := Lib.hid (HK2.out.trans k3); clear k3) | (go_at_call 26; refine (HM2.out _).mono ?_; rintro _ w4 ⟨rfl, k4⟩; have HK4 := Lib.hid (HK3.out.trans k4); clear k4) | (go_at_call 25; refine (HX.out _).mono ?_; rintro _ w5 ⟨rfl, k5⟩; have HK5 := Lib.hid (HK4.out.trans k5); clear k5))
    go_ret2
    exact HC.out _ _ _ _ HE.out HY.out HK5.out
  · have HE := Lib.hid (ecP_no h1)
    obtain ⟨n, hn⟩ : ∃ n, ckP p = n := ⟨_, rfl⟩
    have hnb : (n != 0) = true := by rw [← hn]; simpa using h1
    rw [hn] at HE
    simp only [hn] at HT
    obtain ⟨mac, ⟨dt, tb, fr, ad⟩, txt⟩ := p
    simp only at HT HA HE hA
    clear hs hk h1 hn
    go_enter Try.func13, Try.ntmps13
    go_wp2_with (first | (refine wp_ldP (b := b) (off := 0) HA.out.r rfl _ rfl rfl ?_) | (go_at_call 14; refine (HT.out _).mono ?_; rintro _ w2 ⟨rfl, k2⟩; have HK2 := Lib.hid (HK.out.trans k2); clear k2))
    go_ret2
    exact HC.out _ _ _ _ HE.out rfl HK2.out
def PdcPost (w0 : World) (r : Prt × Int) (e : Ending) (w' : World) : Prop := e = .returned (.tuple #[prV r.1, .int .i64 r.2]) ∧ Keeps w0 w'
theorem PdcPost.of {w0 W : World} {r : Prt × Int} {p : Prt} {n : Int} (e : r = (p, n)) (k : Keeps w0 W) : PdcPost w0 r (.returned (.tuple #[prV p, .int .i64 n])) W := by rw [e]; exact ⟨rfl, k⟩
abbrev zpA : Array Value := #[.int .i64 0, .int .i64 0, .bool false, .bool false, .int .i64 0, .string ⟨#[]⟩]
theorem zpA_zp : zpA.toList = prC zp := rfl
theorem good_same {S : Sec} (h : S.tb = 62) : sameB S (carr S.ex S.body) = decide (good S) := by
  by_cases k : good S
  · rw [decide_eq_true k]
    obtain ⟨k1, k2, k3, k4, k5⟩ := k
    obtain ⟨a, b, c, d, e, f, g, i⟩ := S
    simp only at h k1 k2 k3 k4 k5
    subst h k1 k2 k3 k4 k5
    exact sameB_iff.2 rfl
  · rw [decide_eq_false k]
    cases e : sameB S (carr S.ex S.body) with
    | false => rfl
    | true =>
      have e2 := sameB_iff.1 e
      exfalso
      apply k
      rw [e2]
      exact ⟨rfl, rfl, rfl, rfl, rfl⟩
end Go.Proofs.Ytbkodlinfmflkaa
