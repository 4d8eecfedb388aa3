/-
  For any part and any string FecBack returns true: Decode of Encode is the part, and Encode of Decode the bytes; nothing that was there is changed. No condition.
-/
import Derived.Test.YtdpgphidielajaaRows
import Derived.Test.YtdpgphidielajaaFeC
namespace Go.Proofs.Ytdpgphidielajaa.fecBack
open Go.ChangeShapes Go.WideShapes Go.ChangeAt Go.RowKit Gf Tm Sct Mpe Fec
set_option maxRecDepth 100000
open Go.ChangeMaps (open_string shut_string)
set_option linter.unusedVariables false
set_option maxHeartbeats 12800000 in
theorem off (p : Fpt) (t : ByteArray) (w : World) (h : 5000 < p.txt.size ∨ (p.txt.size ≤ 5000 ∧ 5000 < t.size)) :
    Calls Try.prog 5 #[feV p, .string t] w fun e w' => e = .returned (.bool true) ∧ Below w.heap.size w w' := by
  obtain ⟨b, hb⟩ : ∃ b, w.heap.size = b := ⟨_, rfl⟩
  obtain ⟨wA, hA⟩ : ∃ wX, w.alloc (.cells #[.int .i64 p.pad, .int .i64 p.num, .int .i64 p.la, .int .i64 p.tm.dt, .bool p.tm.tb, .bool p.tm.fr, .int .i64 p.tm.ad, .string p.txt] 25) = wX := ⟨_, rfl⟩
  have HA0 := Lib.hid (show CsAt b (feC p) wA by rw [← hb, ← hA]; exact CsAt.made w #[.int .i64 p.pad, .int .i64 p.num, .int .i64 p.la, .int .i64 p.tm.dt, .bool p.tm.tb, .bool p.tm.fr, .int .i64 p.tm.ad, .string p.txt] _ (by simp))
  have HK0 := Lib.hid (show Keeps w wA by rw [← hA]; exact (Keeps.refl w).alloc _)
  rcases h with h | ⟨h, g⟩
  · obtain ⟨pad, num, la, ⟨dt, tb, fr, ad⟩, txt⟩ := p
    simp only at h hA
    have hi : (5000 : Int) < (txt.size : Int) := by omega
    have p0_0 : (wA).cell? ⟨b, 0, none⟩ = some (.int .i64 pad) := HA0.out.cell 0 rfl
    have p0_1 : (wA).cell? ⟨b, 1, none⟩ = some (.int .i64 num) := HA0.out.cell 1 rfl
    have p0_2 : (wA).cell? ⟨b, 2, none⟩ = some (.int .i64 la) := HA0.out.cell 2 rfl
    have p0_3 : (wA).cell? ⟨b, 3, none⟩ = some (.int .i64 dt) := HA0.out.cell 3 rfl
    have p0_4 : (wA).cell? ⟨b, 4, none⟩ = some (.bool tb) := HA0.out.cell 4 rfl
    have p0_5 : (wA).cell? ⟨b, 5, none⟩ = some (.bool fr) := HA0.out.cell 5 rfl
    have p0_6 : (wA).cell? ⟨b, 6, none⟩ = some (.int .i64 ad) := HA0.out.cell 6 rfl
    have p0_7 : (wA).cell? ⟨b, 7, none⟩ = some (.string txt) := HA0.out.cell 7 rfl
    go_enter Try.func5, Try.ntmps5
    go_wp2_with (first | (go_at_call 8; refine (awake11_any w _ HK0.out).mono ?_; rintro _ w99 ⟨rfl, k99⟩))
    go_ret
    exact ⟨rfl, k99⟩
  · obtain ⟨pad, num, la, ⟨dt, tb, fr, ad⟩, txt⟩ := p
    simp only at h hA
    have hi : ¬ (5000 : Int) < (txt.size : Int) := by omega
    have gi : (5000 : Int) < (t.size : Int) := by omega
    have p0_0 : (wA).cell? ⟨b, 0, none⟩ = some (.int .i64 pad) := HA0.out.cell 0 rfl
    have p0_1 : (wA).cell? ⟨b, 1, none⟩ = some (.int .i64 num) := HA0.out.cell 1 rfl
    have p0_2 : (wA).cell? ⟨b, 2, none⟩ = some (.int .i64 la) := HA0.out.cell 2 rfl
    have p0_3 : (wA).cell? ⟨b, 3, none⟩ = some (.int .i64 dt) := HA0.out.cell 3 rfl
    have p0_4 : (wA).cell? ⟨b, 4, none⟩ = some (.bool tb) := HA0.out.cell 4 rfl
    have p0_5 : (wA).cell? ⟨b, 5, none⟩ = some (.bool fr) := HA0.out.cell 5 rfl
    have p0_6 : (wA).cell? ⟨b, 6, none⟩ = some (.int .i64 ad) := HA0.out.cell 6 rfl
    have p0_7 : (wA).cell? ⟨b, 7, none⟩ = some (.string txt) := HA0.out.cell 7 rfl
    go_enter Try.func5, Try.ntmps5
    go_wp2_with (first | (go_at_call 8; refine (awake11_any w _ HK0.out).mono ?_; rintro _ w99 ⟨rfl, k99⟩))
    go_ret
    exact ⟨rfl, k99⟩
set_option maxHeartbeats 12800000 in
theorem core (p : Fpt) (t : ByteArray) (w : World) (h : p.txt.size ≤ 5000) (g : t.size ≤ 5000) :
    Calls Try.prog 5 #[feV p, .string t] w fun e w' => e = .returned (.bool true) ∧ Below w.heap.size w w' := by
  obtain ⟨b, hb⟩ : ∃ b, w.heap.size = b := ⟨_, rfl⟩
  obtain ⟨wA, hA⟩ : ∃ wX, w.alloc (.cells #[.int .i64 p.pad, .int .i64 p.num, .int .i64 p.la, .int .i64 p.tm.dt, .bool p.tm.tb, .bool p.tm.fr, .int .i64 p.tm.ad, .string p.txt] 25) = wX := ⟨_, rfl⟩
  have HA0 := Lib.hid (show CsAt b (feC p) wA by rw [← hb, ← hA]; exact CsAt.made w #[.int .i64 p.pad, .int .i64 p.num, .int .i64 p.la, .int .i64 p.tm.dt, .bool p.tm.tb, .bool p.tm.fr, .int .i64 p.tm.ad, .string p.txt] _ (by simp))
  have HK0 := Lib.hid (show Keeps w wA by rw [← hA]; exact (Keeps.refl w).alloc _)
  have HE1 := Lib.hid (fun W => feencode_any W p W (by omega) (Keeps.refl W))
  unfold FecPost at HE1
  have HD3 := Lib.hid (fun W => fedecode_any W t W (by omega) (Keeps.refl W))
  unfold FdcPost at HD3
  have hiP : ¬ (5000 : Int) < (p.txt.size : Int) := by omega
  have gi : ¬ (5000 : Int) < (t.size : Int) := by omega
  have heg := egF
  obtain ⟨⟨Q, e⟩, hQ⟩ : ∃ q, dcF (ls t) = q := ⟨_, rfl⟩
  simp only [hQ] at HD3
  by_cases hc : ckF p = 0
  · rw [ecF_ok hc] at HE1
    have HD1 := Lib.hid (fun W => fedecode_any W (st (fby p)) W (by rw [st_size, fby_length]; omega) (Keeps.refl W))
    unfold FdcPost at HD1
    simp only [ls_st, dcF_fby hc] at HD1
    obtain ⟨Y, hY⟩ : ∃ Y, st (fby p) = Y := ⟨_, rfl⟩
    simp only [hY] at HE1 HD1
    clear hc hY
    by_cases he : e = 0
    · subst he
      obtain ⟨b1, b2, -, -⟩ := fby_dcF (l := ls t) (by rw [hQ])
      rw [hQ] at b1 b2
      simp only at b1 b2
      have b3 := (okZ_le (ckF_good b1).2).2
      have HE2 := Lib.hid (fun W => feencode_any W Q W (by omega) (Keeps.refl W))
      unfold FecPost at HE2
      rw [ecF_ok b1, b2, st_ls] at HE2
      clear hQ b1 b2 b3
      obtain ⟨qpad, qnum, qla, ⟨qdt, qtb, qfr, qad⟩, qtxt⟩ := Q
      obtain ⟨pad, num, la, ⟨dt, tb, fr, ad⟩, txt⟩ := p
      simp only at h hA hiP HD1 HE1
      have p0_0 : (wA).cell? ⟨b, 0, none⟩ = some (.int .i64 pad) := HA0.out.cell 0 rfl
      have p0_1 : (wA).cell? ⟨b, 1, none⟩ = some (.int .i64 num) := HA0.out.cell 1 rfl
      have p0_2 : (wA).cell? ⟨b, 2, none⟩ = some (.int .i64 la) := HA0.out.cell 2 rfl
      have p0_3 : (wA).cell? ⟨b, 3, none⟩ = some (.int .i64 dt) := HA0.out.cell 3 rfl
      have p0_4 : (wA).cell? ⟨b, 4, none⟩ = some (.bool tb) := HA0.out.cell 4 rfl
      have p0_5 : (wA).cell? ⟨b, 5, none⟩ = some (.bool fr) := HA0.out.cell 5 rfl
      have p0_6 : (wA).cell? ⟨b, 6, none⟩ = some (.int .i64 ad) := HA0.out.cell 6 rfl
      have p0_7 : (wA).cell? ⟨b, 7, none⟩ = some (.string txt) := HA0.out.cell 7 rfl
      go_enter Try.func5, Try.ntmps5
      go_wp2_with (first | (refine wp_ldF (b := b) (off := 0) HA0.out.r rfl _ rfl rfl ?_) | (go_at_call 11; (with_reducible refine (HE1.out _).mono ?_); rintro _ w1 ⟨rfl, k1⟩; have HA1 := Lib.hid (HA0.out.keeps k1); have HK1 := Lib.hid (HK0.out.trans k1); have p1_0 : (w1).cell? ⟨b, 0, none⟩ = some (.int .i64 pad) := HA1.out.cell 0 rfl; have p1_1 : (w1).cell? ⟨b, 1, none⟩ = some (.int .i64 num) := HA1.out.cell 1 rfl; have p1_2 : (w1).cell? ⟨b, 2, none⟩ = some (.int .i64 la) := HA1.out.cell 2 rfl; have p1_3 : (w1).cell? ⟨b, 3, none⟩ = some (.int .i64 dt) := HA1.out.cell 3 rfl; have p1_4 : (w1).cell? ⟨b, 4, none⟩ = some (.bool tb) := HA1.out.cell 4 rfl; have p1_5 : (w1).cell? ⟨b, 5, none⟩ = some (.bool fr) := HA1.out.cell 5 rfl; have p1_6 : (w1).cell? ⟨b, 6, none⟩ = some (.int .i64 ad) := HA1.out.cell 6 rfl; have p1_7 : (w1).cell? ⟨b, 7, none⟩ = some (.string txt) := HA1.out.cell 7 rfl; clear k1) | (go_at_call 16; (with_reducible refine (HD1.out _).mono ?_); rintro _ w2 ⟨rfl, k2⟩; have HA2 := Lib.hid ((HA1.out.keeps k2).keeps ((Keeps.refl w2).alloc (.cells #[.int .i64 pad, .int .i64 num, .int .i64 la, .int .i64 dt, .bool tb, .bool fr, .int .i64 ad, .string txt] 25))); have HK2 := Lib.hid ((HK1.out.trans k2).alloc (.cells #[.int .i64 pad, .int .i64 num, .int .i64 la, .int .i64 dt, .bool tb, .bool fr, .int .i64 ad, .string txt] 25)); have p2_0 : (w2.alloc (.cells #[.int .i64 pad, .int .i64 num, .int .i64 la, .int .i64 dt, .bool tb, .bool fr, .int .i64 ad, .string txt] 25)).cell? ⟨b, 0, none⟩ = some (.int .i64 pad) := HA2.out.cell 0 rfl; have p2_1 : (w2.alloc (.cells #[.int .i64 pad, .int .i64 num, .int .i64 la, .int .i64 dt, .bool tb, .bool fr, .int .i64 ad, .string txt] 25)).cell? ⟨b, 1, none⟩ = some (.int .i64 num) := HA2.out.cell 1 rfl; have p2_2 : (w2.alloc (.cells #[.int .i64 pad, .int .i64 num, .int .i64 la, .int .i64 dt, .bool tb, .bool fr, .int .i64 ad, .string txt] 25)).cell? ⟨b, 2, none⟩ = some (.int .i64 la) := HA2.out.cell 2 rfl; have p2_3 : (w2.alloc (.cells #[.int .i64 pad, .int .i64 num, .int .i64 la, .int .i64 dt, .bool tb, .bool fr, .int .i64 ad, .string txt] 25)).cell? ⟨b, 3, none⟩ = some (.int .i64 dt) := HA2.out.cell 3 rfl; have p2_4 : (w2.alloc (.cells #[.int .i64 pad, .int .i64 num, .int .i64 la, .int .i64 dt, .bool tb, .bool fr, .int .i64 ad, .string txt] 25)).cell? ⟨b, 4, none⟩ = some (.bool tb) := HA2.out.cell 4 rfl; have p2_5 : (w2.alloc (.cells #[.int .i64 pad, .int .i64 num, .int .i64 la, .int .i64 dt, .bool tb, .bool fr, .int .i64 ad, .string txt] 25)).cell? ⟨b, 5, none⟩ = some (.bool fr) := HA2.out.cell 5 rfl; have p2_6 : (w2.alloc (.cells #[.int .i64 pad, .int .i64 num, .int .i64 la, .int .i64 dt, .bool tb, .bool fr, .int .i64 ad, .string txt] 25)).cell? ⟨b, 6, none⟩ = some (.int .i64 ad) := HA2.out.cell 6 rfl; have p2_7 : (w2.alloc (.cells #[.int .i64 pad, .int .i64 num, .int .i64 la, .int .i64 dt, .bool tb, .bool fr, .int .i64 ad, .string txt] 25)).cell? ⟨b, 7, none⟩ = some (.string txt) := HA2.out.cell 7 rfl; clear k2) | (go_at_call 16; (with_reducible refine (HD3.out _).mono ?_); rintro _ w3 ⟨rfl, k3⟩; have HA3 := Lib.hid ((HA2.out.keeps k3).keeps ((Keeps.refl w3).alloc (.cells #[.int .i64 qpad, .int .i64 qnum, .int .i64 qla, .int .i64 qdt, .bool qtb, .bool qfr, .int .i64 qad, .string qtxt] 25))); have HK3 := Lib.hid ((HK2.out.trans k3).alloc (.cells #[.int .i64 qpad, .int .i64 qnum, .int .i64 qla, .int .i64 qdt, .bool qtb, .bool qfr, .int .i64 qad, .string qtxt] 25)); clear k3) | (go_at_call 11; (with_reducible refine (HE2.out _).mono ?_); rintro _ w4 ⟨rfl, k4⟩; have HA4 := Lib.hid (HA3.out.keeps k4); have HK4 := Lib.hid (HK3.out.trans k4); clear k4) | (go_at_call 8; refine (awake11_any w _ HK4.out).mono ?_; rintro _ w99 ⟨rfl, k99⟩))
      go_ret
      exact ⟨rfl, k99⟩
    · have hz : Q = zf := by have := dcF_err (l := ls t) (by rw [hQ]; exact he); rwa [hQ] at this
      subst hz
      have hrb : (e != 0) = true := by simpa using he
      unfold zf zt at HD3
      clear hQ he
      obtain ⟨pad, num, la, ⟨dt, tb, fr, ad⟩, txt⟩ := p
      simp only at h hA hiP HD1 HE1
      have p0_0 : (wA).cell? ⟨b, 0, none⟩ = some (.int .i64 pad) := HA0.out.cell 0 rfl
      have p0_1 : (wA).cell? ⟨b, 1, none⟩ = some (.int .i64 num) := HA0.out.cell 1 rfl
      have p0_2 : (wA).cell? ⟨b, 2, none⟩ = some (.int .i64 la) := HA0.out.cell 2 rfl
      have p0_3 : (wA).cell? ⟨b, 3, none⟩ = some (.int .i64 dt) := HA0.out.cell 3 rfl
      have p0_4 : (wA).cell? ⟨b, 4, none⟩ = some (.bool tb) := HA0.out.cell 4 rfl
      have p0_5 : (wA).cell? ⟨b, 5, none⟩ = some (.bool fr) := HA0.out.cell 5 rfl
      have p0_6 : (wA).cell? ⟨b, 6, none⟩ = some (.int .i64 ad) := HA0.out.cell 6 rfl
      have p0_7 : (wA).cell? ⟨b, 7, none⟩ = some (.string txt) := HA0.out.cell 7 rfl
      go_enter Try.func5, Try.ntmps5
      go_wp2_with (first | (refine wp_ldF (b := b) (off := 0) HA0.out.r rfl _ rfl rfl ?_) | (go_at_call 11; (with_reducible refine (HE1.out _).mono ?_); rintro _ w1 ⟨rfl, k1⟩; have HA1 := Lib.hid (HA0.out.keeps k1); have HK1 := Lib.hid (HK0.out.trans k1); have p1_0 : (w1).cell? ⟨b, 0, none⟩ = some (.int .i64 pad) := HA1.out.cell 0 rfl; have p1_1 : (w1).cell? ⟨b, 1, none⟩ = some (.int .i64 num) := HA1.out.cell 1 rfl; have p1_2 : (w1).cell? ⟨b, 2, none⟩ = some (.int .i64 la) := HA1.out.cell 2 rfl; have p1_3 : (w1).cell? ⟨b, 3, none⟩ = some (.int .i64 dt) := HA1.out.cell 3 rfl; have p1_4 : (w1).cell? ⟨b, 4, none⟩ = some (.bool tb) := HA1.out.cell 4 rfl; have p1_5 : (w1).cell? ⟨b, 5, none⟩ = some (.bool fr) := HA1.out.cell 5 rfl; have p1_6 : (w1).cell? ⟨b, 6, none⟩ = some (.int .i64 ad) := HA1.out.cell 6 rfl; have p1_7 : (w1).cell? ⟨b, 7, none⟩ = some (.string txt) := HA1.out.cell 7 rfl; clear k1) | (go_at_call 16; (with_reducible refine (HD1.out _).mono ?_); rintro _ w2 ⟨rfl, k2⟩; have HA2 := Lib.hid ((HA1.out.keeps k2).keeps ((Keeps.refl w2).alloc (.cells #[.int .i64 pad, .int .i64 num, .int .i64 la, .int .i64 dt, .bool tb, .bool fr, .int .i64 ad, .string txt] 25))); have HK2 := Lib.hid ((HK1.out.trans k2).alloc (.cells #[.int .i64 pad, .int .i64 num, .int .i64 la, .int .i64 dt, .bool tb, .bool fr, .int .i64 ad, .string txt] 25)); have p2_0 : (w2.alloc (.cells #[.int .i64 pad, .int .i64 num, .int .i64 la, .int .i64 dt, .bool tb, .bool fr, .int .i64 ad, .string txt] 25)).cell? ⟨b, 0, none⟩ = some (.int .i64 pad) := HA2.out.cell 0 rfl; have p2_1 : (w2.alloc (.cells #[.int .i64 pad, .int .i64 num, .int .i64 la, .int .i64 dt, .bool tb, .bool fr, .int .i64 ad, .string txt] 25)).cell? ⟨b, 1, none⟩ = some (.int .i64 num) := HA2.out.cell 1 rfl; have p2_2 : (w2.alloc (.cells #[.int .i64 pad, .int .i64 num, .int .i64 la, .int .i64 dt, .bool tb, .bool fr, .int .i64 ad, .string txt] 25)).cell? ⟨b, 2, none⟩ = some (.int .i64 la) := HA2.out.cell 2 rfl; have p2_3 : (w2.alloc (.cells #[.int .i64 pad, .int .i64 num, .int .i64 la, .int .i64 dt, .bool tb, .bool fr, .int .i64 ad, .string txt] 25)).cell? ⟨b, 3, none⟩ = some (.int .i64 dt) := HA2.out.cell 3 rfl; have p2_4 : (w2.alloc (.cells #[.int .i64 pad, .int .i64 num, .int .i64 la, .int .i64 dt, .bool tb, .bool fr, .int .i64 ad, .string txt] 25)).cell? ⟨b, 4, none⟩ = some (.bool tb) := HA2.out.cell 4 rfl; have p2_5 : (w2.alloc (.cells #[.int .i64 pad, .int .i64 num, .int .i64 la, .int .i64 dt, .bool tb, .bool fr, .int .i64 ad, .string txt] 25)).cell? ⟨b, 5, none⟩ = some (.bool fr) := HA2.out.cell 5 rfl; have p2_6 : (w2.alloc (.cells #[.int .i64 pad, .int .i64 num, .int .i64 la, .int .i64 dt, .bool tb, .bool fr, .int .i64 ad, .string txt] 25)).cell? ⟨b, 6, none⟩ = some (.int .i64 ad) := HA2.out.cell 6 rfl; have p2_7 : (w2.alloc (.cells #[.int .i64 pad, .int .i64 num, .int .i64 la, .int .i64 dt, .bool tb, .bool fr, .int .i64 ad, .string txt] 25)).cell? ⟨b, 7, none⟩ = some (.string txt) := HA2.out.cell 7 rfl; clear k2) | (go_at_call 16; (with_reducible refine (HD3.out _).mono ?_); rintro _ w3 ⟨rfl, k3⟩; have HA3 := Lib.hid ((HA2.out.keeps k3).keeps ((Keeps.refl w3).alloc (.cells #[.int .i64 0, .int .i64 0, .int .i64 0, .int .i64 0, .bool false, .bool false, .int .i64 0, .string ⟨#[]⟩] 25))); have HK3 := Lib.hid ((HK2.out.trans k3).alloc (.cells #[.int .i64 0, .int .i64 0, .int .i64 0, .int .i64 0, .bool false, .bool false, .int .i64 0, .string ⟨#[]⟩] 25)); clear k3) | (go_at_call 8; refine (awake11_any w _ HK3.out).mono ?_; rintro _ w99 ⟨rfl, k99⟩))
      go_ret
      exact ⟨rfl, k99⟩
  · rw [ecF_no hc] at HE1
    obtain ⟨n, hn⟩ : ∃ n, ckF p = n := ⟨_, rfl⟩
    have hnb : (n == 0) = false := by rw [← hn]; simpa using hc
    simp only [hn] at HE1
    clear hc hn
    by_cases he : e = 0
    · subst he
      obtain ⟨b1, b2, -, -⟩ := fby_dcF (l := ls t) (by rw [hQ])
      rw [hQ] at b1 b2
      simp only at b1 b2
      have b3 := (okZ_le (ckF_good b1).2).2
      have HE2 := Lib.hid (fun W => feencode_any W Q W (by omega) (Keeps.refl W))
      unfold FecPost at HE2
      rw [ecF_ok b1, b2, st_ls] at HE2
      clear hQ b1 b2 b3
      obtain ⟨qpad, qnum, qla, ⟨qdt, qtb, qfr, qad⟩, qtxt⟩ := Q
      obtain ⟨pad, num, la, ⟨dt, tb, fr, ad⟩, txt⟩ := p
      simp only at h hA hiP HE1
      have p0_0 : (wA).cell? ⟨b, 0, none⟩ = some (.int .i64 pad) := HA0.out.cell 0 rfl
      have p0_1 : (wA).cell? ⟨b, 1, none⟩ = some (.int .i64 num) := HA0.out.cell 1 rfl
      have p0_2 : (wA).cell? ⟨b, 2, none⟩ = some (.int .i64 la) := HA0.out.cell 2 rfl
      have p0_3 : (wA).cell? ⟨b, 3, none⟩ = some (.int .i64 dt) := HA0.out.cell 3 rfl
      have p0_4 : (wA).cell? ⟨b, 4, none⟩ = some (.bool tb) := HA0.out.cell 4 rfl
      have p0_5 : (wA).cell? ⟨b, 5, none⟩ = some (.bool fr) := HA0.out.cell 5 rfl
      have p0_6 : (wA).cell? ⟨b, 6, none⟩ = some (.int .i64 ad) := HA0.out.cell 6 rfl
      have p0_7 : (wA).cell? ⟨b, 7, none⟩ = some (.string txt) := HA0.out.cell 7 rfl
      go_enter Try.func5, Try.ntmps5
      go_wp2_with (first | (refine wp_ldF (b := b) (off := 0) HA0.out.r rfl _ rfl rfl ?_) | (go_at_call 11; (with_reducible refine (HE1.out _).mono ?_); rintro _ w1 ⟨rfl, k1⟩; have HA1 := Lib.hid (HA0.out.keeps k1); have HK1 := Lib.hid (HK0.out.trans k1); have p1_0 : (w1).cell? ⟨b, 0, none⟩ = some (.int .i64 pad) := HA1.out.cell 0 rfl; have p1_1 : (w1).cell? ⟨b, 1, none⟩ = some (.int .i64 num) := HA1.out.cell 1 rfl; have p1_2 : (w1).cell? ⟨b, 2, none⟩ = some (.int .i64 la) := HA1.out.cell 2 rfl; have p1_3 : (w1).cell? ⟨b, 3, none⟩ = some (.int .i64 dt) := HA1.out.cell 3 rfl; have p1_4 : (w1).cell? ⟨b, 4, none⟩ = some (.bool tb) := HA1.out.cell 4 rfl; have p1_5 : (w1).cell? ⟨b, 5, none⟩ = some (.bool fr) := HA1.out.cell 5 rfl; have p1_6 : (w1).cell? ⟨b, 6, none⟩ = some (.int .i64 ad) := HA1.out.cell 6 rfl; have p1_7 : (w1).cell? ⟨b, 7, none⟩ = some (.string txt) := HA1.out.cell 7 rfl; clear k1) | (go_at_call 16; (with_reducible refine (HD3.out _).mono ?_); rintro _ w2 ⟨rfl, k2⟩; have HA2 := Lib.hid ((HA1.out.keeps k2).keeps ((Keeps.refl w2).alloc (.cells #[.int .i64 qpad, .int .i64 qnum, .int .i64 qla, .int .i64 qdt, .bool qtb, .bool qfr, .int .i64 qad, .string qtxt] 25))); have HK2 := Lib.hid ((HK1.out.trans k2).alloc (.cells #[.int .i64 qpad, .int .i64 qnum, .int .i64 qla, .int .i64 qdt, .bool qtb, .bool qfr, .int .i64 qad, .string qtxt] 25)); clear k2) | (go_at_call 11; (with_reducible refine (HE2.out _).mono ?_); rintro _ w3 ⟨rfl, k3⟩; have HA3 := Lib.hid (HA2.out.keeps k3); have HK3 := Lib.hid (HK2.out.trans k3); clear k3) | (go_at_call 8; refine (awake11_any w _ HK3.out).mono ?_; rintro _ w99 ⟨rfl, k99⟩))
      go_ret
      exact ⟨rfl, k99⟩
    · have hz : Q = zf := by have := dcF_err (l := ls t) (by rw [hQ]; exact he); rwa [hQ] at this
      subst hz
      have hrb : (e != 0) = true := by simpa using he
      unfold zf zt at HD3
      clear hQ he
      obtain ⟨pad, num, la, ⟨dt, tb, fr, ad⟩, txt⟩ := p
      simp only at h hA hiP HE1
      have p0_0 : (wA).cell? ⟨b, 0, none⟩ = some (.int .i64 pad) := HA0.out.cell 0 rfl
      have p0_1 : (wA).cell? ⟨b, 1, none⟩ = some (.int .i64 num) := HA0.out.cell 1 rfl
      have p0_2 : (wA).cell? ⟨b, 2, none⟩ = some (.int .i64 la) := HA0.out.cell 2 rfl
      have p0_3 : (wA).cell? ⟨b, 3, none⟩ = some (.int .i64 dt) := HA0.out.cell 3 rfl
      have p0_4 : (wA).cell? ⟨b, 4, none⟩ = some (.bool tb) := HA0.out.cell 4 rfl
      have p0_5 : (wA).cell? ⟨b, 5, none⟩ = some (.bool fr) := HA0.out.cell 5 rfl
      have p0_6 : (wA).cell? ⟨b, 6, none⟩ = some (.int .i64 ad) := HA0.out.cell 6 rfl
      have p0_7 : (wA).cell? ⟨b, 7, none⟩ = some (.string txt) := HA0.out.cell 7 rfl
      go_enter Try.func5, Try.ntmps5
      go_wp2_with (first | (refine wp_ldF (b := b) (off := 0) HA0.out.r rfl _ rfl rfl ?_) | (go_at_call 11; (with_reducible refine (HE1.out _).mono ?_); rintro _ w1 ⟨rfl, k1⟩; have HA1 := Lib.hid (HA0.out.keeps k1); have HK1 := Lib.hid (HK0.out.trans k1); have p1_0 : (w1).cell? ⟨b, 0, none⟩ = some (.int .i64 pad) := HA1.out.cell 0 rfl; have p1_1 : (w1).cell? ⟨b, 1, none⟩ = some (.int .i64 num) := HA1.out.cell 1 rfl; have p1_2 : (w1).cell? ⟨b, 2, none⟩ = some (.int .i64 la) := HA1.out.cell 2 rfl; have p1_3 : (w1).cell? ⟨b, 3, none⟩ = some (.int .i64 dt) := HA1.out.cell 3 rfl; have p1_4 : (w1).cell? ⟨b, 4, none⟩ = some (.bool tb) := HA1.out.cell 4 rfl; have p1_5 : (w1).cell? ⟨b, 5, none⟩ = some (.bool fr) := HA1.out.cell 5 rfl; have p1_6 : (w1).cell? ⟨b, 6, none⟩ = some (.int .i64 ad) := HA1.out.cell 6 rfl; have p1_7 : (w1).cell? ⟨b, 7, none⟩ = some (.string txt) := HA1.out.cell 7 rfl; clear k1) | (go_at_call 16; (with_reducible refine (HD3.out _).mono ?_); rintro _ w2 ⟨rfl, k2⟩; have HA2 := Lib.hid ((HA1.out.keeps k2).keeps ((Keeps.refl w2).alloc (.cells #[.int .i64 0, .int .i64 0, .int .i64 0, .int .i64 0, .bool false, .bool false, .int .i64 0, .string ⟨#[]⟩] 25))); have HK2 := Lib.hid ((HK1.out.trans k2).alloc (.cells #[.int .i64 0, .int .i64 0, .int .i64 0, .int .i64 0, .bool false, .bool false, .int .i64 0, .string ⟨#[]⟩] 25)); clear k2) | (go_at_call 8; refine (awake11_any w _ HK2.out).mono ?_; rintro _ w99 ⟨rfl, k99⟩))
      go_ret
      exact ⟨rfl, k99⟩
theorem walk (p : Fpt) (t : ByteArray) (ht : t.size ≤ maxLen) (w : World) :
    Calls Try.prog 5 #[feV p, .string t] w fun e w' => e = .returned (.bool true) ∧ Below w.heap.size w w' := by
  by_cases h : p.txt.size ≤ 5000
  · by_cases g : t.size ≤ 5000
    · exact core p t w h g
    · exact off p t w (.inr ⟨h, by omega⟩)
  · exact off p t w (.inl (by omega))


theorem own : ownKnob Try.prog.godebug = none := by kernel_rfl
theorem laidOut : laidOutB Try.prog = true := by kernel_rfl
set_option maxRecDepth 100000 in
theorem lifted (os : Os) (started : os.Started) (H : Type) (enc : TypeId × Value → H) :
    ReturnsInHanded {} Try.checked os 5 .any (Rows.fecBackSpec.pre6 enc Try.prog Try.f5 Rows.fecBackRow.domain false) (Rows.fecBackSpec.post enc Try.prog Try.f5 false true false false) := by
  refine returnsInHanded_of_change (C := Try.checked) own started (by kernel_rfl) Try.func5
    (ChangeSpec.witness6 (enc := enc) (C := Try.checked) false ⟨#[], #[.agg #[.int .i64 0, .int .i64 0, .int .i64 0, .int .i64 0, .bool false, .bool false, .int .i64 0, .string ByteArray.empty], .string ByteArray.empty], []⟩ 8 (by kernel_rfl) (by kernel_rfl) (by kernel_rfl) (by kernel_rfl)) ?_
  intro W base args ds gs before hval0 hW hcnd _
  have hval : ∀ (j : Nat) t v, Try.f5.params[j]? = some t → args[j]? = some v → Value.okWide Try.prog W .any base t v := hval0
  have hW' := hW
  obtain ⟨p, q, hA0, hV, rfl, hfz, hnd⟩ := hW
  have hA : DataW.TrodAll enc Try.prog W 0 (fun _ => true) true Try.f5.params.toList args.toList ds p := hA0
  rw [Try.params5] at hA hval
  obtain ⟨v0, vs0, d0, ds0, p0, q0, hargs, rfl, rfl, h0, r0⟩ := trodAll_cons hA
  obtain ⟨v1, vs1, d1, ds1, p1, q1, rfl, rfl, rfl, h1, r1⟩ := trodAll_cons r0
  obtain ⟨rfl, rfl, rfl⟩ := trodAll_nil r1
  obtain rfl : args = #[v0, v1] := by cases args; simp_all
  obtain ⟨rfl, rfl⟩ := trodVars_none hV
  have k0 := h0
  have lt0 : ∀ x ∈ p0, x.block < W.heap.size := by obtain ⟨m, hm⟩ := k0; exact DataW.trod_lt m _ _ _ hm
  obtain ⟨P0, rfl⟩ := open_fpt (hval 0 25 v0 rfl rfl) h0
  obtain ⟨a1, rfl, rfl, rfl, w1⟩ := open_string Try.underlying9 (hval 1 9 v1 rfl rfl) h1
  clear hA0 hval0
  refine (walk P0 a1 w1 W).mono fun e W' ⟨he, bel⟩ => ?_
  subst he
  exact ⟨_, rfl, _, _, _, [], _, [], hW', trodAll_mk1 (shut_bool Try.underlying4 _), (trodAll_cons_mk (Below.trod laidOut (by kernel_rfl) (of_decide_eq_true (by kernel_rfl)) k0 bel lt0) (trodAll_cons_mk (shut_string Try.underlying9 w1) trodAll_mk0)), rfl, bel.frame _, fun h => by cases h⟩

theorem over : Rows.fecBackRow.holds Try.pinned (OpenSpec.ofChange Rows.fecBackSpec) :=
  OpenClaim.holds_of_wide 5 Try.f5 rfl rfl rfl rfl rfl rfl rfl ⟨rfl, rfl, rfl, rfl, rfl⟩ rfl rfl rfl rfl rfl (by kernel_rfl) Try.func5 (by kernel_rfl)
    (of_decide_eq_true (by kernel_rfl)) (by unfold Func.isWrapper; first | (rw [if_pos (by decide +kernel)]; kernel_rfl) | (rw [if_neg (by decide +kernel)]; exact ⟨rfl, rfl⟩))
    (fun os started H enc _ => lifted os started H enc)

theorem proved : Rows.FecBackSaid := over
#print axioms proved
end Go.Proofs.Ytdpgphidielajaa.fecBack
