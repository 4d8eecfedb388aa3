/-
  For any part, any string and any times MpeBack returns true: Decode of Encode is the part, Encode of Decode the bytes, and times that are put in, and those that were put back, leave the section; nothing that was there is changed. No condition.
-/
import Derived.Test.YtbkodlinfmflkaaRows
import Derived.Test.YtbkodlinfmflkaaMpC
import Derived.Test.YtbkodlinfmflkaaMpA
import Derived.Test.YtbkodlinfmflkaaMpLaw
namespace Go.Proofs.Ytbkodlinfmflkaa.mpeBack
open Go.ChangeShapes Go.WideShapes Go.ChangeAt Go.RowKit Gf Tm Sct Mpe
set_option maxRecDepth 100000
open Go.ChangeMaps (open_string shut_string)
set_option linter.unusedVariables false
set_option maxHeartbeats 6400000 in
theorem off (p : Prt) (t : ByteArray) (x : Tms) (w : World) (h : 5000 < p.txt.size ∨ (p.txt.size ≤ 5000 ∧ 5000 < t.size)) :
    Calls Try.prog 5 #[prV p, .string t, tmV x] w fun e w' => e = .returned (.bool true) ∧ Below w.heap.size w w' := by
  obtain ⟨b, hb⟩ : ∃ b, w.heap.size = b := ⟨_, rfl⟩
  obtain ⟨wA, hA⟩ : ∃ wX, w.alloc (.cells #[.int .i64 p.mac, .int .i64 p.tm.dt, .bool p.tm.tb, .bool p.tm.fr, .int .i64 p.tm.ad, .string p.txt] 25) = wX := ⟨_, rfl⟩
  have HA := Lib.hid (show CsAt b (prC p) wA by rw [← hb, ← hA]; exact CsAt.made w #[.int .i64 p.mac, .int .i64 p.tm.dt, .bool p.tm.tb, .bool p.tm.fr, .int .i64 p.tm.ad, .string p.txt] _ (by simp))
  obtain ⟨c, hc⟩ : ∃ b, wA.heap.size = b := ⟨_, rfl⟩
  obtain ⟨wB, hB⟩ : ∃ wX, wA.alloc (.cells #[.int .i64 x.dt, .bool x.tb, .bool x.fr, .int .i64 x.ad] 23) = wX := ⟨_, rfl⟩
  have HT := Lib.hid (show TmAt c x wB by rw [← hc, ← hB]; exact TmAt.made wA x _)
  have HK0 := Lib.hid (show Keeps w wB by rw [← hB, ← hA]; exact ((Keeps.refl w).alloc _).alloc _)
  have hcz : wA.heap.size = b + 1 := by rw [← hA, World.size_alloc, hb]
  have hc2 : c = b + 1 := by rw [← hc, hcz]
  subst hc2
  clear hc
  have HA0 := Lib.hid (show CsAt b (prC p) wB by rw [← hB]; exact HA.out.keeps ((Keeps.refl wA).alloc _))
  have HX0 := Lib.hid (show CsAt (b + 1) (tmC x) wB from ⟨HT.out.range, HT.out.fz, by simp⟩)
  rcases h with h | ⟨h, g⟩
  · obtain ⟨mac, ⟨dt, tb, fr, ad⟩, txt⟩ := p
    obtain ⟨xd, xt, xf, xa⟩ := x
    simp only at h hA hB
    have hi : (5000 : Int) < (txt.size : Int) := by omega
    have p0_0 : (wB).cell? ⟨b, 0, none⟩ = some (.int .i64 mac) := HA0.out.cell 0 rfl
    have p0_1 : (wB).cell? ⟨b, 1, none⟩ = some (.int .i64 dt) := HA0.out.cell 1 rfl
    have p0_2 : (wB).cell? ⟨b, 2, none⟩ = some (.bool tb) := HA0.out.cell 2 rfl
    have p0_3 : (wB).cell? ⟨b, 3, none⟩ = some (.bool fr) := HA0.out.cell 3 rfl
    have p0_4 : (wB).cell? ⟨b, 4, none⟩ = some (.int .i64 ad) := HA0.out.cell 4 rfl
    have p0_5 : (wB).cell? ⟨b, 5, none⟩ = some (.string txt) := HA0.out.cell 5 rfl
    have x0_0 : (wB).cell? ⟨b + 1, 0, none⟩ = some (.int .i64 xd) := HX0.out.cell 0 rfl
    have x0_1 : (wB).cell? ⟨b + 1, 1, none⟩ = some (.bool xt) := HX0.out.cell 1 rfl
    have x0_2 : (wB).cell? ⟨b + 1, 2, none⟩ = some (.bool xf) := HX0.out.cell 2 rfl
    have x0_3 : (wB).cell? ⟨b + 1, 3, none⟩ = some (.int .i64 xa) := HX0.out.cell 3 rfl
    go_enter Try.func5, Try.ntmps5
    go_wp2_with (first | (go_at_call 10; refine (awake10_any w _ (HK0.out)).mono ?_; rintro _ w99 ⟨rfl, k99⟩))
    go_ret
    exact ⟨rfl, k99⟩
  · obtain ⟨mac, ⟨dt, tb, fr, ad⟩, txt⟩ := p
    obtain ⟨xd, xt, xf, xa⟩ := x
    simp only at h hA hB
    have hi : ¬ (5000 : Int) < (txt.size : Int) := by omega
    have gi : (5000 : Int) < (t.size : Int) := by omega
    have p0_0 : (wB).cell? ⟨b, 0, none⟩ = some (.int .i64 mac) := HA0.out.cell 0 rfl
    have p0_1 : (wB).cell? ⟨b, 1, none⟩ = some (.int .i64 dt) := HA0.out.cell 1 rfl
    have p0_2 : (wB).cell? ⟨b, 2, none⟩ = some (.bool tb) := HA0.out.cell 2 rfl
    have p0_3 : (wB).cell? ⟨b, 3, none⟩ = some (.bool fr) := HA0.out.cell 3 rfl
    have p0_4 : (wB).cell? ⟨b, 4, none⟩ = some (.int .i64 ad) := HA0.out.cell 4 rfl
    have p0_5 : (wB).cell? ⟨b, 5, none⟩ = some (.string txt) := HA0.out.cell 5 rfl
    have x0_0 : (wB).cell? ⟨b + 1, 0, none⟩ = some (.int .i64 xd) := HX0.out.cell 0 rfl
    have x0_1 : (wB).cell? ⟨b + 1, 1, none⟩ = some (.bool xt) := HX0.out.cell 1 rfl
    have x0_2 : (wB).cell? ⟨b + 1, 2, none⟩ = some (.bool xf) := HX0.out.cell 2 rfl
    have x0_3 : (wB).cell? ⟨b + 1, 3, none⟩ = some (.int .i64 xa) := HX0.out.cell 3 rfl
    go_enter Try.func5, Try.ntmps5
    go_wp2_with (first | (go_at_call 10; refine (awake10_any w _ (HK0.out)).mono ?_; rintro _ w99 ⟨rfl, k99⟩))
    go_ret
    exact ⟨rfl, k99⟩
set_option maxHeartbeats 12800000 in
theorem core (p : Prt) (t : ByteArray) (x : Tms) (w : World) (h : p.txt.size ≤ 5000) (g : t.size ≤ 5000) :
    Calls Try.prog 5 #[prV p, .string t, tmV x] w fun e w' => e = .returned (.bool true) ∧ Below w.heap.size w w' := by
  obtain ⟨b, hb⟩ : ∃ b, w.heap.size = b := ⟨_, rfl⟩
  obtain ⟨wA, hA⟩ : ∃ wX, w.alloc (.cells #[.int .i64 p.mac, .int .i64 p.tm.dt, .bool p.tm.tb, .bool p.tm.fr, .int .i64 p.tm.ad, .string p.txt] 25) = wX := ⟨_, rfl⟩
  have HA := Lib.hid (show CsAt b (prC p) wA by rw [← hb, ← hA]; exact CsAt.made w #[.int .i64 p.mac, .int .i64 p.tm.dt, .bool p.tm.tb, .bool p.tm.fr, .int .i64 p.tm.ad, .string p.txt] _ (by simp))
  obtain ⟨c, hc⟩ : ∃ b, wA.heap.size = b := ⟨_, rfl⟩
  obtain ⟨wB, hB⟩ : ∃ wX, wA.alloc (.cells #[.int .i64 x.dt, .bool x.tb, .bool x.fr, .int .i64 x.ad] 23) = wX := ⟨_, rfl⟩
  have HT := Lib.hid (show TmAt c x wB by rw [← hc, ← hB]; exact TmAt.made wA x _)
  have HK0 := Lib.hid (show Keeps w wB by rw [← hB, ← hA]; exact ((Keeps.refl w).alloc _).alloc _)
  have hcz : wA.heap.size = b + 1 := by rw [← hA, World.size_alloc, hb]
  have hc2 : c = b + 1 := by rw [← hc, hcz]
  subst hc2
  clear hc
  have HA0 := Lib.hid (show CsAt b (prC p) wB by rw [← hB]; exact HA.out.keeps ((Keeps.refl wA).alloc _))
  have HX0 := Lib.hid (show CsAt (b + 1) (tmC x) wB from ⟨HT.out.range, HT.out.fz, by simp⟩)
  have HE1 := Lib.hid (fun W => mpencode_any W p W (by omega) (Keeps.refl W))
  unfold PecPost at HE1
  have HD3 := Lib.hid (fun W => mpdecode_any W t W (by omega) (Keeps.refl W))
  unfold PdcPost at HD3
  have hiP : ¬ (5000 : Int) < (p.txt.size : Int) := by omega
  have gi : ¬ (5000 : Int) < (t.size : Int) := by omega
  have heg := egP
  have heg2 := egT
  obtain ⟨⟨Q, e⟩, hQ⟩ : ∃ q, dcP (ls t) = q := ⟨_, rfl⟩
  simp only [hQ] at HD3
  by_cases hc : ckP p = 0
  · rw [ecP_ok hc] at HE1
    have hok := (ckP_good hc).1.2
    have HD1 := Lib.hid (fun W => mpdecode_any W (st (mby p)) W (by rw [st_size, mby_length]; omega) (Keeps.refl W))
    unfold PdcPost at HD1
    have HW1 := Lib.hid (fun W => mpwith_any W (st (mby p)) x W (by rw [st_size, mby_length]; omega) (Keeps.refl W))
    unfold PwtPost at HW1
    simp only [ls_st, dcP_mby hc] at HD1 HW1
    by_cases hx : okT x
    · rw [wtP_mby hc hx] at HW1
      have HD2 := Lib.hid (fun W => mpdecode_any W (st (mby (wt p x))) W (by rw [st_size, mby_length]; show p.txt.size + 16 ≤ _; omega) (Keeps.refl W))
      unfold PdcPost at HD2
      have HW2 := Lib.hid (fun W => mpwith_any W (st (mby (wt p x))) p.tm W (by rw [st_size, mby_length]; show p.txt.size + 16 ≤ _; omega) (Keeps.refl W))
      unfold PwtPost at HW2
      simp only [ls_st, dcP_mby (ckP_wt hc hx), wtP_mby (ckP_wt hc hx) hok, wt_wt] at HD2 HW2
      obtain ⟨Y, hY⟩ : ∃ Y, st (mby p) = Y := ⟨_, rfl⟩
      obtain ⟨U, hU⟩ : ∃ U, st (mby (wt p x)) = U := ⟨_, rfl⟩
      simp only [hY, hU] at HE1 HD1 HW1 HD2 HW2
      unfold wt at HD2
      clear hc hx hok hY hU
      by_cases he : e = 0
      · subst he
        obtain ⟨b1, b2, -, -⟩ := mby_dcP (l := ls t) (by rw [hQ])
        rw [hQ] at b1 b2
        simp only at b1 b2
        have b3 := (check_len (ckP_good b1).2).2
        rw [← ls_size] at b3
        have HE2 := Lib.hid (fun W => mpencode_any W Q W (by omega) (Keeps.refl W))
        unfold PecPost at HE2
        rw [ecP_ok b1, b2, st_ls] at HE2
        clear hQ b1 b2 b3
        obtain ⟨qm, ⟨qd, qt, qf, qa⟩, qs⟩ := Q
        obtain ⟨mac, ⟨dt, tb, fr, ad⟩, txt⟩ := p
        obtain ⟨xd, xt, xf, xa⟩ := x
        simp only at h hA hB hiP HW1 HW2 HD1 HD2 HE1
        have p0_0 : (wB).cell? ⟨b, 0, none⟩ = some (.int .i64 mac) := HA0.out.cell 0 rfl
        have p0_1 : (wB).cell? ⟨b, 1, none⟩ = some (.int .i64 dt) := HA0.out.cell 1 rfl
        have p0_2 : (wB).cell? ⟨b, 2, none⟩ = some (.bool tb) := HA0.out.cell 2 rfl
        have p0_3 : (wB).cell? ⟨b, 3, none⟩ = some (.bool fr) := HA0.out.cell 3 rfl
        have p0_4 : (wB).cell? ⟨b, 4, none⟩ = some (.int .i64 ad) := HA0.out.cell 4 rfl
        have p0_5 : (wB).cell? ⟨b, 5, none⟩ = some (.string txt) := HA0.out.cell 5 rfl
        have x0_0 : (wB).cell? ⟨b + 1, 0, none⟩ = some (.int .i64 xd) := HX0.out.cell 0 rfl
        have x0_1 : (wB).cell? ⟨b + 1, 1, none⟩ = some (.bool xt) := HX0.out.cell 1 rfl
        have x0_2 : (wB).cell? ⟨b + 1, 2, none⟩ = some (.bool xf) := HX0.out.cell 2 rfl
        have x0_3 : (wB).cell? ⟨b + 1, 3, none⟩ = some (.int .i64 xa) := HX0.out.cell 3 rfl
        go_enter Try.func5, Try.ntmps5
        go_wp2_with (first | (go_at_call 13; (with_reducible refine (HE1.out _).mono ?_); rintro _ w1 ⟨rfl, k1⟩; have HA1 := Lib.hid ((HA0.out.keeps k1)); have HX1 := Lib.hid ((HX0.out.keeps k1)); have HK1 := Lib.hid ((HK0.out.trans k1)); have p1_0 : (w1).cell? ⟨b, 0, none⟩ = some (.int .i64 mac) := HA1.out.cell 0 rfl; have p1_1 : (w1).cell? ⟨b, 1, none⟩ = some (.int .i64 dt) := HA1.out.cell 1 rfl; have p1_2 : (w1).cell? ⟨b, 2, none⟩ = some (.bool tb) := HA1.out.cell 2 rfl; have p1_3 : (w1).cell? ⟨b, 3, none⟩ = some (.bool fr) := HA1.out.cell 3 rfl; have p1_4 : (w1).cell? ⟨b, 4, none⟩ = some (.int .i64 ad) := HA1.out.cell 4 rfl; have p1_5 : (w1).cell? ⟨b, 5, none⟩ = some (.string txt) := HA1.out.cell 5 rfl; have x1_0 : (w1).cell? ⟨b + 1, 0, none⟩ = some (.int .i64 xd) := HX1.out.cell 0 rfl; have x1_1 : (w1).cell? ⟨b + 1, 1, none⟩ = some (.bool xt) := HX1.out.cell 1 rfl; have x1_2 : (w1).cell? ⟨b + 1, 2, none⟩ = some (.bool xf) := HX1.out.cell 2 rfl; have x1_3 : (w1).cell? ⟨b + 1, 3, none⟩ = some (.int .i64 xa) := HX1.out.cell 3 rfl; clear k1) | (go_at_call 17; (with_reducible refine (HD1.out _).mono ?_); rintro _ w2 ⟨rfl, k2⟩; have HA2 := Lib.hid ((HA1.out.keeps k2).keeps ((Keeps.refl w2).alloc (.cells #[.int .i64 mac, .int .i64 dt, .bool tb, .bool fr, .int .i64 ad, .string txt] 25))); have HX2 := Lib.hid ((HX1.out.keeps k2).keeps ((Keeps.refl w2).alloc (.cells #[.int .i64 mac, .int .i64 dt, .bool tb, .bool fr, .int .i64 ad, .string txt] 25))); have HK2 := Lib.hid ((HK1.out.trans k2).alloc (.cells #[.int .i64 mac, .int .i64 dt, .bool tb, .bool fr, .int .i64 ad, .string txt] 25)); have p2_0 : (w2.alloc (.cells #[.int .i64 mac, .int .i64 dt, .bool tb, .bool fr, .int .i64 ad, .string txt] 25)).cell? ⟨b, 0, none⟩ = some (.int .i64 mac) := HA2.out.cell 0 rfl; have p2_1 : (w2.alloc (.cells #[.int .i64 mac, .int .i64 dt, .bool tb, .bool fr, .int .i64 ad, .string txt] 25)).cell? ⟨b, 1, none⟩ = some (.int .i64 dt) := HA2.out.cell 1 rfl; have p2_2 : (w2.alloc (.cells #[.int .i64 mac, .int .i64 dt, .bool tb, .bool fr, .int .i64 ad, .string txt] 25)).cell? ⟨b, 2, none⟩ = some (.bool tb) := HA2.out.cell 2 rfl; have p2_3 : (w2.alloc (.cells #[.int .i64 mac, .int .i64 dt, .bool tb, .bool fr, .int .i64 ad, .string txt] 25)).cell? ⟨b, 3, none⟩ = some (.bool fr) := HA2.out.cell 3 rfl; have p2_4 : (w2.alloc (.cells #[.int .i64 mac, .int .i64 dt, .bool tb, .bool fr, .int .i64 ad, .string txt] 25)).cell? ⟨b, 4, none⟩ = some (.int .i64 ad) := HA2.out.cell 4 rfl; have p2_5 : (w2.alloc (.cells #[.int .i64 mac, .int .i64 dt, .bool tb, .bool fr, .int .i64 ad, .string txt] 25)).cell? ⟨b, 5, none⟩ = some (.string txt) := HA2.out.cell 5 rfl; have x2_0 : (w2.alloc (.cells #[.int .i64 mac, .int .i64 dt, .bool tb, .bool fr, .int .i64 ad, .string txt] 25)).cell? ⟨b + 1, 0, none⟩ = some (.int .i64 xd) := HX2.out.cell 0 rfl; have x2_1 : (w2.alloc (.cells #[.int .i64 mac, .int .i64 dt, .bool tb, .bool fr, .int .i64 ad, .string txt] 25)).cell? ⟨b + 1, 1, none⟩ = some (.bool xt) := HX2.out.cell 1 rfl; have x2_2 : (w2.alloc (.cells #[.int .i64 mac, .int .i64 dt, .bool tb, .bool fr, .int .i64 ad, .string txt] 25)).cell? ⟨b + 1, 2, none⟩ = some (.bool xf) := HX2.out.cell 2 rfl; have x2_3 : (w2.alloc (.cells #[.int .i64 mac, .int .i64 dt, .bool tb, .bool fr, .int .i64 ad, .string txt] 25)).cell? ⟨b + 1, 3, none⟩ = some (.int .i64 xa) := HX2.out.cell 3 rfl; clear k2) | (go_at_call 19; (with_reducible refine (HW1.out _).mono ?_); rintro _ w3 ⟨rfl, k3⟩; have HA3 := Lib.hid ((HA2.out.keeps k3)); have HX3 := Lib.hid ((HX2.out.keeps k3)); have HK3 := Lib.hid ((HK2.out.trans k3)); have p3_0 : (w3).cell? ⟨b, 0, none⟩ = some (.int .i64 mac) := HA3.out.cell 0 rfl; have p3_1 : (w3).cell? ⟨b, 1, none⟩ = some (.int .i64 dt) := HA3.out.cell 1 rfl; have p3_2 : (w3).cell? ⟨b, 2, none⟩ = some (.bool tb) := HA3.out.cell 2 rfl; have p3_3 : (w3).cell? ⟨b, 3, none⟩ = some (.bool fr) := HA3.out.cell 3 rfl; have p3_4 : (w3).cell? ⟨b, 4, none⟩ = some (.int .i64 ad) := HA3.out.cell 4 rfl; have p3_5 : (w3).cell? ⟨b, 5, none⟩ = some (.string txt) := HA3.out.cell 5 rfl; have x3_0 : (w3).cell? ⟨b + 1, 0, none⟩ = some (.int .i64 xd) := HX3.out.cell 0 rfl; have x3_1 : (w3).cell? ⟨b + 1, 1, none⟩ = some (.bool xt) := HX3.out.cell 1 rfl; have x3_2 : (w3).cell? ⟨b + 1, 2, none⟩ = some (.bool xf) := HX3.out.cell 2 rfl; have x3_3 : (w3).cell? ⟨b + 1, 3, none⟩ = some (.int .i64 xa) := HX3.out.cell 3 rfl; clear k3) | (go_at_call 19; (with_reducible refine (HW2.out _).mono ?_); rintro _ w4 ⟨rfl, k4⟩; have HA4 := Lib.hid ((HA3.out.keeps k4)); have HX4 := Lib.hid ((HX3.out.keeps k4)); have HK4 := Lib.hid ((HK3.out.trans k4)); have p4_0 : (w4).cell? ⟨b, 0, none⟩ = some (.int .i64 mac) := HA4.out.cell 0 rfl; have p4_1 : (w4).cell? ⟨b, 1, none⟩ = some (.int .i64 dt) := HA4.out.cell 1 rfl; have p4_2 : (w4).cell? ⟨b, 2, none⟩ = some (.bool tb) := HA4.out.cell 2 rfl; have p4_3 : (w4).cell? ⟨b, 3, none⟩ = some (.bool fr) := HA4.out.cell 3 rfl; have p4_4 : (w4).cell? ⟨b, 4, none⟩ = some (.int .i64 ad) := HA4.out.cell 4 rfl; have p4_5 : (w4).cell? ⟨b, 5, none⟩ = some (.string txt) := HA4.out.cell 5 rfl; have x4_0 : (w4).cell? ⟨b + 1, 0, none⟩ = some (.int .i64 xd) := HX4.out.cell 0 rfl; have x4_1 : (w4).cell? ⟨b + 1, 1, none⟩ = some (.bool xt) := HX4.out.cell 1 rfl; have x4_2 : (w4).cell? ⟨b + 1, 2, none⟩ = some (.bool xf) := HX4.out.cell 2 rfl; have x4_3 : (w4).cell? ⟨b + 1, 3, none⟩ = some (.int .i64 xa) := HX4.out.cell 3 rfl; clear k4) | (go_at_call 17; (with_reducible refine (HD2.out _).mono ?_); rintro _ w5 ⟨rfl, k5⟩; have HA5 := Lib.hid ((HA4.out.keeps k5).keeps ((Keeps.refl w5).alloc (.cells #[.int .i64 mac, .int .i64 xd, .bool xt, .bool xf, .int .i64 xa, .string txt] 25))); have HX5 := Lib.hid ((HX4.out.keeps k5).keeps ((Keeps.refl w5).alloc (.cells #[.int .i64 mac, .int .i64 xd, .bool xt, .bool xf, .int .i64 xa, .string txt] 25))); have HK5 := Lib.hid ((HK4.out.trans k5).alloc (.cells #[.int .i64 mac, .int .i64 xd, .bool xt, .bool xf, .int .i64 xa, .string txt] 25)); have p5_0 : (w5.alloc (.cells #[.int .i64 mac, .int .i64 xd, .bool xt, .bool xf, .int .i64 xa, .string txt] 25)).cell? ⟨b, 0, none⟩ = some (.int .i64 mac) := HA5.out.cell 0 rfl; have p5_1 : (w5.alloc (.cells #[.int .i64 mac, .int .i64 xd, .bool xt, .bool xf, .int .i64 xa, .string txt] 25)).cell? ⟨b, 1, none⟩ = some (.int .i64 dt) := HA5.out.cell 1 rfl; have p5_2 : (w5.alloc (.cells #[.int .i64 mac, .int .i64 xd, .bool xt, .bool xf, .int .i64 xa, .string txt] 25)).cell? ⟨b, 2, none⟩ = some (.bool tb) := HA5.out.cell 2 rfl; have p5_3 : (w5.alloc (.cells #[.int .i64 mac, .int .i64 xd, .bool xt, .bool xf, .int .i64 xa, .string txt] 25)).cell? ⟨b, 3, none⟩ = some (.bool fr) := HA5.out.cell 3 rfl; have p5_4 : (w5.alloc (.cells #[.int .i64 mac, .int .i64 xd, .bool xt, .bool xf, .int .i64 xa, .string txt] 25)).cell? ⟨b, 4, none⟩ = some (.int .i64 ad) := HA5.out.cell 4 rfl; have p5_5 : (w5.alloc (.cells #[.int .i64 mac, .int .i64 xd, .bool xt, .bool xf, .int .i64 xa, .string txt] 25)).cell? ⟨b, 5, none⟩ = some (.string txt) := HA5.out.cell 5 rfl; have x5_0 : (w5.alloc (.cells #[.int .i64 mac, .int .i64 xd, .bool xt, .bool xf, .int .i64 xa, .string txt] 25)).cell? ⟨b + 1, 0, none⟩ = some (.int .i64 xd) := HX5.out.cell 0 rfl; have x5_1 : (w5.alloc (.cells #[.int .i64 mac, .int .i64 xd, .bool xt, .bool xf, .int .i64 xa, .string txt] 25)).cell? ⟨b + 1, 1, none⟩ = some (.bool xt) := HX5.out.cell 1 rfl; have x5_2 : (w5.alloc (.cells #[.int .i64 mac, .int .i64 xd, .bool xt, .bool xf, .int .i64 xa, .string txt] 25)).cell? ⟨b + 1, 2, none⟩ = some (.bool xf) := HX5.out.cell 2 rfl; have x5_3 : (w5.alloc (.cells #[.int .i64 mac, .int .i64 xd, .bool xt, .bool xf, .int .i64 xa, .string txt] 25)).cell? ⟨b + 1, 3, none⟩ = some (.int .i64 xa) := HX5.out.cell 3 rfl; clear k5) | (go_at_call 17; (with_reducible refine (HD3.out _).mono ?_); rintro _ w6 ⟨rfl, k6⟩; have HA6 := Lib.hid ((HA5.out.keeps k6).keeps ((Keeps.refl w6).alloc (.cells #[.int .i64 qm, .int .i64 qd, .bool qt, .bool qf, .int .i64 qa, .string qs] 25))); have HX6 := Lib.hid ((HX5.out.keeps k6).keeps ((Keeps.refl w6).alloc (.cells #[.int .i64 qm, .int .i64 qd, .bool qt, .bool qf, .int .i64 qa, .string qs] 25))); have HK6 := Lib.hid ((HK5.out.trans k6).alloc (.cells #[.int .i64 qm, .int .i64 qd, .bool qt, .bool qf, .int .i64 qa, .string qs] 25)); clear k6) | (go_at_call 13; (with_reducible refine (HE2.out _).mono ?_); rintro _ w7 ⟨rfl, k7⟩; have HA7 := Lib.hid ((HA6.out.keeps k7)); have HX7 := Lib.hid ((HX6.out.keeps k7)); have HK7 := Lib.hid ((HK6.out.trans k7)); clear k7) | (go_at_call 10; refine (awake10_any w _ (HK7.out)).mono ?_; rintro _ w99 ⟨rfl, k99⟩))
        go_ret
        exact ⟨rfl, k99⟩
      · have hz : Q = zp := by have := dcP_err (l := ls t) (by rw [hQ]; exact he); rwa [hQ] at this
        subst hz
        have hrb : (e != 0) = true := by simpa using he
        unfold zp zt at HD3
        clear hQ he
        obtain ⟨mac, ⟨dt, tb, fr, ad⟩, txt⟩ := p
        obtain ⟨xd, xt, xf, xa⟩ := x
        simp only at h hA hB hiP HW1 HW2 HD1 HD2 HE1
        have p0_0 : (wB).cell? ⟨b, 0, none⟩ = some (.int .i64 mac) := HA0.out.cell 0 rfl
        have p0_1 : (wB).cell? ⟨b, 1, none⟩ = some (.int .i64 dt) := HA0.out.cell 1 rfl
        have p0_2 : (wB).cell? ⟨b, 2, none⟩ = some (.bool tb) := HA0.out.cell 2 rfl
        have p0_3 : (wB).cell? ⟨b, 3, none⟩ = some (.bool fr) := HA0.out.cell 3 rfl
        have p0_4 : (wB).cell? ⟨b, 4, none⟩ = some (.int .i64 ad) := HA0.out.cell 4 rfl
        have p0_5 : (wB).cell? ⟨b, 5, none⟩ = some (.string txt) := HA0.out.cell 5 rfl
        have x0_0 : (wB).cell? ⟨b + 1, 0, none⟩ = some (.int .i64 xd) := HX0.out.cell 0 rfl
        have x0_1 : (wB).cell? ⟨b + 1, 1, none⟩ = some (.bool xt) := HX0.out.cell 1 rfl
        have x0_2 : (wB).cell? ⟨b + 1, 2, none⟩ = some (.bool xf) := HX0.out.cell 2 rfl
        have x0_3 : (wB).cell? ⟨b + 1, 3, none⟩ = some (.int .i64 xa) := HX0.out.cell 3 rfl
        go_enter Try.func5, Try.ntmps5
        go_wp2_with (first | (go_at_call 13; (with_reducible refine (HE1.out _).mono ?_); rintro _ w1 ⟨rfl, k1⟩; have HA1 := Lib.hid ((HA0.out.keeps k1)); have HX1 := Lib.hid ((HX0.out.keeps k1)); have HK1 := Lib.hid ((HK0.out.trans k1)); have p1_0 : (w1).cell? ⟨b, 0, none⟩ = some (.int .i64 mac) := HA1.out.cell 0 rfl; have p1_1 : (w1).cell? ⟨b, 1, none⟩ = some (.int .i64 dt) := HA1.out.cell 1 rfl; have p1_2 : (w1).cell? ⟨b, 2, none⟩ = some (.bool tb) := HA1.out.cell 2 rfl; have p1_3 : (w1).cell? ⟨b, 3, none⟩ = some (.bool fr) := HA1.out.cell 3 rfl; have p1_4 : (w1).cell? ⟨b, 4, none⟩ = some (.int .i64 ad) := HA1.out.cell 4 rfl; have p1_5 : (w1).cell? ⟨b, 5, none⟩ = some (.string txt) := HA1.out.cell 5 rfl; have x1_0 : (w1).cell? ⟨b + 1, 0, none⟩ = some (.int .i64 xd) := HX1.out.cell 0 rfl; have x1_1 : (w1).cell? ⟨b + 1, 1, none⟩ = some (.bool xt) := HX1.out.cell 1 rfl; have x1_2 : (w1).cell? ⟨b + 1, 2, none⟩ = some (.bool xf) := HX1.out.cell 2 rfl; have x1_3 : (w1).cell? ⟨b + 1, 3, none⟩ = some (.int .i64 xa) := HX1.out.cell 3 rfl; clear k1) | (go_at_call 17; (with_reducible refine (HD1.out _).mono ?_); rintro _ w2 ⟨rfl, k2⟩; have HA2 := Lib.hid ((HA1.out.keeps k2).keeps ((Keeps.refl w2).alloc (.cells #[.int .i64 mac, .int .i64 dt, .bool tb, .bool fr, .int .i64 ad, .string txt] 25))); have HX2 := Lib.hid ((HX1.out.keeps k2).keeps ((Keeps.refl w2).alloc (.cells #[.int .i64 mac, .int .i64 dt, .bool tb, .bool fr, .int .i64 ad, .string txt] 25))); have HK2 := Lib.hid ((HK1.out.trans k2).alloc (.cells #[.int .i64 mac, .int .i64 dt, .bool tb, .bool fr, .int .i64 ad, .string txt] 25)); have p2_0 : (w2.alloc (.cells #[.int .i64 mac, .int .i64 dt, .bool tb, .bool fr, .int .i64 ad, .string txt] 25)).cell? ⟨b, 0, none⟩ = some (.int .i64 mac) := HA2.out.cell 0 rfl; have p2_1 : (w2.alloc (.cells #[.int .i64 mac, .int .i64 dt, .bool tb, .bool fr, .int .i64 ad, .string txt] 25)).cell? ⟨b, 1, none⟩ = some (.int .i64 dt) := HA2.out.cell 1 rfl; have p2_2 : (w2.alloc (.cells #[.int .i64 mac, .int .i64 dt, .bool tb, .bool fr, .int .i64 ad, .string txt] 25)).cell? ⟨b, 2, none⟩ = some (.bool tb) := HA2.out.cell 2 rfl; have p2_3 : (w2.alloc (.cells #[.int .i64 mac, .int .i64 dt, .bool tb, .bool fr, .int .i64 ad, .string txt] 25)).cell? ⟨b, 3, none⟩ = some (.bool fr) := HA2.out.cell 3 rfl; have p2_4 : (w2.alloc (.cells #[.int .i64 mac, .int .i64 dt, .bool tb, .bool fr, .int .i64 ad, .string txt] 25)).cell? ⟨b, 4, none⟩ = some (.int .i64 ad) := HA2.out.cell 4 rfl; have p2_5 : (w2.alloc (.cells #[.int .i64 mac, .int .i64 dt, .bool tb, .bool fr, .int .i64 ad, .string txt] 25)).cell? ⟨b, 5, none⟩ = some (.string txt) := HA2.out.cell 5 rfl; have x2_0 : (w2.alloc (.cells #[.int .i64 mac, .int .i64 dt, .bool tb, .bool fr, .int .i64 ad, .string txt] 25)).cell? ⟨b + 1, 0, none⟩ = some (.int .i64 xd) := HX2.out.cell 0 rfl; have x2_1 : (w2.alloc (.cells #[.int .i64 mac, .int .i64 dt, .bool tb, .bool fr, .int .i64 ad, .string txt] 25)).cell? ⟨b + 1, 1, none⟩ = some (.bool xt) := HX2.out.cell 1 rfl; have x2_2 : (w2.alloc (.cells #[.int .i64 mac, .int .i64 dt, .bool tb, .bool fr, .int .i64 ad, .string txt] 25)).cell? ⟨b + 1, 2, none⟩ = some (.bool xf) := HX2.out.cell 2 rfl; have x2_3 : (w2.alloc (.cells #[.int .i64 mac, .int .i64 dt, .bool tb, .bool fr, .int .i64 ad, .string txt] 25)).cell? ⟨b + 1, 3, none⟩ = some (.int .i64 xa) := HX2.out.cell 3 rfl; clear k2) | (go_at_call 19; (with_reducible refine (HW1.out _).mono ?_); rintro _ w3 ⟨rfl, k3⟩; have HA3 := Lib.hid ((HA2.out.keeps k3)); have HX3 := Lib.hid ((HX2.out.keeps k3)); have HK3 := Lib.hid ((HK2.out.trans k3)); have p3_0 : (w3).cell? ⟨b, 0, none⟩ = some (.int .i64 mac) := HA3.out.cell 0 rfl; have p3_1 : (w3).cell? ⟨b, 1, none⟩ = some (.int .i64 dt) := HA3.out.cell 1 rfl; have p3_2 : (w3).cell? ⟨b, 2, none⟩ = some (.bool tb) := HA3.out.cell 2 rfl; have p3_3 : (w3).cell? ⟨b, 3, none⟩ = some (.bool fr) := HA3.out.cell 3 rfl; have p3_4 : (w3).cell? ⟨b, 4, none⟩ = some (.int .i64 ad) := HA3.out.cell 4 rfl; have p3_5 : (w3).cell? ⟨b, 5, none⟩ = some (.string txt) := HA3.out.cell 5 rfl; have x3_0 : (w3).cell? ⟨b + 1, 0, none⟩ = some (.int .i64 xd) := HX3.out.cell 0 rfl; have x3_1 : (w3).cell? ⟨b + 1, 1, none⟩ = some (.bool xt) := HX3.out.cell 1 rfl; have x3_2 : (w3).cell? ⟨b + 1, 2, none⟩ = some (.bool xf) := HX3.out.cell 2 rfl; have x3_3 : (w3).cell? ⟨b + 1, 3, none⟩ = some (.int .i64 xa) := HX3.out.cell 3 rfl; clear k3) | (go_at_call 19; (with_reducible refine (HW2.out _).mono ?_); rintro _ w4 ⟨rfl, k4⟩; have HA4 := Lib.hid ((HA3.out.keeps k4)); have HX4 := Lib.hid ((HX3.out.keeps k4)); have HK4 := Lib.hid ((HK3.out.trans k4)); have p4_0 : (w4).cell? ⟨b, 0, none⟩ = some (.int .i64 mac) := HA4.out.cell 0 rfl; have p4_1 : (w4).cell? ⟨b, 1, none⟩ = some (.int .i64 dt) := HA4.out.cell 1 rfl; have p4_2 : (w4).cell? ⟨b, 2, none⟩ = some (.bool tb) := HA4.out.cell 2 rfl; have p4_3 : (w4).cell? ⟨b, 3, none⟩ = some (.bool fr) := HA4.out.cell 3 rfl; have p4_4 : (w4).cell? ⟨b, 4, none⟩ = some (.int .i64 ad) := HA4.out.cell 4 rfl; have p4_5 : (w4).cell? ⟨b, 5, none⟩ = some (.string txt) := HA4.out.cell 5 rfl; have x4_0 : (w4).cell? ⟨b + 1, 0, none⟩ = some (.int .i64 xd) := HX4.out.cell 0 rfl; have x4_1 : (w4).cell? ⟨b + 1, 1, none⟩ = some (.bool xt) := HX4.out.cell 1 rfl; have x4_2 : (w4).cell? ⟨b + 1, 2, none⟩ = some (.bool xf) := HX4.out.cell 2 rfl; have x4_3 : (w4).cell? ⟨b + 1, 3, none⟩ = some (.int .i64 xa) := HX4.out.cell 3 rfl; clear k4) | (go_at_call 17; (with_reducible refine (HD2.out _).mono ?_); rintro _ w5 ⟨rfl, k5⟩; have HA5 := Lib.hid ((HA4.out.keeps k5).keeps ((Keeps.refl w5).alloc (.cells #[.int .i64 mac, .int .i64 xd, .bool xt, .bool xf, .int .i64 xa, .string txt] 25))); have HX5 := Lib.hid ((HX4.out.keeps k5).keeps ((Keeps.refl w5).alloc (.cells #[.int .i64 mac, .int .i64 xd, .bool xt, .bool xf, .int .i64 xa, .string txt] 25))); have HK5 := Lib.hid ((HK4.out.trans k5).alloc (.cells #[.int .i64 mac, .int .i64 xd, .bool xt, .bool xf, .int .i64 xa, .string txt] 25)); have p5_0 : (w5.alloc (.cells #[.int .i64 mac, .int .i64 xd, .bool xt, .bool xf, .int .i64 xa, .string txt] 25)).cell? ⟨b, 0, none⟩ = some (.int .i64 mac) := HA5.out.cell 0 rfl; have p5_1 : (w5.alloc (.cells #[.int .i64 mac, .int .i64 xd, .bool xt, .bool xf, .int .i64 xa, .string txt] 25)).cell? ⟨b, 1, none⟩ = some (.int .i64 dt) := HA5.out.cell 1 rfl; have p5_2 : (w5.alloc (.cells #[.int .i64 mac, .int .i64 xd, .bool xt, .bool xf, .int .i64 xa, .string txt] 25)).cell? ⟨b, 2, none⟩ = some (.bool tb) := HA5.out.cell 2 rfl; have p5_3 : (w5.alloc (.cells #[.int .i64 mac, .int .i64 xd, .bool xt, .bool xf, .int .i64 xa, .string txt] 25)).cell? ⟨b, 3, none⟩ = some (.bool fr) := HA5.out.cell 3 rfl; have p5_4 : (w5.alloc (.cells #[.int .i64 mac, .int .i64 xd, .bool xt, .bool xf, .int .i64 xa, .string txt] 25)).cell? ⟨b, 4, none⟩ = some (.int .i64 ad) := HA5.out.cell 4 rfl; have p5_5 : (w5.alloc (.cells #[.int .i64 mac, .int .i64 xd, .bool xt, .bool xf, .int .i64 xa, .string txt] 25)).cell? ⟨b, 5, none⟩ = some (.string txt) := HA5.out.cell 5 rfl; have x5_0 : (w5.alloc (.cells #[.int .i64 mac, .int .i64 xd, .bool xt, .bool xf, .int .i64 xa, .string txt] 25)).cell? ⟨b + 1, 0, none⟩ = some (.int .i64 xd) := HX5.out.cell 0 rfl; have x5_1 : (w5.alloc (.cells #[.int .i64 mac, .int .i64 xd, .bool xt, .bool xf, .int .i64 xa, .string txt] 25)).cell? ⟨b + 1, 1, none⟩ = some (.bool xt) := HX5.out.cell 1 rfl; have x5_2 : (w5.alloc (.cells #[.int .i64 mac, .int .i64 xd, .bool xt, .bool xf, .int .i64 xa, .string txt] 25)).cell? ⟨b + 1, 2, none⟩ = some (.bool xf) := HX5.out.cell 2 rfl; have x5_3 : (w5.alloc (.cells #[.int .i64 mac, .int .i64 xd, .bool xt, .bool xf, .int .i64 xa, .string txt] 25)).cell? ⟨b + 1, 3, none⟩ = some (.int .i64 xa) := HX5.out.cell 3 rfl; clear k5) | (go_at_call 17; (with_reducible refine (HD3.out _).mono ?_); rintro _ w6 ⟨rfl, k6⟩; have HA6 := Lib.hid ((HA5.out.keeps k6).keeps ((Keeps.refl w6).alloc (.cells #[.int .i64 0, .int .i64 0, .bool false, .bool false, .int .i64 0, .string ⟨#[]⟩] 25))); have HX6 := Lib.hid ((HX5.out.keeps k6).keeps ((Keeps.refl w6).alloc (.cells #[.int .i64 0, .int .i64 0, .bool false, .bool false, .int .i64 0, .string ⟨#[]⟩] 25))); have HK6 := Lib.hid ((HK5.out.trans k6).alloc (.cells #[.int .i64 0, .int .i64 0, .bool false, .bool false, .int .i64 0, .string ⟨#[]⟩] 25)); clear k6) | (go_at_call 10; refine (awake10_any w _ (HK6.out)).mono ?_; rintro _ w99 ⟨rfl, k99⟩))
        go_ret
        exact ⟨rfl, k99⟩
    · have hwn : wtP (mby p) x = ([], 15) := wtP_mbyno hc hx
      rw [hwn] at HW1
      obtain ⟨Y, hY⟩ : ∃ Y, st (mby p) = Y := ⟨_, rfl⟩
      simp only [hY] at HE1 HD1 HW1
      clear hc hx hok hY hwn
      by_cases he : e = 0
      · subst he
        obtain ⟨b1, b2, -, -⟩ := mby_dcP (l := ls t) (by rw [hQ])
        rw [hQ] at b1 b2
        simp only at b1 b2
        have b3 := (check_len (ckP_good b1).2).2
        rw [← ls_size] at b3
        have HE2 := Lib.hid (fun W => mpencode_any W Q W (by omega) (Keeps.refl W))
        unfold PecPost at HE2
        rw [ecP_ok b1, b2, st_ls] at HE2
        clear hQ b1 b2 b3
        obtain ⟨qm, ⟨qd, qt, qf, qa⟩, qs⟩ := Q
        obtain ⟨mac, ⟨dt, tb, fr, ad⟩, txt⟩ := p
        obtain ⟨xd, xt, xf, xa⟩ := x
        simp only at h hA hB hiP HW1 HD1 HE1
        have p0_0 : (wB).cell? ⟨b, 0, none⟩ = some (.int .i64 mac) := HA0.out.cell 0 rfl
        have p0_1 : (wB).cell? ⟨b, 1, none⟩ = some (.int .i64 dt) := HA0.out.cell 1 rfl
        have p0_2 : (wB).cell? ⟨b, 2, none⟩ = some (.bool tb) := HA0.out.cell 2 rfl
        have p0_3 : (wB).cell? ⟨b, 3, none⟩ = some (.bool fr) := HA0.out.cell 3 rfl
        have p0_4 : (wB).cell? ⟨b, 4, none⟩ = some (.int .i64 ad) := HA0.out.cell 4 rfl
        have p0_5 : (wB).cell? ⟨b, 5, none⟩ = some (.string txt) := HA0.out.cell 5 rfl
        have x0_0 : (wB).cell? ⟨b + 1, 0, none⟩ = some (.int .i64 xd) := HX0.out.cell 0 rfl
        have x0_1 : (wB).cell? ⟨b + 1, 1, none⟩ = some (.bool xt) := HX0.out.cell 1 rfl
        have x0_2 : (wB).cell? ⟨b + 1, 2, none⟩ = some (.bool xf) := HX0.out.cell 2 rfl
        have x0_3 : (wB).cell? ⟨b + 1, 3, none⟩ = some (.int .i64 xa) := HX0.out.cell 3 rfl
        go_enter Try.func5, Try.ntmps5
        go_wp2_with (first | (go_at_call 13; (with_reducible refine (HE1.out _).mono ?_); rintro _ w1 ⟨rfl, k1⟩; have HA1 := Lib.hid ((HA0.out.keeps k1)); have HX1 := Lib.hid ((HX0.out.keeps k1)); have HK1 := Lib.hid ((HK0.out.trans k1)); have p1_0 : (w1).cell? ⟨b, 0, none⟩ = some (.int .i64 mac) := HA1.out.cell 0 rfl; have p1_1 : (w1).cell? ⟨b, 1, none⟩ = some (.int .i64 dt) := HA1.out.cell 1 rfl; have p1_2 : (w1).cell? ⟨b, 2, none⟩ = some (.bool tb) := HA1.out.cell 2 rfl; have p1_3 : (w1).cell? ⟨b, 3, none⟩ = some (.bool fr) := HA1.out.cell 3 rfl; have p1_4 : (w1).cell? ⟨b, 4, none⟩ = some (.int .i64 ad) := HA1.out.cell 4 rfl; have p1_5 : (w1).cell? ⟨b, 5, none⟩ = some (.string txt) := HA1.out.cell 5 rfl; have x1_0 : (w1).cell? ⟨b + 1, 0, none⟩ = some (.int .i64 xd) := HX1.out.cell 0 rfl; have x1_1 : (w1).cell? ⟨b + 1, 1, none⟩ = some (.bool xt) := HX1.out.cell 1 rfl; have x1_2 : (w1).cell? ⟨b + 1, 2, none⟩ = some (.bool xf) := HX1.out.cell 2 rfl; have x1_3 : (w1).cell? ⟨b + 1, 3, none⟩ = some (.int .i64 xa) := HX1.out.cell 3 rfl; clear k1) | (go_at_call 17; (with_reducible refine (HD1.out _).mono ?_); rintro _ w2 ⟨rfl, k2⟩; have HA2 := Lib.hid ((HA1.out.keeps k2).keeps ((Keeps.refl w2).alloc (.cells #[.int .i64 mac, .int .i64 dt, .bool tb, .bool fr, .int .i64 ad, .string txt] 25))); have HX2 := Lib.hid ((HX1.out.keeps k2).keeps ((Keeps.refl w2).alloc (.cells #[.int .i64 mac, .int .i64 dt, .bool tb, .bool fr, .int .i64 ad, .string txt] 25))); have HK2 := Lib.hid ((HK1.out.trans k2).alloc (.cells #[.int .i64 mac, .int .i64 dt, .bool tb, .bool fr, .int .i64 ad, .string txt] 25)); have p2_0 : (w2.alloc (.cells #[.int .i64 mac, .int .i64 dt, .bool tb, .bool fr, .int .i64 ad, .string txt] 25)).cell? ⟨b, 0, none⟩ = some (.int .i64 mac) := HA2.out.cell 0 rfl; have p2_1 : (w2.alloc (.cells #[.int .i64 mac, .int .i64 dt, .bool tb, .bool fr, .int .i64 ad, .string txt] 25)).cell? ⟨b, 1, none⟩ = some (.int .i64 dt) := HA2.out.cell 1 rfl; have p2_2 : (w2.alloc (.cells #[.int .i64 mac, .int .i64 dt, .bool tb, .bool fr, .int .i64 ad, .string txt] 25)).cell? ⟨b, 2, none⟩ = some (.bool tb) := HA2.out.cell 2 rfl; have p2_3 : (w2.alloc (.cells #[.int .i64 mac, .int .i64 dt, .bool tb, .bool fr, .int .i64 ad, .string txt] 25)).cell? ⟨b, 3, none⟩ = some (.bool fr) := HA2.out.cell 3 rfl; have p2_4 : (w2.alloc (.cells #[.int .i64 mac, .int .i64 dt, .bool tb, .bool fr, .int .i64 ad, .string txt] 25)).cell? ⟨b, 4, none⟩ = some (.int .i64 ad) := HA2.out.cell 4 rfl; have p2_5 : (w2.alloc (.cells #[.int .i64 mac, .int .i64 dt, .bool tb, .bool fr, .int .i64 ad, .string txt] 25)).cell? ⟨b, 5, none⟩ = some (.string txt) := HA2.out.cell 5 rfl; have x2_0 : (w2.alloc (.cells #[.int .i64 mac, .int .i64 dt, .bool tb, .bool fr, .int .i64 ad, .string txt] 25)).cell? ⟨b + 1, 0, none⟩ = some (.int .i64 xd) := HX2.out.cell 0 rfl; have x2_1 : (w2.alloc (.cells #[.int .i64 mac, .int .i64 dt, .bool tb, .bool fr, .int .i64 ad, .string txt] 25)).cell? ⟨b + 1, 1, none⟩ = some (.bool xt) := HX2.out.cell 1 rfl; have x2_2 : (w2.alloc (.cells #[.int .i64 mac, .int .i64 dt, .bool tb, .bool fr, .int .i64 ad, .string txt] 25)).cell? ⟨b + 1, 2, none⟩ = some (.bool xf) := HX2.out.cell 2 rfl; have x2_3 : (w2.alloc (.cells #[.int .i64 mac, .int .i64 dt, .bool tb, .bool fr, .int .i64 ad, .string txt] 25)).cell? ⟨b + 1, 3, none⟩ = some (.int .i64 xa) := HX2.out.cell 3 rfl; clear k2) | (go_at_call 19; (with_reducible refine (HW1.out _).mono ?_); rintro _ w3 ⟨rfl, k3⟩; have HA3 := Lib.hid ((HA2.out.keeps k3)); have HX3 := Lib.hid ((HX2.out.keeps k3)); have HK3 := Lib.hid ((HK2.out.trans k3)); have p3_0 : (w3).cell? ⟨b, 0, none⟩ = some (.int .i64 mac) := HA3.out.cell 0 rfl; have p3_1 : (w3).cell? ⟨b, 1, none⟩ = some (.int .i64 dt) := HA3.out.cell 1 rfl; have p3_2 : (w3).cell? ⟨b, 2, none⟩ = some (.bool tb) := HA3.out.cell 2 rfl; have p3_3 : (w3).cell? ⟨b, 3, none⟩ = some (.bool fr) := HA3.out.cell 3 rfl; have p3_4 : (w3).cell? ⟨b, 4, none⟩ = some (.int .i64 ad) := HA3.out.cell 4 rfl; have p3_5 : (w3).cell? ⟨b, 5, none⟩ = some (.string txt) := HA3.out.cell 5 rfl; have x3_0 : (w3).cell? ⟨b + 1, 0, none⟩ = some (.int .i64 xd) := HX3.out.cell 0 rfl; have x3_1 : (w3).cell? ⟨b + 1, 1, none⟩ = some (.bool xt) := HX3.out.cell 1 rfl; have x3_2 : (w3).cell? ⟨b + 1, 2, none⟩ = some (.bool xf) := HX3.out.cell 2 rfl; have x3_3 : (w3).cell? ⟨b + 1, 3, none⟩ = some (.int .i64 xa) := HX3.out.cell 3 rfl; clear k3) | (go_at_call 17; (with_reducible refine (HD3.out _).mono ?_); rintro _ w4 ⟨rfl, k4⟩; have HA4 := Lib.hid ((HA3.out.keeps k4).keeps ((Keeps.refl w4).alloc (.cells #[.int .i64 qm, .int .i64 qd, .bool qt, .bool qf, .int .i64 qa, .string qs] 25))); have HX4 := Lib.hid ((HX3.out.keeps k4).keeps ((Keeps.refl w4).alloc (.cells #[.int .i64 qm, .int .i64 qd, .bool qt, .bool qf, .int .i64 qa, .string qs] 25))); have HK4 := Lib.hid ((HK3.out.trans k4).alloc (.cells #[.int .i64 qm, .int .i64 qd, .bool qt, .bool qf, .int .i64 qa, .string qs] 25)); clear k4) | (go_at_call 13; (with_reducible refine (HE2.out _).mono ?_); rintro _ w5 ⟨rfl, k5⟩; have HA5 := Lib.hid ((HA4.out.keeps k5)); have HX5 := Lib.hid ((HX4.out.keeps k5)); have HK5 := Lib.hid ((HK4.out.trans k5)); clear k5) | (go_at_call 10; refine (awake10_any w _ (HK5.out)).mono ?_; rintro _ w99 ⟨rfl, k99⟩))
        go_ret
        exact ⟨rfl, k99⟩
      · have hz : Q = zp := by have := dcP_err (l := ls t) (by rw [hQ]; exact he); rwa [hQ] at this
        subst hz
        have hrb : (e != 0) = true := by simpa using he
        unfold zp zt at HD3
        clear hQ he
        obtain ⟨mac, ⟨dt, tb, fr, ad⟩, txt⟩ := p
        obtain ⟨xd, xt, xf, xa⟩ := x
        simp only at h hA hB hiP HW1 HD1 HE1
        have p0_0 : (wB).cell? ⟨b, 0, none⟩ = some (.int .i64 mac) := HA0.out.cell 0 rfl
        have p0_1 : (wB).cell? ⟨b, 1, none⟩ = some (.int .i64 dt) := HA0.out.cell 1 rfl
        have p0_2 : (wB).cell? ⟨b, 2, none⟩ = some (.bool tb) := HA0.out.cell 2 rfl
        have p0_3 : (wB).cell? ⟨b, 3, none⟩ = some (.bool fr) := HA0.out.cell 3 rfl
        have p0_4 : (wB).cell? ⟨b, 4, none⟩ = some (.int .i64 ad) := HA0.out.cell 4 rfl
        have p0_5 : (wB).cell? ⟨b, 5, none⟩ = some (.string txt) := HA0.out.cell 5 rfl
        have x0_0 : (wB).cell? ⟨b + 1, 0, none⟩ = some (.int .i64 xd) := HX0.out.cell 0 rfl
        have x0_1 : (wB).cell? ⟨b + 1, 1, none⟩ = some (.bool xt) := HX0.out.cell 1 rfl
        have x0_2 : (wB).cell? ⟨b + 1, 2, none⟩ = some (.bool xf) := HX0.out.cell 2 rfl
        have x0_3 : (wB).cell? ⟨b + 1, 3, none⟩ = some (.int .i64 xa) := HX0.out.cell 3 rfl
        go_enter Try.func5, Try.ntmps5
        go_wp2_with (first | (go_at_call 13; (with_reducible refine (HE1.out _).mono ?_); rintro _ w1 ⟨rfl, k1⟩; have HA1 := Lib.hid ((HA0.out.keeps k1)); have HX1 := Lib.hid ((HX0.out.keeps k1)); have HK1 := Lib.hid ((HK0.out.trans k1)); have p1_0 : (w1).cell? ⟨b, 0, none⟩ = some (.int .i64 mac) := HA1.out.cell 0 rfl; have p1_1 : (w1).cell? ⟨b, 1, none⟩ = some (.int .i64 dt) := HA1.out.cell 1 rfl; have p1_2 : (w1).cell? ⟨b, 2, none⟩ = some (.bool tb) := HA1.out.cell 2 rfl; have p1_3 : (w1).cell? ⟨b, 3, none⟩ = some (.bool fr) := HA1.out.cell 3 rfl; have p1_4 : (w1).cell? ⟨b, 4, none⟩ = some (.int .i64 ad) := HA1.out.cell 4 rfl; have p1_5 : (w1).cell? ⟨b, 5, none⟩ = some (.string txt) := HA1.out.cell 5 rfl; have x1_0 : (w1).cell? ⟨b + 1, 0, none⟩ = some (.int .i64 xd) := HX1.out.cell 0 rfl; have x1_1 : (w1).cell? ⟨b + 1, 1, none⟩ = some (.bool xt) := HX1.out.cell 1 rfl; have x1_2 : (w1).cell? ⟨b + 1, 2, none⟩ = some (.bool xf) := HX1.out.cell 2 rfl; have x1_3 : (w1).cell? ⟨b + 1, 3, none⟩ = some (.int .i64 xa) := HX1.out.cell 3 rfl; clear k1) | (go_at_call 17; (with_reducible refine (HD1.out _).mono ?_); rintro _ w2 ⟨rfl, k2⟩; have HA2 := Lib.hid ((HA1.out.keeps k2).keeps ((Keeps.refl w2).alloc (.cells #[.int .i64 mac, .int .i64 dt, .bool tb, .bool fr, .int .i64 ad, .string txt] 25))); have HX2 := Lib.hid ((HX1.out.keeps k2).keeps ((Keeps.refl w2).alloc (.cells #[.int .i64 mac, .int .i64 dt, .bool tb, .bool fr, .int .i64 ad, .string txt] 25))); have HK2 := Lib.hid ((HK1.out.trans k2).alloc (.cells #[.int .i64 mac, .int .i64 dt, .bool tb, .bool fr, .int .i64 ad, .string txt] 25)); have p2_0 : (w2.alloc (.cells #[.int .i64 mac, .int .i64 dt, .bool tb, .bool fr, .int .i64 ad, .string txt] 25)).cell? ⟨b, 0, none⟩ = some (.int .i64 mac) := HA2.out.cell 0 rfl; have p2_1 : (w2.alloc (.cells #[.int .i64 mac, .int .i64 dt, .bool tb, .bool fr, .int .i64 ad, .string txt] 25)).cell? ⟨b, 1, none⟩ = some (.int .i64 dt) := HA2.out.cell 1 rfl; have p2_2 : (w2.alloc (.cells #[.int .i64 mac, .int .i64 dt, .bool tb, .bool fr, .int .i64 ad, .string txt] 25)).cell? ⟨b, 2, none⟩ = some (.bool tb) := HA2.out.cell 2 rfl; have p2_3 : (w2.alloc (.cells #[.int .i64 mac, .int .i64 dt, .bool tb, .bool fr, .int .i64 ad, .string txt] 25)).cell? ⟨b, 3, none⟩ = some (.bool fr) := HA2.out.cell 3 rfl; have p2_4 : (w2.alloc (.cells #[.int .i64 mac, .int .i64 dt, .bool tb, .bool fr, .int .i64 ad, .string txt] 25)).cell? ⟨b, 4, none⟩ = some (.int .i64 ad) := HA2.out.cell 4 rfl; have p2_5 : (w2.alloc (.cells #[.int .i64 mac, .int .i64 dt, .bool tb, .bool fr, .int .i64 ad, .string txt] 25)).cell? ⟨b, 5, none⟩ = some (.string txt) := HA2.out.cell 5 rfl; have x2_0 : (w2.alloc (.cells #[.int .i64 mac, .int .i64 dt, .bool tb, .bool fr, .int .i64 ad, .string txt] 25)).cell? ⟨b + 1, 0, none⟩ = some (.int .i64 xd) := HX2.out.cell 0 rfl; have x2_1 : (w2.alloc (.cells #[.int .i64 mac, .int .i64 dt, .bool tb, .bool fr, .int .i64 ad, .string txt] 25)).cell? ⟨b + 1, 1, none⟩ = some (.bool xt) := HX2.out.cell 1 rfl; have x2_2 : (w2.alloc (.cells #[.int .i64 mac, .int .i64 dt, .bool tb, .bool fr, .int .i64 ad, .string txt] 25)).cell? ⟨b + 1, 2, none⟩ = some (.bool xf) := HX2.out.cell 2 rfl; have x2_3 : (w2.alloc (.cells #[.int .i64 mac, .int .i64 dt, .bool tb, .bool fr, .int .i64 ad, .string txt] 25)).cell? ⟨b + 1, 3, none⟩ = some (.int .i64 xa) := HX2.out.cell 3 rfl; clear k2) | (go_at_call 19; (with_reducible refine (HW1.out _).mono ?_); rintro _ w3 ⟨rfl, k3⟩; have HA3 := Lib.hid ((HA2.out.keeps k3)); have HX3 := Lib.hid ((HX2.out.keeps k3)); have HK3 := Lib.hid ((HK2.out.trans k3)); have p3_0 : (w3).cell? ⟨b, 0, none⟩ = some (.int .i64 mac) := HA3.out.cell 0 rfl; have p3_1 : (w3).cell? ⟨b, 1, none⟩ = some (.int .i64 dt) := HA3.out.cell 1 rfl; have p3_2 : (w3).cell? ⟨b, 2, none⟩ = some (.bool tb) := HA3.out.cell 2 rfl; have p3_3 : (w3).cell? ⟨b, 3, none⟩ = some (.bool fr) := HA3.out.cell 3 rfl; have p3_4 : (w3).cell? ⟨b, 4, none⟩ = some (.int .i64 ad) := HA3.out.cell 4 rfl; have p3_5 : (w3).cell? ⟨b, 5, none⟩ = some (.string txt) := HA3.out.cell 5 rfl; have x3_0 : (w3).cell? ⟨b + 1, 0, none⟩ = some (.int .i64 xd) := HX3.out.cell 0 rfl; have x3_1 : (w3).cell? ⟨b + 1, 1, none⟩ = some (.bool xt) := HX3.out.cell 1 rfl; have x3_2 : (w3).cell? ⟨b + 1, 2, none⟩ = some (.bool xf) := HX3.out.cell 2 rfl; have x3_3 : (w3).cell? ⟨b + 1, 3, none⟩ = some (.int .i64 xa) := HX3.out.cell 3 rfl; clear k3) | (go_at_call 17; (with_reducible refine (HD3.out _).mono ?_); rintro _ w4 ⟨rfl, k4⟩; have HA4 := Lib.hid ((HA3.out.keeps k4).keeps ((Keeps.refl w4).alloc (.cells #[.int .i64 0, .int .i64 0, .bool false, .bool false, .int .i64 0, .string ⟨#[]⟩] 25))); have HX4 := Lib.hid ((HX3.out.keeps k4).keeps ((Keeps.refl w4).alloc (.cells #[.int .i64 0, .int .i64 0, .bool false, .bool false, .int .i64 0, .string ⟨#[]⟩] 25))); have HK4 := Lib.hid ((HK3.out.trans k4).alloc (.cells #[.int .i64 0, .int .i64 0, .bool false, .bool false, .int .i64 0, .string ⟨#[]⟩] 25)); clear k4) | (go_at_call 10; refine (awake10_any w _ (HK4.out)).mono ?_; rintro _ w99 ⟨rfl, k99⟩))
        go_ret
        exact ⟨rfl, k99⟩
  · rw [ecP_no hc] at HE1
    obtain ⟨n, hn⟩ : ∃ n, ckP p = n := ⟨_, rfl⟩
    have hnb : (n == 0) = false := by rw [← hn]; simpa using hc
    simp only [hn] at HE1
    clear hc hn
    by_cases he : e = 0
    · subst he
      obtain ⟨b1, b2, -, -⟩ := mby_dcP (l := ls t) (by rw [hQ])
      rw [hQ] at b1 b2
      simp only at b1 b2
      have b3 := (check_len (ckP_good b1).2).2
      rw [← ls_size] at b3
      have HE2 := Lib.hid (fun W => mpencode_any W Q W (by omega) (Keeps.refl W))
      unfold PecPost at HE2
      rw [ecP_ok b1, b2, st_ls] at HE2
      clear hQ b1 b2 b3
      obtain ⟨qm, ⟨qd, qt, qf, qa⟩, qs⟩ := Q
      obtain ⟨mac, ⟨dt, tb, fr, ad⟩, txt⟩ := p
      obtain ⟨xd, xt, xf, xa⟩ := x
      simp only at h hA hB hiP HE1
      have p0_0 : (wB).cell? ⟨b, 0, none⟩ = some (.int .i64 mac) := HA0.out.cell 0 rfl
      have p0_1 : (wB).cell? ⟨b, 1, none⟩ = some (.int .i64 dt) := HA0.out.cell 1 rfl
      have p0_2 : (wB).cell? ⟨b, 2, none⟩ = some (.bool tb) := HA0.out.cell 2 rfl
      have p0_3 : (wB).cell? ⟨b, 3, none⟩ = some (.bool fr) := HA0.out.cell 3 rfl
      have p0_4 : (wB).cell? ⟨b, 4, none⟩ = some (.int .i64 ad) := HA0.out.cell 4 rfl
      have p0_5 : (wB).cell? ⟨b, 5, none⟩ = some (.string txt) := HA0.out.cell 5 rfl
      have x0_0 : (wB).cell? ⟨b + 1, 0, none⟩ = some (.int .i64 xd) := HX0.out.cell 0 rfl
      have x0_1 : (wB).cell? ⟨b + 1, 1, none⟩ = some (.bool xt) := HX0.out.cell 1 rfl
      have x0_2 : (wB).cell? ⟨b + 1, 2, none⟩ = some (.bool xf) := HX0.out.cell 2 rfl
      have x0_3 : (wB).cell? ⟨b + 1, 3, none⟩ = some (.int .i64 xa) := HX0.out.cell 3 rfl
      go_enter Try.func5, Try.ntmps5
      go_wp2_with (first | (go_at_call 13; (with_reducible refine (HE1.out _).mono ?_); rintro _ w1 ⟨rfl, k1⟩; have HA1 := Lib.hid ((HA0.out.keeps k1)); have HX1 := Lib.hid ((HX0.out.keeps k1)); have HK1 := Lib.hid ((HK0.out.trans k1)); have p1_0 : (w1).cell? ⟨b, 0, none⟩ = some (.int .i64 mac) := HA1.out.cell 0 rfl; have p1_1 : (w1).cell? ⟨b, 1, none⟩ = some (.int .i64 dt) := HA1.out.cell 1 rfl; have p1_2 : (w1).cell? ⟨b, 2, none⟩ = some (.bool tb) := HA1.out.cell 2 rfl; have p1_3 : (w1).cell? ⟨b, 3, none⟩ = some (.bool fr) := HA1.out.cell 3 rfl; have p1_4 : (w1).cell? ⟨b, 4, none⟩ = some (.int .i64 ad) := HA1.out.cell 4 rfl; have p1_5 : (w1).cell? ⟨b, 5, none⟩ = some (.string txt) := HA1.out.cell 5 rfl; have x1_0 : (w1).cell? ⟨b + 1, 0, none⟩ = some (.int .i64 xd) := HX1.out.cell 0 rfl; have x1_1 : (w1).cell? ⟨b + 1, 1, none⟩ = some (.bool xt) := HX1.out.cell 1 rfl; have x1_2 : (w1).cell? ⟨b + 1, 2, none⟩ = some (.bool xf) := HX1.out.cell 2 rfl; have x1_3 : (w1).cell? ⟨b + 1, 3, none⟩ = some (.int .i64 xa) := HX1.out.cell 3 rfl; clear k1) | (go_at_call 17; (with_reducible refine (HD3.out _).mono ?_); rintro _ w2 ⟨rfl, k2⟩; have HA2 := Lib.hid ((HA1.out.keeps k2).keeps ((Keeps.refl w2).alloc (.cells #[.int .i64 qm, .int .i64 qd, .bool qt, .bool qf, .int .i64 qa, .string qs] 25))); have HX2 := Lib.hid ((HX1.out.keeps k2).keeps ((Keeps.refl w2).alloc (.cells #[.int .i64 qm, .int .i64 qd, .bool qt, .bool qf, .int .i64 qa, .string qs] 25))); have HK2 := Lib.hid ((HK1.out.trans k2).alloc (.cells #[.int .i64 qm, .int .i64 qd, .bool qt, .bool qf, .int .i64 qa, .string qs] 25)); clear k2) | (go_at_call 13; (with_reducible refine (HE2.out _).mono ?_); rintro _ w3 ⟨rfl, k3⟩; have HA3 := Lib.hid ((HA2.out.keeps k3)); have HX3 := Lib.hid ((HX2.out.keeps k3)); have HK3 := Lib.hid ((HK2.out.trans k3)); clear k3) | (go_at_call 10; refine (awake10_any w _ (HK3.out)).mono ?_; rintro _ w99 ⟨rfl, k99⟩))
      go_ret
      exact ⟨rfl, k99⟩
    · have hz : Q = zp := by have := dcP_err (l := ls t) (by rw [hQ]; exact he); rwa [hQ] at this
      subst hz
      have hrb : (e != 0) = true := by simpa using he
      unfold zp zt at HD3
      clear hQ he
      obtain ⟨mac, ⟨dt, tb, fr, ad⟩, txt⟩ := p
      obtain ⟨xd, xt, xf, xa⟩ := x
      simp only at h hA hB hiP HE1
      have p0_0 : (wB).cell? ⟨b, 0, none⟩ = some (.int .i64 mac) := HA0.out.cell 0 rfl
      have p0_1 : (wB).cell? ⟨b, 1, none⟩ = some (.int .i64 dt) := HA0.out.cell 1 rfl
      have p0_2 : (wB).cell? ⟨b, 2, none⟩ = some (.bool tb) := HA0.out.cell 2 rfl
      have p0_3 : (wB).cell? ⟨b, 3, none⟩ = some (.bool fr) := HA0.out.cell 3 rfl
      have p0_4 : (wB).cell? ⟨b, 4, none⟩ = some (.int .i64 ad) := HA0.out.cell 4 rfl
      have p0_5 : (wB).cell? ⟨b, 5, none⟩ = some (.string txt) := HA0.out.cell 5 rfl
      have x0_0 : (wB).cell? ⟨b + 1, 0, none⟩ = some (.int .i64 xd) := HX0.out.cell 0 rfl
      have x0_1 : (wB).cell? ⟨b + 1, 1, none⟩ = some (.bool xt) := HX0.out.cell 1 rfl
      have x0_2 : (wB).cell? ⟨b + 1, 2, none⟩ = some (.bool xf) := HX0.out.cell 2 rfl
      have x0_3 : (wB).cell? ⟨b + 1, 3, none⟩ = some (.int .i64 xa) := HX0.out.cell 3 rfl
      go_enter Try.func5, Try.ntmps5
      go_wp2_with (first | (go_at_call 13; (with_reducible refine (HE1.out _).mono ?_); rintro _ w1 ⟨rfl, k1⟩; have HA1 := Lib.hid ((HA0.out.keeps k1)); have HX1 := Lib.hid ((HX0.out.keeps k1)); have HK1 := Lib.hid ((HK0.out.trans k1)); have p1_0 : (w1).cell? ⟨b, 0, none⟩ = some (.int .i64 mac) := HA1.out.cell 0 rfl; have p1_1 : (w1).cell? ⟨b, 1, none⟩ = some (.int .i64 dt) := HA1.out.cell 1 rfl; have p1_2 : (w1).cell? ⟨b, 2, none⟩ = some (.bool tb) := HA1.out.cell 2 rfl; have p1_3 : (w1).cell? ⟨b, 3, none⟩ = some (.bool fr) := HA1.out.cell 3 rfl; have p1_4 : (w1).cell? ⟨b, 4, none⟩ = some (.int .i64 ad) := HA1.out.cell 4 rfl; have p1_5 : (w1).cell? ⟨b, 5, none⟩ = some (.string txt) := HA1.out.cell 5 rfl; have x1_0 : (w1).cell? ⟨b + 1, 0, none⟩ = some (.int .i64 xd) := HX1.out.cell 0 rfl; have x1_1 : (w1).cell? ⟨b + 1, 1, none⟩ = some (.bool xt) := HX1.out.cell 1 rfl; have x1_2 : (w1).cell? ⟨b + 1, 2, none⟩ = some (.bool xf) := HX1.out.cell 2 rfl; have x1_3 : (w1).cell? ⟨b + 1, 3, none⟩ = some (.int .i64 xa) := HX1.out.cell 3 rfl; clear k1) | (go_at_call 17; (with_reducible refine (HD3.out _).mono ?_); rintro _ w2 ⟨rfl, k2⟩; have HA2 := Lib.hid ((HA1.out.keeps k2).keeps ((Keeps.refl w2).alloc (.cells #[.int .i64 0, .int .i64 0, .bool false, .bool false, .int .i64 0, .string ⟨#[]⟩] 25))); have HX2 := Lib.hid ((HX1.out.keeps k2).keeps ((Keeps.refl w2).alloc (.cells #[.int .i64 0, .int .i64 0, .bool false, .bool false, .int .i64 0, .string ⟨#[]⟩] 25))); have HK2 := Lib.hid ((HK1.out.trans k2).alloc (.cells #[.int .i64 0, .int .i64 0, .bool false, .bool false, .int .i64 0, .string ⟨#[]⟩] 25)); clear k2) | (go_at_call 10; refine (awake10_any w _ (HK2.out)).mono ?_; rintro _ w99 ⟨rfl, k99⟩))
      go_ret
      exact ⟨rfl, k99⟩
theorem walk (p : Prt) (t : ByteArray) (ht : t.size ≤ maxLen) (x : Tms) (w : World) :
    Calls Try.prog 5 #[prV p, .string t, tmV x] w fun e w' => e = .returned (.bool true) ∧ Below w.heap.size w w' := by
  by_cases h : p.txt.size ≤ 5000
  · by_cases g : t.size ≤ 5000
    · exact core p t x w h g
    · exact off p t x w (.inr ⟨h, by omega⟩)
  · exact off p t x w (.inl (by omega))


theorem own : ownKnob Try.prog.godebug = none := by kernel_rfl
theorem laidOut : laidOutB Try.prog = true := by kernel_rfl
set_option maxRecDepth 100000 in
theorem lifted (os : Os) (started : os.Started) (H : Type) (enc : TypeId × Value → H) :
    ReturnsInHanded {} Try.checked os 5 .any (Rows.mpeBackSpec.pre6 enc Try.prog Try.f5 Rows.mpeBackRow.domain false) (Rows.mpeBackSpec.post enc Try.prog Try.f5 false true false false) := by
  refine returnsInHanded_of_change (C := Try.checked) own started (by kernel_rfl) Try.func5
    (ChangeSpec.witness6 (enc := enc) (C := Try.checked) false ⟨#[], #[.agg #[.int .i64 0, .int .i64 0, .bool false, .bool false, .int .i64 0, .string ByteArray.empty], .string ByteArray.empty, .agg #[.int .i64 0, .bool false, .bool false, .int .i64 0]], []⟩ 8 (by kernel_rfl) (by kernel_rfl) (by kernel_rfl) (by kernel_rfl)) ?_
  intro W base args ds gs before hval0 hW hcnd _
  have hval : ∀ (j : Nat) t v, Try.f5.params[j]? = some t → args[j]? = some v → Value.okWide Try.prog W .any base t v := hval0
  have hW' := hW
  obtain ⟨p, q, hA0, hV, rfl, hfz, hnd⟩ := hW
  have hA : DataW.TrodAll enc Try.prog W 0 (fun _ => true) true Try.f5.params.toList args.toList ds p := hA0
  rw [Try.params5] at hA hval
  obtain ⟨v0, vs0, d0, ds0, p0, q0, hargs, rfl, rfl, h0, r0⟩ := trodAll_cons hA
  obtain ⟨v1, vs1, d1, ds1, p1, q1, rfl, rfl, rfl, h1, r1⟩ := trodAll_cons r0
  obtain ⟨v2, vs2, d2, ds2, p2, q2, rfl, rfl, rfl, h2, r2⟩ := trodAll_cons r1
  obtain ⟨rfl, rfl, rfl⟩ := trodAll_nil r2
  obtain rfl : args = #[v0, v1, v2] := by cases args; simp_all
  obtain ⟨rfl, rfl⟩ := trodVars_none hV
  have k0 := h0
  have lt0 : ∀ x ∈ p0, x.block < W.heap.size := by obtain ⟨m, hm⟩ := k0; exact DataW.trod_lt m _ _ _ hm
  obtain ⟨P0, rfl⟩ := open_prt (hval 0 25 v0 rfl rfl) h0
  obtain ⟨a1, rfl, rfl, rfl, w1⟩ := open_string Try.underlying9 (hval 1 9 v1 rfl rfl) h1
  have k2 := h2
  have lt2 : ∀ x ∈ p2, x.block < W.heap.size := by obtain ⟨m, hm⟩ := k2; exact DataW.trod_lt m _ _ _ hm
  obtain ⟨s2, rfl⟩ := open_tms (hval 2 23 v2 rfl rfl) h2
  clear hA0 hval0
  refine (walk P0 a1 w1 s2 W).mono fun e W' ⟨he, bel⟩ => ?_
  subst he
  exact ⟨_, rfl, _, _, _, [], _, [], hW', trodAll_mk1 (shut_bool Try.underlying4 _), (trodAll_cons_mk (Below.trod laidOut (by kernel_rfl) (of_decide_eq_true (by kernel_rfl)) k0 bel lt0) (trodAll_cons_mk (shut_string Try.underlying9 w1) (trodAll_cons_mk (Below.trod laidOut (by kernel_rfl) (of_decide_eq_true (by kernel_rfl)) k2 bel lt2) trodAll_mk0))), rfl, bel.frame _, fun h => by cases h⟩

theorem over : Rows.mpeBackRow.holds Try.pinned (OpenSpec.ofChange Rows.mpeBackSpec) :=
  OpenClaim.holds_of_wide 5 Try.f5 rfl rfl rfl rfl rfl rfl rfl ⟨rfl, rfl, rfl, rfl, rfl⟩ rfl rfl rfl rfl rfl (by kernel_rfl) Try.func5 (by kernel_rfl)
    (of_decide_eq_true (by kernel_rfl)) (by unfold Func.isWrapper; first | (rw [if_pos (by decide +kernel)]; kernel_rfl) | (rw [if_neg (by decide +kernel)]; exact ⟨rfl, rfl⟩))
    (fun os started H enc _ => lifted os started H enc)

theorem proved : Rows.MpeBackSaid := over
#print axioms proved
end Go.Proofs.Ytbkodlinfmflkaa.mpeBack
