/-
  For any part and any times MpeLong returns true: a section has sixteen bytes more than its datagram, and other times turn nothing but their four bytes, and the check sum; nothing that was there is changed. No condition.
-/
import Derived.Test.YtbkodlinfmflkaaRows
import Derived.Test.YtbkodlinfmflkaaMpC
import Derived.Test.YtbkodlinfmflkaaMpA
import Derived.Test.YtbkodlinfmflkaaMpLaw
namespace Go.Proofs.Ytbkodlinfmflkaa.mpeLong
open Go.ChangeShapes Go.WideShapes Go.ChangeAt Go.RowKit Gf Tm Sct Mpe
set_option maxRecDepth 100000
open Go.ChangeMaps (open_string shut_string)
set_option linter.unusedVariables false
theorem chain4_no {α : Type} {a1 b1 a4 b4 : Int} {a2 b2 a3 b3 : Bool} {r s : α} (h : (a1 == b1 && a2 == b2 && a3 == b3 && a4 == b4) = false) :
    (if a1 = b1 then if a2 = b2 then if a3 = b3 then if a4 = b4 then r else s else s else s else s) = s := by
  by_cases h1 : a1 = b1 <;> by_cases h2 : a2 = b2 <;> by_cases h3 : a3 = b3 <;> by_cases h4 : a4 = b4 <;> simp [h1, h2, h3, h4] at h ⊢
set_option maxHeartbeats 12800000 in
theorem walk (p : Prt) (x : Tms) (w : World) :
    Calls Try.prog 9 #[prV p, tmV x] w fun e w' => e = .returned (.bool true) ∧ Below w.heap.size w w' := by
  obtain ⟨b, hb⟩ : ∃ b, w.heap.size = b := ⟨_, rfl⟩
  obtain ⟨wA, hA⟩ : ∃ wX, w.alloc (.cells #[.int .i64 p.mac, .int .i64 p.tm.dt, .bool p.tm.tb, .bool p.tm.fr, .int .i64 p.tm.ad, .string p.txt] 25) = wX := ⟨_, rfl⟩
  have HA := Lib.hid (show CsAt b (prC p) wA by rw [← hb, ← hA]; exact CsAt.made w #[.int .i64 p.mac, .int .i64 p.tm.dt, .bool p.tm.tb, .bool p.tm.fr, .int .i64 p.tm.ad, .string p.txt] _ (by simp))
  obtain ⟨c, hc⟩ : ∃ b, wA.heap.size = b := ⟨_, rfl⟩
  obtain ⟨wB, hB⟩ : ∃ wX, wA.alloc (.cells #[.int .i64 x.dt, .bool x.tb, .bool x.fr, .int .i64 x.ad] 23) = wX := ⟨_, rfl⟩
  have HT := Lib.hid (show TmAt c x wB by rw [← hc, ← hB]; exact TmAt.made wA x _)
  have HK0 := Lib.hid (show Keeps w wB by rw [← hB, ← hA]; exact ((Keeps.refl w).alloc _).alloc _)
  have hcz : wA.heap.size = b + 1 := by rw [← hA, World.size_alloc, hb]
  have hc2 : c = b + 1 := by rw [← hc, hcz]
  subst hc2
  clear hc
  have HA0 := Lib.hid (show CsAt b (prC p) wB by rw [← hB]; exact HA.out.keeps ((Keeps.refl wA).alloc _))
  have HX0 := Lib.hid (show CsAt (b + 1) (tmC x) wB from ⟨HT.out.range, HT.out.fz, by simp⟩)
  by_cases h : 5000 < p.txt.size
  · obtain ⟨mac, ⟨dt, tb, fr, ad⟩, txt⟩ := p
    obtain ⟨xd, xt, xf, xa⟩ := x
    simp only at h hA hB
    have hi : (5000 : Int) < (txt.size : Int) := by omega
    have p0_0 : (wB).cell? ⟨b, 0, none⟩ = some (.int .i64 mac) := HA0.out.cell 0 rfl
    have p0_1 : (wB).cell? ⟨b, 1, none⟩ = some (.int .i64 dt) := HA0.out.cell 1 rfl
    have p0_2 : (wB).cell? ⟨b, 2, none⟩ = some (.bool tb) := HA0.out.cell 2 rfl
    have p0_3 : (wB).cell? ⟨b, 3, none⟩ = some (.bool fr) := HA0.out.cell 3 rfl
    have p0_4 : (wB).cell? ⟨b, 4, none⟩ = some (.int .i64 ad) := HA0.out.cell 4 rfl
    have p0_5 : (wB).cell? ⟨b, 5, none⟩ = some (.string txt) := HA0.out.cell 5 rfl
    have x0_0 : (wB).cell? ⟨b + 1, 0, none⟩ = some (.int .i64 xd) := HX0.out.cell 0 rfl
    have x0_1 : (wB).cell? ⟨b + 1, 1, none⟩ = some (.bool xt) := HX0.out.cell 1 rfl
    have x0_2 : (wB).cell? ⟨b + 1, 2, none⟩ = some (.bool xf) := HX0.out.cell 2 rfl
    have x0_3 : (wB).cell? ⟨b + 1, 3, none⟩ = some (.int .i64 xa) := HX0.out.cell 3 rfl
    go_enter Try.func9, Try.ntmps9
    go_wp2_with (first | (go_at_call 10; refine (awake10_any w _ (HK0.out)).mono ?_; rintro _ w99 ⟨rfl, k99⟩))
    go_ret
    exact ⟨rfl, k99⟩
  · have hiP : ¬ (5000 : Int) < (p.txt.size : Int) := by omega
    have HE1 := Lib.hid (fun W => mpencode_any W p W (by omega) (Keeps.refl W))
    unfold PecPost at HE1
    have heg2 := egT
    by_cases hc : ckP p = 0
    · rw [ecP_ok hc] at HE1
      have hok := (ckP_good hc).1.2
      have HW1 := Lib.hid (fun W => mpwith_any W (st (mby p)) x W (by rw [st_size, mby_length]; omega) (Keeps.refl W))
      unfold PwtPost at HW1
      simp only [ls_st] at HW1
      have hzP : (st (mby p)).size = p.txt.size + 16 := by rw [st_size, mby_length]
      have htP : (st (mby p)).extract 12 (p.txt.size + 12) = p.txt := by
        rw [← st_ls ((st (mby p)).extract 12 (p.txt.size + 12)), ls_part, ls_st, Nat.add_sub_cancel, mby_text, st_ls]
      have h8P : (st (mby p)).extract 0 8 = st (hd8 (sOf p)) := by
        rw [← st_ls ((st (mby p)).extract 0 8), ls_part, ls_st, List.drop_zero, mby_head]
      obtain ⟨n, hn⟩ : ∃ n, p.txt.size + 16 = n := ⟨_, rfl⟩
      obtain ⟨m, hm⟩ : ∃ m, p.txt.size + 12 = m := ⟨_, rfl⟩
      have hnm : (n : Int) - 4 = (m : Int) := by omega
      have hni : (p.txt.size : Int) + 16 = (n : Int) := by omega
      have j1 : (12 : Int) ≤ (m : Int) := by omega
      have j2 : (m : Int) ≤ (n : Int) := by omega
      have j3 : 12 ≤ m := by omega
      have j4 : m ≤ n := by omega
      have j5 : (8 : Int) ≤ (n : Int) := by omega
      have j6 : 8 ≤ n := by omega
      have wr1 := wrapI (a := (n : Int)) (by omega) (by omega)
      have wr2 := wrapI (a := (m : Int)) (by omega) (by omega)
      have jn : ¬ (m : Int) < 0 := by omega
      rw [hn] at hzP
      rw [hm] at htP
      by_cases hx : okT x
      · rw [wtP_mby hc hx] at HW1
        by_cases hxe : x = p.tm
        · subst hxe
          have hwp : wt p p.tm = p := rfl
          rw [hwp] at HW1
          obtain ⟨H, hH⟩ : ∃ H, st (hd8 (sOf p)) = H := ⟨_, rfl⟩
          rw [hH] at h8P
          obtain ⟨Y, hY⟩ : ∃ Y, st (mby p) = Y := ⟨_, rfl⟩
          simp only [hY] at HE1 HW1
          rw [hY] at hzP htP h8P
          clear hY hH hn hm hc hok hx hwp
          obtain ⟨mac, ⟨dt, tb, fr, ad⟩, txt⟩ := p
          simp only at h hA hB hiP HW1 HE1 htP hni
          have p0_0 : (wB).cell? ⟨b, 0, none⟩ = some (.int .i64 mac) := HA0.out.cell 0 rfl
          have p0_1 : (wB).cell? ⟨b, 1, none⟩ = some (.int .i64 dt) := HA0.out.cell 1 rfl
          have p0_2 : (wB).cell? ⟨b, 2, none⟩ = some (.bool tb) := HA0.out.cell 2 rfl
          have p0_3 : (wB).cell? ⟨b, 3, none⟩ = some (.bool fr) := HA0.out.cell 3 rfl
          have p0_4 : (wB).cell? ⟨b, 4, none⟩ = some (.int .i64 ad) := HA0.out.cell 4 rfl
          have p0_5 : (wB).cell? ⟨b, 5, none⟩ = some (.string txt) := HA0.out.cell 5 rfl
          have x0_0 : (wB).cell? ⟨b + 1, 0, none⟩ = some (.int .i64 dt) := HX0.out.cell 0 rfl
          have x0_1 : (wB).cell? ⟨b + 1, 1, none⟩ = some (.bool tb) := HX0.out.cell 1 rfl
          have x0_2 : (wB).cell? ⟨b + 1, 2, none⟩ = some (.bool fr) := HX0.out.cell 2 rfl
          have x0_3 : (wB).cell? ⟨b + 1, 3, none⟩ = some (.int .i64 ad) := HX0.out.cell 3 rfl
          go_enter Try.func9, Try.ntmps9
          go_wp2_with (first | (go_at_call 13; (with_reducible refine (HE1.out _).mono ?_); rintro _ w1 ⟨rfl, k1⟩; have HA1 := Lib.hid ((HA0.out.keeps k1)); have HX1 := Lib.hid ((HX0.out.keeps k1)); have HK1 := Lib.hid ((HK0.out.trans k1)); have p1_0 : (w1).cell? ⟨b, 0, none⟩ = some (.int .i64 mac) := HA1.out.cell 0 rfl; have p1_1 : (w1).cell? ⟨b, 1, none⟩ = some (.int .i64 dt) := HA1.out.cell 1 rfl; have p1_2 : (w1).cell? ⟨b, 2, none⟩ = some (.bool tb) := HA1.out.cell 2 rfl; have p1_3 : (w1).cell? ⟨b, 3, none⟩ = some (.bool fr) := HA1.out.cell 3 rfl; have p1_4 : (w1).cell? ⟨b, 4, none⟩ = some (.int .i64 ad) := HA1.out.cell 4 rfl; have p1_5 : (w1).cell? ⟨b, 5, none⟩ = some (.string txt) := HA1.out.cell 5 rfl; have x1_0 : (w1).cell? ⟨b + 1, 0, none⟩ = some (.int .i64 dt) := HX1.out.cell 0 rfl; have x1_1 : (w1).cell? ⟨b + 1, 1, none⟩ = some (.bool tb) := HX1.out.cell 1 rfl; have x1_2 : (w1).cell? ⟨b + 1, 2, none⟩ = some (.bool fr) := HX1.out.cell 2 rfl; have x1_3 : (w1).cell? ⟨b + 1, 3, none⟩ = some (.int .i64 ad) := HX1.out.cell 3 rfl; clear k1) | (go_at_call 19; (with_reducible refine (HW1.out _).mono ?_); rintro _ w2 ⟨rfl, k2⟩; have HA2 := Lib.hid ((HA1.out.keeps k2)); have HX2 := Lib.hid ((HX1.out.keeps k2)); have HK2 := Lib.hid ((HK1.out.trans k2)); clear k2))
          refine wp_draw (by kernel_rfl) [.string Y, .int .i64 (n : Int), .pointer (some ⟨b, 5, none⟩), .string txt, .int .i64 (txt.size : Int), .int .i64 (n : Int), .bool false, .bool false, .string Y, .string Y, .int .i64 (n : Int), .int .i64 (m : Int), .string txt, .pointer (some ⟨b, 5, none⟩), .string txt, .bool false, .bool false]
            (fun _ W => Keeps w2 W) rfl (by kernel_rfl) (fin := ?fin0) ?hfin0 ((Keeps.refl w2).eqv (Eqv.drew w2)) ?each0 ?hend0
          case hfin0 => simp [seqA, dstOf, Act.put]; rfl
          case each0 =>
            refine ⟨?_, ?_, ?_, ?_, ?_, ?_, ?_, ?_, ?_, ?_, ?_, ?_, ?_, ?_, ?_, ?_, ?_, trivial⟩
            all_goals intro X w6 h0 hd hs hw
            all_goals have p5 : w6.cell? ⟨b, 5, none⟩ = some (.string txt) := (HA2.out.keeps hw).cell 5 rfl
            all_goals try rw [if_pos (by rfl)]
            all_goals unfold Does
            all_goals go_simp
            all_goals exact fun L' k => hw
          case hend0 =>
          intro X w6 hL hw
          have HA6 := Lib.hid (HA2.out.keeps hw)
          have HX6 := Lib.hid (HX2.out.keeps hw)
          have HK6 := Lib.hid (HK2.out.trans hw)
          clear hw hL
          go_wp2
          refine wp_draw (by kernel_rfl) [.string Y, .int .i64 (n : Int), .string Y, .int .i64 (n : Int), .bool true, .bool true, .string Y, .string H, .string Y, .string H, .bool true, .bool true, .bool true, .string Y, .string Y, .int .i64 (n : Int), .int .i64 (m : Int), .string txt, .pointer (some ⟨b, 5, none⟩), .string txt, .bool true, .bool true, .bool true, .string Y, .string Y, .bool true, tmV ⟨dt, tb, fr, ad⟩, .pointer (some ⟨b, 1, none⟩), tmV ⟨dt, tb, fr, ad⟩, .bool true, .bool true, .bool true, .bool true, .bool true, .bool true, .bool true]
            (fun _ W => Keeps w6 W) rfl (by kernel_rfl) (fin := ?fin1) ?hfin1 ((Keeps.refl w6).eqv (Eqv.drew w6)) ?each1 ?hend1
          case hfin1 => simp [seqA, dstOf, Act.put]; rfl
          case each1 =>
            refine ⟨?_, ?_, ?_, ?_, ?_, ?_, ?_, ?_, ?_, ?_, ?_, ?_, ?_, ?_, ?_, ?_, ?_, ?_, ?_, ?_, ?_, ?_, ?_, ?_, ?_, ?_, ?_, ?_, ?_, ?_, ?_, ?_, ?_, ?_, ?_, ?_, trivial⟩
            all_goals intro X w7 h0 hd hs hw
            all_goals have p0 : w7.cell? ⟨b, 0, none⟩ = some (.int .i64 mac) := (HA6.out.keeps hw).cell 0 rfl
            all_goals have p1 : w7.cell? ⟨b, 1, none⟩ = some (.int .i64 dt) := (HA6.out.keeps hw).cell 1 rfl
            all_goals have p2 : w7.cell? ⟨b, 2, none⟩ = some (.bool tb) := (HA6.out.keeps hw).cell 2 rfl
            all_goals have p3 : w7.cell? ⟨b, 3, none⟩ = some (.bool fr) := (HA6.out.keeps hw).cell 3 rfl
            all_goals have p4 : w7.cell? ⟨b, 4, none⟩ = some (.int .i64 ad) := (HA6.out.keeps hw).cell 4 rfl
            all_goals have p5 : w7.cell? ⟨b, 5, none⟩ = some (.string txt) := (HA6.out.keeps hw).cell 5 rfl
            all_goals have x0 : w7.cell? ⟨b + 1, 0, none⟩ = some (.int .i64 dt) := (HX6.out.keeps hw).cell 0 rfl
            all_goals have x1 : w7.cell? ⟨b + 1, 1, none⟩ = some (.bool tb) := (HX6.out.keeps hw).cell 1 rfl
            all_goals have x2 : w7.cell? ⟨b + 1, 2, none⟩ = some (.bool fr) := (HX6.out.keeps hw).cell 2 rfl
            all_goals have x3 : w7.cell? ⟨b + 1, 3, none⟩ = some (.int .i64 ad) := (HX6.out.keeps hw).cell 3 rfl
            all_goals try rw [if_pos (by rfl)]
            all_goals unfold Does
            all_goals go_simp
            all_goals first | exact fun L' k => hw | ((with_reducible refine (awake10_any w7 w7 (Keeps.refl w7)).mono ?_); rintro e w8 ⟨rfl, k8⟩; exact ⟨_, rfl, rfl, fun _ _ => hw.trans k8⟩)
          case hend1 =>
          intro X w9 hL hw
          have HK9 := Lib.hid (HK6.out.trans hw)
          clear hw hL
          go_wp2
          go_ret
          exact ⟨rfl, HK9.out⟩
        · have hpz : (st (mby (wt p x))).size = n := by rw [st_size, mby_length]; exact hn
          have htU : (st (mby (wt p x))).extract 12 m = p.txt := by
            rw [← hm, ← st_ls ((st (mby (wt p x))).extract 12 (p.txt.size + 12)), ls_part, ls_st, Nat.add_sub_cancel]
            exact (congrArg st (mby_text (wt p x))).trans (st_ls _)
          have h8U : (st (mby (wt p x))).extract 0 8 = st (hd8 (sOf p)) := by
            rw [← st_ls ((st (mby (wt p x))).extract 0 8), ls_part, ls_st, List.drop_zero, mby_head, hd8_wt]
          have hUY : ((st (mby (wt p x))).toList == (st (mby p)).toList) = false := by
            rw [beq_eq_false_iff_ne, st_toList, st_toList]
            exact fun e => hxe (congrArg Prt.tm (mby_inj (ckP_wt hc hx) hc e))
          have HN := Lib.hid (sameT_no hxe)
          obtain ⟨H, hH⟩ : ∃ H, st (hd8 (sOf p)) = H := ⟨_, rfl⟩
          rw [hH] at h8P h8U
          obtain ⟨Y, hY⟩ : ∃ Y, st (mby p) = Y := ⟨_, rfl⟩
          obtain ⟨U, hU⟩ : ∃ U, st (mby (wt p x)) = U := ⟨_, rfl⟩
          simp only [hY, hU] at HE1 HW1
          rw [hY] at hzP htP h8P
          rw [hU] at hpz htU h8U
          rw [hU, hY] at hUY
          clear hY hU hH hn hm hc hok hx hxe
          obtain ⟨mac, ⟨dt, tb, fr, ad⟩, txt⟩ := p
          obtain ⟨xd, xt, xf, xa⟩ := x
          simp only at h hA hB hiP HW1 HE1 htP htU hni
          have p0_0 : (wB).cell? ⟨b, 0, none⟩ = some (.int .i64 mac) := HA0.out.cell 0 rfl
          have p0_1 : (wB).cell? ⟨b, 1, none⟩ = some (.int .i64 dt) := HA0.out.cell 1 rfl
          have p0_2 : (wB).cell? ⟨b, 2, none⟩ = some (.bool tb) := HA0.out.cell 2 rfl
          have p0_3 : (wB).cell? ⟨b, 3, none⟩ = some (.bool fr) := HA0.out.cell 3 rfl
          have p0_4 : (wB).cell? ⟨b, 4, none⟩ = some (.int .i64 ad) := HA0.out.cell 4 rfl
          have p0_5 : (wB).cell? ⟨b, 5, none⟩ = some (.string txt) := HA0.out.cell 5 rfl
          have x0_0 : (wB).cell? ⟨b + 1, 0, none⟩ = some (.int .i64 xd) := HX0.out.cell 0 rfl
          have x0_1 : (wB).cell? ⟨b + 1, 1, none⟩ = some (.bool xt) := HX0.out.cell 1 rfl
          have x0_2 : (wB).cell? ⟨b + 1, 2, none⟩ = some (.bool xf) := HX0.out.cell 2 rfl
          have x0_3 : (wB).cell? ⟨b + 1, 3, none⟩ = some (.int .i64 xa) := HX0.out.cell 3 rfl
          go_enter Try.func9, Try.ntmps9
          go_wp2_with (first | (go_at_call 13; (with_reducible refine (HE1.out _).mono ?_); rintro _ w1 ⟨rfl, k1⟩; have HA1 := Lib.hid ((HA0.out.keeps k1)); have HX1 := Lib.hid ((HX0.out.keeps k1)); have HK1 := Lib.hid ((HK0.out.trans k1)); have p1_0 : (w1).cell? ⟨b, 0, none⟩ = some (.int .i64 mac) := HA1.out.cell 0 rfl; have p1_1 : (w1).cell? ⟨b, 1, none⟩ = some (.int .i64 dt) := HA1.out.cell 1 rfl; have p1_2 : (w1).cell? ⟨b, 2, none⟩ = some (.bool tb) := HA1.out.cell 2 rfl; have p1_3 : (w1).cell? ⟨b, 3, none⟩ = some (.bool fr) := HA1.out.cell 3 rfl; have p1_4 : (w1).cell? ⟨b, 4, none⟩ = some (.int .i64 ad) := HA1.out.cell 4 rfl; have p1_5 : (w1).cell? ⟨b, 5, none⟩ = some (.string txt) := HA1.out.cell 5 rfl; have x1_0 : (w1).cell? ⟨b + 1, 0, none⟩ = some (.int .i64 xd) := HX1.out.cell 0 rfl; have x1_1 : (w1).cell? ⟨b + 1, 1, none⟩ = some (.bool xt) := HX1.out.cell 1 rfl; have x1_2 : (w1).cell? ⟨b + 1, 2, none⟩ = some (.bool xf) := HX1.out.cell 2 rfl; have x1_3 : (w1).cell? ⟨b + 1, 3, none⟩ = some (.int .i64 xa) := HX1.out.cell 3 rfl; clear k1) | (go_at_call 19; (with_reducible refine (HW1.out _).mono ?_); rintro _ w2 ⟨rfl, k2⟩; have HA2 := Lib.hid ((HA1.out.keeps k2)); have HX2 := Lib.hid ((HX1.out.keeps k2)); have HK2 := Lib.hid ((HK1.out.trans k2)); clear k2))
          refine wp_draw (by kernel_rfl) [.string Y, .int .i64 (n : Int), .pointer (some ⟨b, 5, none⟩), .string txt, .int .i64 (txt.size : Int), .int .i64 (n : Int), .bool false, .bool false, .string Y, .string Y, .int .i64 (n : Int), .int .i64 (m : Int), .string txt, .pointer (some ⟨b, 5, none⟩), .string txt, .bool false, .bool false]
            (fun _ W => Keeps w2 W) rfl (by kernel_rfl) (fin := ?fin2) ?hfin2 ((Keeps.refl w2).eqv (Eqv.drew w2)) ?each2 ?hend2
          case hfin2 => simp [seqA, dstOf, Act.put]; rfl
          case each2 =>
            refine ⟨?_, ?_, ?_, ?_, ?_, ?_, ?_, ?_, ?_, ?_, ?_, ?_, ?_, ?_, ?_, ?_, ?_, trivial⟩
            all_goals intro X w6 h0 hd hs hw
            all_goals have p5 : w6.cell? ⟨b, 5, none⟩ = some (.string txt) := (HA2.out.keeps hw).cell 5 rfl
            all_goals try rw [if_pos (by rfl)]
            all_goals unfold Does
            all_goals go_simp
            all_goals exact fun L' k => hw
          case hend2 =>
          intro X w6 hL hw
          have HA6 := Lib.hid (HA2.out.keeps hw)
          have HX6 := Lib.hid (HX2.out.keeps hw)
          have HK6 := Lib.hid (HK2.out.trans hw)
          clear hw hL
          go_wp2
          refine wp_draw (by kernel_rfl) [.string U, .int .i64 (n : Int), .string Y, .int .i64 (n : Int), .bool true, .bool true, .string U, .string H, .string Y, .string H, .bool true, .bool true, .bool true, .string U, .string U, .int .i64 (n : Int), .int .i64 (m : Int), .string txt, .pointer (some ⟨b, 5, none⟩), .string txt, .bool true, .bool true, .bool true, .string U, .string Y, .bool false, tmV ⟨xd, xt, xf, xa⟩, .pointer (some ⟨b, 1, none⟩), tmV ⟨dt, tb, fr, ad⟩, .bool false, .bool true, .bool true, .bool true, .bool true, .bool true, .bool true]
            (fun _ W => Keeps w6 W) rfl (by kernel_rfl) (fin := ?fin3) ?hfin3 ((Keeps.refl w6).eqv (Eqv.drew w6)) ?each3 ?hend3
          case hfin3 => simp [seqA, dstOf, Act.put]; rfl
          case each3 =>
            refine ⟨?_, ?_, ?_, ?_, ?_, ?_, ?_, ?_, ?_, ?_, ?_, ?_, ?_, ?_, ?_, ?_, ?_, ?_, ?_, ?_, ?_, ?_, ?_, ?_, ?_, ?_, ?_, ?_, ?_, ?_, ?_, ?_, ?_, ?_, ?_, ?_, trivial⟩
            all_goals intro X w7 h0 hd hs hw
            all_goals have p0 : w7.cell? ⟨b, 0, none⟩ = some (.int .i64 mac) := (HA6.out.keeps hw).cell 0 rfl
            all_goals have p1 : w7.cell? ⟨b, 1, none⟩ = some (.int .i64 dt) := (HA6.out.keeps hw).cell 1 rfl
            all_goals have p2 : w7.cell? ⟨b, 2, none⟩ = some (.bool tb) := (HA6.out.keeps hw).cell 2 rfl
            all_goals have p3 : w7.cell? ⟨b, 3, none⟩ = some (.bool fr) := (HA6.out.keeps hw).cell 3 rfl
            all_goals have p4 : w7.cell? ⟨b, 4, none⟩ = some (.int .i64 ad) := (HA6.out.keeps hw).cell 4 rfl
            all_goals have p5 : w7.cell? ⟨b, 5, none⟩ = some (.string txt) := (HA6.out.keeps hw).cell 5 rfl
            all_goals have x0 : w7.cell? ⟨b + 1, 0, none⟩ = some (.int .i64 xd) := (HX6.out.keeps hw).cell 0 rfl
            all_goals have x1 : w7.cell? ⟨b + 1, 1, none⟩ = some (.bool xt) := (HX6.out.keeps hw).cell 1 rfl
            all_goals have x2 : w7.cell? ⟨b + 1, 2, none⟩ = some (.bool xf) := (HX6.out.keeps hw).cell 2 rfl
            all_goals have x3 : w7.cell? ⟨b + 1, 3, none⟩ = some (.int .i64 xa) := (HX6.out.keeps hw).cell 3 rfl
            all_goals try rw [if_pos (by rfl)]
            all_goals unfold Does
            all_goals go_simp
            all_goals first | exact fun L' k => hw | ((with_reducible refine (awake10_any w7 w7 (Keeps.refl w7)).mono ?_); rintro e w8 ⟨rfl, k8⟩; exact ⟨_, rfl, rfl, fun _ _ => hw.trans k8⟩) | (rw [chain4_no HN.out]; exact ⟨rfl, fun L' k => hw⟩)
          case hend3 =>
          intro X w9 hL hw
          have HK9 := Lib.hid (HK6.out.trans hw)
          clear hw hL
          go_wp2
          go_ret
          exact ⟨rfl, HK9.out⟩
      · rw [wtP_mbyno hc hx] at HW1
        have hnil : st [] = (⟨#[]⟩ : ByteArray) := rfl
        simp only [hnil] at HW1
        obtain ⟨Y, hY⟩ : ∃ Y, st (mby p) = Y := ⟨_, rfl⟩
        simp only [hY] at HE1 HW1
        rw [hY] at hzP htP
        clear h8P hY hn hm hc hok hx hnil
        obtain ⟨mac, ⟨dt, tb, fr, ad⟩, txt⟩ := p
        obtain ⟨xd, xt, xf, xa⟩ := x
        simp only at h hA hB hiP HW1 HE1 htP hni
        have p0_0 : (wB).cell? ⟨b, 0, none⟩ = some (.int .i64 mac) := HA0.out.cell 0 rfl
        have p0_1 : (wB).cell? ⟨b, 1, none⟩ = some (.int .i64 dt) := HA0.out.cell 1 rfl
        have p0_2 : (wB).cell? ⟨b, 2, none⟩ = some (.bool tb) := HA0.out.cell 2 rfl
        have p0_3 : (wB).cell? ⟨b, 3, none⟩ = some (.bool fr) := HA0.out.cell 3 rfl
        have p0_4 : (wB).cell? ⟨b, 4, none⟩ = some (.int .i64 ad) := HA0.out.cell 4 rfl
        have p0_5 : (wB).cell? ⟨b, 5, none⟩ = some (.string txt) := HA0.out.cell 5 rfl
        have x0_0 : (wB).cell? ⟨b + 1, 0, none⟩ = some (.int .i64 xd) := HX0.out.cell 0 rfl
        have x0_1 : (wB).cell? ⟨b + 1, 1, none⟩ = some (.bool xt) := HX0.out.cell 1 rfl
        have x0_2 : (wB).cell? ⟨b + 1, 2, none⟩ = some (.bool xf) := HX0.out.cell 2 rfl
        have x0_3 : (wB).cell? ⟨b + 1, 3, none⟩ = some (.int .i64 xa) := HX0.out.cell 3 rfl
        go_enter Try.func9, Try.ntmps9
        go_wp2_with (first | (go_at_call 13; (with_reducible refine (HE1.out _).mono ?_); rintro _ w1 ⟨rfl, k1⟩; have HA1 := Lib.hid ((HA0.out.keeps k1)); have HX1 := Lib.hid ((HX0.out.keeps k1)); have HK1 := Lib.hid ((HK0.out.trans k1)); have p1_0 : (w1).cell? ⟨b, 0, none⟩ = some (.int .i64 mac) := HA1.out.cell 0 rfl; have p1_1 : (w1).cell? ⟨b, 1, none⟩ = some (.int .i64 dt) := HA1.out.cell 1 rfl; have p1_2 : (w1).cell? ⟨b, 2, none⟩ = some (.bool tb) := HA1.out.cell 2 rfl; have p1_3 : (w1).cell? ⟨b, 3, none⟩ = some (.bool fr) := HA1.out.cell 3 rfl; have p1_4 : (w1).cell? ⟨b, 4, none⟩ = some (.int .i64 ad) := HA1.out.cell 4 rfl; have p1_5 : (w1).cell? ⟨b, 5, none⟩ = some (.string txt) := HA1.out.cell 5 rfl; have x1_0 : (w1).cell? ⟨b + 1, 0, none⟩ = some (.int .i64 xd) := HX1.out.cell 0 rfl; have x1_1 : (w1).cell? ⟨b + 1, 1, none⟩ = some (.bool xt) := HX1.out.cell 1 rfl; have x1_2 : (w1).cell? ⟨b + 1, 2, none⟩ = some (.bool xf) := HX1.out.cell 2 rfl; have x1_3 : (w1).cell? ⟨b + 1, 3, none⟩ = some (.int .i64 xa) := HX1.out.cell 3 rfl; clear k1) | (go_at_call 19; (with_reducible refine (HW1.out _).mono ?_); rintro _ w2 ⟨rfl, k2⟩; have HA2 := Lib.hid ((HA1.out.keeps k2)); have HX2 := Lib.hid ((HX1.out.keeps k2)); have HK2 := Lib.hid ((HK1.out.trans k2)); clear k2))
        refine wp_draw (by kernel_rfl) [.string Y, .int .i64 (n : Int), .pointer (some ⟨b, 5, none⟩), .string txt, .int .i64 (txt.size : Int), .int .i64 (n : Int), .bool false, .bool false, .string Y, .string Y, .int .i64 (n : Int), .int .i64 (m : Int), .string txt, .pointer (some ⟨b, 5, none⟩), .string txt, .bool false, .bool false]
          (fun _ W => Keeps w2 W) rfl (by kernel_rfl) (fin := ?fin4) ?hfin4 ((Keeps.refl w2).eqv (Eqv.drew w2)) ?each4 ?hend4
        case hfin4 => simp [seqA, dstOf, Act.put]; rfl
        case each4 =>
          refine ⟨?_, ?_, ?_, ?_, ?_, ?_, ?_, ?_, ?_, ?_, ?_, ?_, ?_, ?_, ?_, ?_, ?_, trivial⟩
          all_goals intro X w6 h0 hd hs hw
          all_goals have p5 : w6.cell? ⟨b, 5, none⟩ = some (.string txt) := (HA2.out.keeps hw).cell 5 rfl
          all_goals try rw [if_pos (by rfl)]
          all_goals unfold Does
          all_goals go_simp
          all_goals exact fun L' k => hw
        case hend4 =>
        intro X w6 hL hw
        have HA6 := Lib.hid (HA2.out.keeps hw)
        have HX6 := Lib.hid (HX2.out.keeps hw)
        have HK6 := Lib.hid (HK2.out.trans hw)
        clear hw hL
        go_wp2_with (first | (go_at_call 10; refine (awake10_any w _ (HK6.out)).mono ?_; rintro _ w99 ⟨rfl, k99⟩))
        go_ret
        exact ⟨rfl, k99⟩
    · rw [ecP_no hc] at HE1
      obtain ⟨n, hn⟩ : ∃ n, ckP p = n := ⟨_, rfl⟩
      have hnb : (n != 0) = true := by rw [← hn]; simpa using hc
      have hnil : st [] = (⟨#[]⟩ : ByteArray) := rfl
      simp only [hn, hnil] at HE1
      clear hc hn hnil
      obtain ⟨mac, ⟨dt, tb, fr, ad⟩, txt⟩ := p
      obtain ⟨xd, xt, xf, xa⟩ := x
      simp only at h hA hB hiP HE1
      have p0_0 : (wB).cell? ⟨b, 0, none⟩ = some (.int .i64 mac) := HA0.out.cell 0 rfl
      have p0_1 : (wB).cell? ⟨b, 1, none⟩ = some (.int .i64 dt) := HA0.out.cell 1 rfl
      have p0_2 : (wB).cell? ⟨b, 2, none⟩ = some (.bool tb) := HA0.out.cell 2 rfl
      have p0_3 : (wB).cell? ⟨b, 3, none⟩ = some (.bool fr) := HA0.out.cell 3 rfl
      have p0_4 : (wB).cell? ⟨b, 4, none⟩ = some (.int .i64 ad) := HA0.out.cell 4 rfl
      have p0_5 : (wB).cell? ⟨b, 5, none⟩ = some (.string txt) := HA0.out.cell 5 rfl
      have x0_0 : (wB).cell? ⟨b + 1, 0, none⟩ = some (.int .i64 xd) := HX0.out.cell 0 rfl
      have x0_1 : (wB).cell? ⟨b + 1, 1, none⟩ = some (.bool xt) := HX0.out.cell 1 rfl
      have x0_2 : (wB).cell? ⟨b + 1, 2, none⟩ = some (.bool xf) := HX0.out.cell 2 rfl
      have x0_3 : (wB).cell? ⟨b + 1, 3, none⟩ = some (.int .i64 xa) := HX0.out.cell 3 rfl
      go_enter Try.func9, Try.ntmps9
      go_wp2_with (first | (go_at_call 13; (with_reducible refine (HE1.out _).mono ?_); rintro _ w1 ⟨rfl, k1⟩; have HA1 := Lib.hid ((HA0.out.keeps k1)); have HX1 := Lib.hid ((HX0.out.keeps k1)); have HK1 := Lib.hid ((HK0.out.trans k1)); have p1_0 : (w1).cell? ⟨b, 0, none⟩ = some (.int .i64 mac) := HA1.out.cell 0 rfl; have p1_1 : (w1).cell? ⟨b, 1, none⟩ = some (.int .i64 dt) := HA1.out.cell 1 rfl; have p1_2 : (w1).cell? ⟨b, 2, none⟩ = some (.bool tb) := HA1.out.cell 2 rfl; have p1_3 : (w1).cell? ⟨b, 3, none⟩ = some (.bool fr) := HA1.out.cell 3 rfl; have p1_4 : (w1).cell? ⟨b, 4, none⟩ = some (.int .i64 ad) := HA1.out.cell 4 rfl; have p1_5 : (w1).cell? ⟨b, 5, none⟩ = some (.string txt) := HA1.out.cell 5 rfl; have x1_0 : (w1).cell? ⟨b + 1, 0, none⟩ = some (.int .i64 xd) := HX1.out.cell 0 rfl; have x1_1 : (w1).cell? ⟨b + 1, 1, none⟩ = some (.bool xt) := HX1.out.cell 1 rfl; have x1_2 : (w1).cell? ⟨b + 1, 2, none⟩ = some (.bool xf) := HX1.out.cell 2 rfl; have x1_3 : (w1).cell? ⟨b + 1, 3, none⟩ = some (.int .i64 xa) := HX1.out.cell 3 rfl; clear k1) | (go_at_call 10; refine (awake10_any w _ (HK1.out)).mono ?_; rintro _ w99 ⟨rfl, k99⟩))
      go_ret
      exact ⟨rfl, k99⟩


theorem own : ownKnob Try.prog.godebug = none := by kernel_rfl
theorem laidOut : laidOutB Try.prog = true := by kernel_rfl
set_option maxRecDepth 100000 in
theorem lifted (os : Os) (started : os.Started) (H : Type) (enc : TypeId × Value → H) :
    ReturnsInHanded {} Try.checked os 9 .any (Rows.mpeLongSpec.pre6 enc Try.prog Try.f9 Rows.mpeLongRow.domain false) (Rows.mpeLongSpec.post enc Try.prog Try.f9 false true false false) := by
  refine returnsInHanded_of_change (C := Try.checked) own started (by kernel_rfl) Try.func9
    (ChangeSpec.witness6 (enc := enc) (C := Try.checked) false ⟨#[], #[.agg #[.int .i64 0, .int .i64 0, .bool false, .bool false, .int .i64 0, .string ByteArray.empty], .agg #[.int .i64 0, .bool false, .bool false, .int .i64 0]], []⟩ 8 (by kernel_rfl) (by kernel_rfl) (by kernel_rfl) (by kernel_rfl)) ?_
  intro W base args ds gs before hval0 hW hcnd _
  have hval : ∀ (j : Nat) t v, Try.f9.params[j]? = some t → args[j]? = some v → Value.okWide Try.prog W .any base t v := hval0
  have hW' := hW
  obtain ⟨p, q, hA0, hV, rfl, hfz, hnd⟩ := hW
  have hA : DataW.TrodAll enc Try.prog W 0 (fun _ => true) true Try.f9.params.toList args.toList ds p := hA0
  rw [Try.params9] at hA hval
  obtain ⟨v0, vs0, d0, ds0, p0, q0, hargs, rfl, rfl, h0, r0⟩ := trodAll_cons hA
  obtain ⟨v1, vs1, d1, ds1, p1, q1, rfl, rfl, rfl, h1, r1⟩ := trodAll_cons r0
  obtain ⟨rfl, rfl, rfl⟩ := trodAll_nil r1
  obtain rfl : args = #[v0, v1] := by cases args; simp_all
  obtain ⟨rfl, rfl⟩ := trodVars_none hV
  have k0 := h0
  have lt0 : ∀ x ∈ p0, x.block < W.heap.size := by obtain ⟨m, hm⟩ := k0; exact DataW.trod_lt m _ _ _ hm
  obtain ⟨P0, rfl⟩ := open_prt (hval 0 25 v0 rfl rfl) h0
  have k1 := h1
  have lt1 : ∀ x ∈ p1, x.block < W.heap.size := by obtain ⟨m, hm⟩ := k1; exact DataW.trod_lt m _ _ _ hm
  obtain ⟨s1, rfl⟩ := open_tms (hval 1 23 v1 rfl rfl) h1
  clear hA0 hval0
  refine (walk P0 s1 W).mono fun e W' ⟨he, bel⟩ => ?_
  subst he
  exact ⟨_, rfl, _, _, _, [], _, [], hW', trodAll_mk1 (shut_bool Try.underlying4 _), (trodAll_cons_mk (Below.trod laidOut (by kernel_rfl) (of_decide_eq_true (by kernel_rfl)) k0 bel lt0) (trodAll_cons_mk (Below.trod laidOut (by kernel_rfl) (of_decide_eq_true (by kernel_rfl)) k1 bel lt1) trodAll_mk0)), rfl, bel.frame _, fun h => by cases h⟩

theorem over : Rows.mpeLongRow.holds Try.pinned (OpenSpec.ofChange Rows.mpeLongSpec) :=
  OpenClaim.holds_of_wide 9 Try.f9 rfl rfl rfl rfl rfl rfl rfl ⟨rfl, rfl, rfl, rfl, rfl⟩ rfl rfl rfl rfl rfl (by kernel_rfl) Try.func9 (by kernel_rfl)
    (of_decide_eq_true (by kernel_rfl)) (by unfold Func.isWrapper; first | (rw [if_pos (by decide +kernel)]; kernel_rfl) | (rw [if_neg (by decide +kernel)]; exact ⟨rfl, rfl⟩))
    (fun os started H enc _ => lifted os started H enc)

theorem proved : Rows.MpeLongSaid := over
#print axioms proved
end Go.Proofs.Ytbkodlinfmflkaa.mpeLong
