/-
  For any packet and bytes PacketBack returns true: Decode of Encode is the packet, and what is decoded is the same again, encoded and decoded anew; nothing that was there is changed. The table of widths of package packet starts as the program lays it.
-/
import Derived.SevenTiedAt
import Derived.Test.YtikknojhoejciaaDoorRows
import Derived.Test.YtikknojhoejciaaDoorCards
import Derived.Test.YtikknojhoejciaaDoorTie
import Derived.Test.YtikknojhoejciaaDoorPkLaid
import Derived.Test.YtikknojhoejciaaDoorPkLaw
namespace Go.Proofs.YtikknojhoejciaaDoor.packetBack
open Go.ChangeShapes Go.WideShapes Go.ChangeAt Go.RowKit Gf Pk
set_option maxRecDepth 100000
open Go.ChangeMaps (open_string shut_string)
set_option linter.unusedVariables false
theorem keepsA {w w' : World} (h : Keeps w w') (o : Obj) : Keeps w (w'.alloc o) := h.alloc o
set_option maxHeartbeats 12800000 in
theorem walk (p : Pkt) (s : ByteArray) (hlim : s.size ≤ maxLen) (w : World) (hW : Wd w) :
    Calls Tryd.prog 6 #[pkV p, .string s] w fun e w' => e = .returned (.bool true) ∧ Below w.heap.size w w' := by
  obtain ⟨pid, start, count, bad, body⟩ := p
  obtain ⟨b, hb⟩ : ∃ b, w.heap.size = b := ⟨_, rfl⟩
  obtain ⟨wA, hA⟩ : ∃ wX, w.alloc (.cells #[.int .i64 pid, .bool start, .int .i64 count, .bool bad, .string body] 23) = wX := ⟨_, rfl⟩
  have HA := Lib.hid (show CsAt b (pkC ⟨pid, start, count, bad, body⟩) wA by rw [← hb, ← hA]; exact CsAt.made w #[.int .i64 pid, .bool start, .int .i64 count, .bool bad, .string body] _ (by simp))
  have HK := Lib.hid (show Keeps w wA by rw [← hA]; exact (Keeps.refl w).alloc _)
  have HW := Lib.hid (fun W (q : Keeps w W) => awake14_any W W (Keeps.refl W) (hW.keeps q))
  have q4 := HA.out.cell 4 rfl
  by_cases h : 300 < body.size
  · have hi : (300 : Int) < (body.size : Int) := by omega
    go_enter Tryd.func6, Tryd.ntmps6
    go_wp2_with (first | (go_at_call 9; refine (HW.out _ (by first | exact HK.out | exact HK.out.alloc _ | exact (HK.out.alloc _).alloc _)).mono ?_; rintro _ w9 ⟨rfl, k9⟩; have HK := Lib.hid (HK.out.trans k9); clear k9))
    go_ret
    exact ⟨rfl, HK.out⟩
  by_cases h2 : 300 < s.size
  · have hi : ¬ (300 : Int) < (body.size : Int) := by omega
    have hi2 : (300 : Int) < (s.size : Int) := by omega
    go_enter Tryd.func6, Tryd.ntmps6
    go_wp2_with (first | (go_at_call 9; refine (HW.out _ (by first | exact HK.out | exact HK.out.alloc _ | exact (HK.out.alloc _).alloc _)).mono ?_; rintro _ w9 ⟨rfl, k9⟩; have HK := Lib.hid (HK.out.trans k9); clear k9))
    go_ret
    exact ⟨rfl, HK.out⟩
  have hi : ¬ (300 : Int) < (body.size : Int) := by omega
  have hi2 : ¬ (300 : Int) < (s.size : Int) := by omega
  have heg := egP
  have HPL := Lib.hid (fun W => pkplain_any ⟨pid, start, count, bad, body⟩ W)
  have HRC := Lib.hid (fun W => rpkcheck_any W ⟨pid, start, count, bad, body⟩ W (Keeps.refl W))
  unfold PkkPost at HRC
  have HE1 := Lib.hid (fun W (q : Keeps w W) => pkencode_any ⟨pid, start, count, bad, body⟩ W (hW.keeps q) (by show body.size ≤ 1000000; omega))
  have HD2 := Lib.hid (fun W (q : Keeps w W) => pkdecode_any s W (hW.keeps q) (by omega))
  have HP1 := Lib.hid (fun (hc : ckP ⟨pid, start, count, bad, body⟩ = 0) => show ecP ⟨pid, start, count, bad, body⟩ = (bts ⟨pid, start, count, bad, body⟩, 0) ∧ dc (bts ⟨pid, start, count, bad, body⟩) = (⟨pid, start, count, bad, body⟩, 0) ∧ (bts ⟨pid, start, count, bad, body⟩).length = 188 by
    obtain ⟨d1, d2⟩ := dc_bts hc
    exact ⟨ecP_ok hc, by rw [dc_ok d1, d2], bts_length (ckP_good hc).2⟩)
  obtain ⟨c, hcc⟩ : ∃ c, ckP ⟨pid, start, count, bad, body⟩ = c := ⟨_, rfl⟩
  simp only [hcc] at HRC HP1
  obtain ⟨Y, hY⟩ : ∃ Y, st (bts ⟨pid, start, count, bad, body⟩) = Y := ⟨_, rfl⟩
  have hY1 : ls Y = bts ⟨pid, start, count, bad, body⟩ := by rw [← hY, ls_st]
  have hne := fun W => neP ⟨pid, start, count, bad, body⟩ ⟨pid, start, count, bad, body⟩ W
  rw [sameP_self] at hne
  by_cases hd : dcE (ls s) = 0
  · have hcx := ck_dcP hd
    rw [dc_ok hd] at HD2
    obtain ⟨⟨pid2, start2, count2, bad2, body2⟩, hX⟩ : ∃ q, dcP (ls s) = q := ⟨_, rfl⟩
    simp only [hX] at HD2 hcx
    have HE2 := Lib.hid (fun W (q : Keeps w W) => pkencode_any ⟨pid2, start2, count2, bad2, body2⟩ W (hW.keeps q) (by have := (ckP_good hcx).2; show body2.size ≤ 1000000; exact Nat.le_trans this (by decide)))
    rw [ecP_ok hcx] at HE2
    obtain ⟨d1, d2⟩ := dc_bts hcx
    have hzx := bts_length (ckP_good hcx).2
    obtain ⟨Z, hZ⟩ : ∃ Z, st (bts ⟨pid2, start2, count2, bad2, body2⟩) = Z := ⟨_, rfl⟩
    have hZ1 : ls Z = bts ⟨pid2, start2, count2, bad2, body2⟩ := by rw [← hZ, ls_st]
    have hZz : Z.size = 188 := by rw [← hZ, st_size]; exact hzx
    have HD3 := Lib.hid (fun W (q : Keeps w W) => pkdecode_any Z W (hW.keeps q) (by omega))
    rw [hZ1, dc_ok d1, d2] at HD3
    simp only [hZ] at HE2
    have heq := fun W => eqP ⟨pid2, start2, count2, bad2, body2⟩ ⟨pid2, start2, count2, bad2, body2⟩ W
    rw [sameP_self] at heq
    clear hcx d1 d2 hzx hZ hZ1 hX hd
    by_cases hc : c = 0
    · subst hc
      obtain ⟨e1, e2, e3⟩ := HP1.out rfl
      have hYz : Y.size = 188 := by rw [← hY, st_size]; exact e3
      have HD1 := Lib.hid (fun W (q : Keeps w W) => pkdecode_any Y W (hW.keeps q) (by omega))
      rw [hY1, e2] at HD1
      rw [e1] at HE1
      simp only [hY] at HE1
      clear HP1 e1 e2 e3 hY hY1 hcc
      go_enter Tryd.func6, Tryd.ntmps6
      go_wp2_with (first | (refine wp_ldP (b := b) (off := 0) HA.out.r rfl _ rfl rfl ?_) | (go_at_call 11; refine (HPL.out _).mono ?_; rintro _ w1 ⟨rfl, k1⟩; have HA := Lib.hid (HA.out.keeps k1); have HK := Lib.hid (HK.out.trans k1); clear k1) | (go_at_call 10; refine (HRC.out _).mono ?_; rintro _ w2 ⟨rfl, k2⟩; have HA := Lib.hid (HA.out.keeps k2); have HK := Lib.hid (HK.out.trans k2); clear k2) | (go_at_call 12; (with_reducible refine (HE1.out _ (by first | exact HK.out | exact HK.out.alloc _ | exact (HK.out.alloc _).alloc _)).mono ?_); rintro _ w3 ⟨rfl, k3⟩; have HA := Lib.hid (HA.out.keeps k3); have HK := Lib.hid (HK.out.trans k3); clear k3) | (go_at_call 17; (with_reducible refine (HD1.out _ (by first | exact HK.out | exact HK.out.alloc _ | exact (HK.out.alloc _).alloc _)).mono ?_); rintro _ w4 ⟨rfl, k4⟩; have HA := Lib.hid ((HA.out.keeps k4).keeps ((Keeps.refl w4).alloc (.cells #[.int .i64 pid, .bool start, .int .i64 count, .bool bad, .string body] 23))); have HK := Lib.hid ((HK.out.trans k4).alloc (.cells #[.int .i64 pid, .bool start, .int .i64 count, .bool bad, .string body] 23)); have p0 : (w4.alloc (.cells #[.int .i64 pid, .bool start, .int .i64 count, .bool bad, .string body] 23)).cell? ⟨b, 0, none⟩ = some (.int .i64 pid) := HA.out.cell 0 rfl; have p1 : (w4.alloc (.cells #[.int .i64 pid, .bool start, .int .i64 count, .bool bad, .string body] 23)).cell? ⟨b, 1, none⟩ = some (.bool start) := HA.out.cell 1 rfl; have p2 : (w4.alloc (.cells #[.int .i64 pid, .bool start, .int .i64 count, .bool bad, .string body] 23)).cell? ⟨b, 2, none⟩ = some (.int .i64 count) := HA.out.cell 2 rfl; have p3 : (w4.alloc (.cells #[.int .i64 pid, .bool start, .int .i64 count, .bool bad, .string body] 23)).cell? ⟨b, 3, none⟩ = some (.bool bad) := HA.out.cell 3 rfl; have p4 : (w4.alloc (.cells #[.int .i64 pid, .bool start, .int .i64 count, .bool bad, .string body] 23)).cell? ⟨b, 4, none⟩ = some (.string body) := HA.out.cell 4 rfl; clear k4) | (go_at_call 17; (with_reducible refine (HD2.out _ (by first | exact HK.out | exact HK.out.alloc _ | exact (HK.out.alloc _).alloc _)).mono ?_); rintro _ w5 ⟨rfl, k5⟩; have HK := Lib.hid ((HK.out.trans k5).alloc (.cells #[.int .i64 pid2, .bool start2, .int .i64 count2, .bool bad2, .string body2] 23)); have HX := Lib.hid (CsAt.made w5 #[.int .i64 pid2, .bool start2, .int .i64 count2, .bool bad2, .string body2] 23 (by simp)); clear k5) | (go_at_call 12; (with_reducible refine (HE2.out _ (by first | exact HK.out | exact HK.out.alloc _ | exact (HK.out.alloc _).alloc _)).mono ?_); rintro _ w6 ⟨rfl, k6⟩; have HX := Lib.hid (HX.out.keeps k6); have HK := Lib.hid (HK.out.trans k6); clear k6) | (go_at_call 17; (with_reducible refine (HD3.out _ (by first | exact HK.out | exact HK.out.alloc _ | exact (HK.out.alloc _).alloc _)).mono ?_); rintro _ w7 ⟨rfl, k7⟩; have HX := Lib.hid ((HX.out.keeps k7).keeps ((Keeps.refl w7).alloc (.cells #[.int .i64 pid2, .bool start2, .int .i64 count2, .bool bad2, .string body2] 23))); have HK := Lib.hid ((HK.out.trans k7).alloc (.cells #[.int .i64 pid2, .bool start2, .int .i64 count2, .bool bad2, .string body2] 23)); have x0 : (w7.alloc (.cells #[.int .i64 pid2, .bool start2, .int .i64 count2, .bool bad2, .string body2] 23)).cell? ⟨w5.heap.size, 0, none⟩ = some (.int .i64 pid2) := HX.out.cell 0 rfl; have x1 : (w7.alloc (.cells #[.int .i64 pid2, .bool start2, .int .i64 count2, .bool bad2, .string body2] 23)).cell? ⟨w5.heap.size, 1, none⟩ = some (.bool start2) := HX.out.cell 1 rfl; have x2 : (w7.alloc (.cells #[.int .i64 pid2, .bool start2, .int .i64 count2, .bool bad2, .string body2] 23)).cell? ⟨w5.heap.size, 2, none⟩ = some (.int .i64 count2) := HX.out.cell 2 rfl; have x3 : (w7.alloc (.cells #[.int .i64 pid2, .bool start2, .int .i64 count2, .bool bad2, .string body2] 23)).cell? ⟨w5.heap.size, 3, none⟩ = some (.bool bad2) := HX.out.cell 3 rfl; have x4 : (w7.alloc (.cells #[.int .i64 pid2, .bool start2, .int .i64 count2, .bool bad2, .string body2] 23)).cell? ⟨w5.heap.size, 4, none⟩ = some (.string body2) := HX.out.cell 4 rfl; clear k7) | (go_at_call 9; refine (HW.out _ (by first | exact HK.out | exact HK.out.alloc _ | exact (HK.out.alloc _).alloc _)).mono ?_; rintro _ w9 ⟨rfl, k9⟩; have HK := Lib.hid (HK.out.trans k9); clear k9))
      go_ret
      exact ⟨rfl, HK.out⟩
    · have hcb : (c == 0) = false := by rw [beq_eq_false_iff_ne]; exact hc
      clear HP1 hY hY1 hcc hc HE1 hne
      go_enter Tryd.func6, Tryd.ntmps6
      go_wp2_with (first | (refine wp_ldP (b := b) (off := 0) HA.out.r rfl _ rfl rfl ?_) | (go_at_call 11; refine (HPL.out _).mono ?_; rintro _ w1 ⟨rfl, k1⟩; have HA := Lib.hid (HA.out.keeps k1); have HK := Lib.hid (HK.out.trans k1); clear k1) | (go_at_call 10; refine (HRC.out _).mono ?_; rintro _ w2 ⟨rfl, k2⟩; have HA := Lib.hid (HA.out.keeps k2); have HK := Lib.hid (HK.out.trans k2); clear k2) | (go_at_call 17; (with_reducible refine (HD2.out _ (by first | exact HK.out | exact HK.out.alloc _ | exact (HK.out.alloc _).alloc _)).mono ?_); rintro _ w5 ⟨rfl, k5⟩; have HK := Lib.hid ((HK.out.trans k5).alloc (.cells #[.int .i64 pid2, .bool start2, .int .i64 count2, .bool bad2, .string body2] 23)); have HX := Lib.hid (CsAt.made w5 #[.int .i64 pid2, .bool start2, .int .i64 count2, .bool bad2, .string body2] 23 (by simp)); clear k5) | (go_at_call 12; (with_reducible refine (HE2.out _ (by first | exact HK.out | exact HK.out.alloc _ | exact (HK.out.alloc _).alloc _)).mono ?_); rintro _ w6 ⟨rfl, k6⟩; have HX := Lib.hid (HX.out.keeps k6); have HK := Lib.hid (HK.out.trans k6); clear k6) | (go_at_call 17; (with_reducible refine (HD3.out _ (by first | exact HK.out | exact HK.out.alloc _ | exact (HK.out.alloc _).alloc _)).mono ?_); rintro _ w7 ⟨rfl, k7⟩; have HX := Lib.hid ((HX.out.keeps k7).keeps ((Keeps.refl w7).alloc (.cells #[.int .i64 pid2, .bool start2, .int .i64 count2, .bool bad2, .string body2] 23))); have HK := Lib.hid ((HK.out.trans k7).alloc (.cells #[.int .i64 pid2, .bool start2, .int .i64 count2, .bool bad2, .string body2] 23)); have x0 : (w7.alloc (.cells #[.int .i64 pid2, .bool start2, .int .i64 count2, .bool bad2, .string body2] 23)).cell? ⟨w5.heap.size, 0, none⟩ = some (.int .i64 pid2) := HX.out.cell 0 rfl; have x1 : (w7.alloc (.cells #[.int .i64 pid2, .bool start2, .int .i64 count2, .bool bad2, .string body2] 23)).cell? ⟨w5.heap.size, 1, none⟩ = some (.bool start2) := HX.out.cell 1 rfl; have x2 : (w7.alloc (.cells #[.int .i64 pid2, .bool start2, .int .i64 count2, .bool bad2, .string body2] 23)).cell? ⟨w5.heap.size, 2, none⟩ = some (.int .i64 count2) := HX.out.cell 2 rfl; have x3 : (w7.alloc (.cells #[.int .i64 pid2, .bool start2, .int .i64 count2, .bool bad2, .string body2] 23)).cell? ⟨w5.heap.size, 3, none⟩ = some (.bool bad2) := HX.out.cell 3 rfl; have x4 : (w7.alloc (.cells #[.int .i64 pid2, .bool start2, .int .i64 count2, .bool bad2, .string body2] 23)).cell? ⟨w5.heap.size, 4, none⟩ = some (.string body2) := HX.out.cell 4 rfl; clear k7) | (go_at_call 9; refine (HW.out _ (by first | exact HK.out | exact HK.out.alloc _ | exact (HK.out.alloc _).alloc _)).mono ?_; rintro _ w9 ⟨rfl, k9⟩; have HK := Lib.hid (HK.out.trans k9); clear k9))
      go_ret
      exact ⟨rfl, HK.out⟩
  · rw [dc_no hd] at HD2
    obtain ⟨g, hg⟩ : ∃ g, dcE (ls s) = g := ⟨_, rfl⟩
    rw [hg] at HD2 hd
    unfold pk0 at HD2
    have hgb : (g == 0) = false := by rw [beq_eq_false_iff_ne]; exact hd
    have heq : ∀ W, (binOp .eql 23 (.agg #[.int .i64 0, .bool false, .int .i64 0, .bool false, .string ⟨#[]⟩]) (.agg #[.int .i64 0, .bool false, .int .i64 0, .bool false, .string ⟨#[]⟩])).run Tryd.prog W = .ok (.bool true) W := fun W => by have := eqP pk0 pk0 W; rw [sameP_self] at this; exact this
    clear hg hd
    by_cases hc : c = 0
    · subst hc
      obtain ⟨e1, e2, e3⟩ := HP1.out rfl
      have hYz : Y.size = 188 := by rw [← hY, st_size]; exact e3
      have HD1 := Lib.hid (fun W (q : Keeps w W) => pkdecode_any Y W (hW.keeps q) (by omega))
      rw [hY1, e2] at HD1
      rw [e1] at HE1
      simp only [hY] at HE1
      clear HP1 e1 e2 e3 hY hY1 hcc
      go_enter Tryd.func6, Tryd.ntmps6
      go_wp2_with (first | (refine wp_ldP (b := b) (off := 0) HA.out.r rfl _ rfl rfl ?_) | (go_at_call 11; refine (HPL.out _).mono ?_; rintro _ w1 ⟨rfl, k1⟩; have HA := Lib.hid (HA.out.keeps k1); have HK := Lib.hid (HK.out.trans k1); clear k1) | (go_at_call 10; refine (HRC.out _).mono ?_; rintro _ w2 ⟨rfl, k2⟩; have HA := Lib.hid (HA.out.keeps k2); have HK := Lib.hid (HK.out.trans k2); clear k2) | (go_at_call 12; (with_reducible refine (HE1.out _ (by first | exact HK.out | exact HK.out.alloc _ | exact (HK.out.alloc _).alloc _)).mono ?_); rintro _ w3 ⟨rfl, k3⟩; have HA := Lib.hid (HA.out.keeps k3); have HK := Lib.hid (HK.out.trans k3); clear k3) | (go_at_call 17; (with_reducible refine (HD1.out _ (by first | exact HK.out | exact HK.out.alloc _ | exact (HK.out.alloc _).alloc _)).mono ?_); rintro _ w4 ⟨rfl, k4⟩; have HA := Lib.hid ((HA.out.keeps k4).keeps ((Keeps.refl w4).alloc (.cells #[.int .i64 pid, .bool start, .int .i64 count, .bool bad, .string body] 23))); have HK := Lib.hid ((HK.out.trans k4).alloc (.cells #[.int .i64 pid, .bool start, .int .i64 count, .bool bad, .string body] 23)); have p0 : (w4.alloc (.cells #[.int .i64 pid, .bool start, .int .i64 count, .bool bad, .string body] 23)).cell? ⟨b, 0, none⟩ = some (.int .i64 pid) := HA.out.cell 0 rfl; have p1 : (w4.alloc (.cells #[.int .i64 pid, .bool start, .int .i64 count, .bool bad, .string body] 23)).cell? ⟨b, 1, none⟩ = some (.bool start) := HA.out.cell 1 rfl; have p2 : (w4.alloc (.cells #[.int .i64 pid, .bool start, .int .i64 count, .bool bad, .string body] 23)).cell? ⟨b, 2, none⟩ = some (.int .i64 count) := HA.out.cell 2 rfl; have p3 : (w4.alloc (.cells #[.int .i64 pid, .bool start, .int .i64 count, .bool bad, .string body] 23)).cell? ⟨b, 3, none⟩ = some (.bool bad) := HA.out.cell 3 rfl; have p4 : (w4.alloc (.cells #[.int .i64 pid, .bool start, .int .i64 count, .bool bad, .string body] 23)).cell? ⟨b, 4, none⟩ = some (.string body) := HA.out.cell 4 rfl; clear k4) | (go_at_call 17; (with_reducible refine (HD2.out _ (by first | exact HK.out | exact HK.out.alloc _ | exact (HK.out.alloc _).alloc _)).mono ?_); rintro _ w5 ⟨rfl, k5⟩; have HK := Lib.hid ((HK.out.trans k5).alloc (.cells #[.int .i64 0, .bool false, .int .i64 0, .bool false, .string ⟨#[]⟩] 23)); clear k5) | (go_at_call 9; refine (HW.out _ (by first | exact HK.out | exact HK.out.alloc _ | exact (HK.out.alloc _).alloc _)).mono ?_; rintro _ w9 ⟨rfl, k9⟩; have HK := Lib.hid (HK.out.trans k9); clear k9))
      go_ret
      exact ⟨rfl, HK.out⟩
    · have hcb : (c == 0) = false := by rw [beq_eq_false_iff_ne]; exact hc
      clear HP1 hY hY1 hcc hc HE1 hne
      go_enter Tryd.func6, Tryd.ntmps6
      go_wp2_with (first | (refine wp_ldP (b := b) (off := 0) HA.out.r rfl _ rfl rfl ?_) | (go_at_call 11; refine (HPL.out _).mono ?_; rintro _ w1 ⟨rfl, k1⟩; have HA := Lib.hid (HA.out.keeps k1); have HK := Lib.hid (HK.out.trans k1); clear k1) | (go_at_call 10; refine (HRC.out _).mono ?_; rintro _ w2 ⟨rfl, k2⟩; have HA := Lib.hid (HA.out.keeps k2); have HK := Lib.hid (HK.out.trans k2); clear k2) | (go_at_call 17; (with_reducible refine (HD2.out _ (by first | exact HK.out | exact HK.out.alloc _ | exact (HK.out.alloc _).alloc _)).mono ?_); rintro _ w5 ⟨rfl, k5⟩; have HK := Lib.hid ((HK.out.trans k5).alloc (.cells #[.int .i64 0, .bool false, .int .i64 0, .bool false, .string ⟨#[]⟩] 23)); clear k5) | (go_at_call 9; refine (HW.out _ (by first | exact HK.out | exact HK.out.alloc _ | exact (HK.out.alloc _).alloc _)).mono ?_; rintro _ w9 ⟨rfl, k9⟩; have HK := Lib.hid (HK.out.trans k9); clear k9))
      go_ret
      exact ⟨rfl, HK.out⟩

theorem own : ownKnob Tryd.prog.godebug = none := by kernel_rfl
theorem laidOut : laidOutB Tryd.prog = true := by kernel_rfl
set_option maxRecDepth 100000 in
theorem lifted (os : Os) (started : os.Started) (H : Type) (enc : TypeId × Value → H) :
    ReturnsInHanded {} Tryd.checked os 6 .any (fun w args => (Rows.packetBackSpec.pre enc Tryd.prog Tryd.f6 [] false w args ∧ laidMetH Tryd.prog [("clarion/packet.wide", Rows.laid_clarion_packet_wide)] w) ∧ sizedMet enc Tryd.prog Tryd.f6 (OpenSpec.ofChange Rows.packetBackSpec) false w args) (Rows.packetBackSpec.post enc Tryd.prog Tryd.f6 false true false false) := by
  refine returnsInHanded_of_change_and (C := Tryd.checked) (X := fun w _ => laidMetH Tryd.prog [("clarion/packet.wide", Rows.laid_clarion_packet_wide)] w) (fun _ _ _ hh h => h.of_heap hh) own started (by kernel_rfl) Tryd.func6
    (ChangeSpec.witness_shaped (enc := enc) (C := Tryd.checked) (os := os) (X := fun w _ => laidMetH Tryd.prog [("clarion/packet.wide", Rows.laid_clarion_packet_wide)] w) false (World.doorLaid Tryd.prog 400 os) #[.agg #[.int .i64 0, .bool false, .int .i64 0, .bool false, .string ByteArray.empty], .string ByteArray.empty] 8 rfl (World.shaped_of_RefB (by kernel_rfl) (by kernel_rfl)) (by kernel_rfl) (by kernel_rfl) (by kernel_rfl) (door_met os _)) ?_
  intro W base args ds gs before hval0 hW hcnd _ hL _
  have hval : ∀ (j : Nat) t v, Tryd.f6.params[j]? = some t → args[j]? = some v → Value.okWide Tryd.prog W .any base t v := hval0
  have hW' := hW
  obtain ⟨p, q, hA0, hV, rfl, hfz, hnd⟩ := hW
  have hA : DataW.TrodAll enc Tryd.prog W 0 (fun _ => true) true Tryd.f6.params.toList args.toList ds p := hA0
  rw [Tryd.params6] at hA hval
  obtain ⟨v0, vs0, d0, ds0, p0, q0, hargs, rfl, rfl, h0, r0⟩ := trodAll_cons hA
  obtain ⟨v1, vs1, d1, ds1, p1, q1, rfl, rfl, rfl, h1, r1⟩ := trodAll_cons r0
  obtain ⟨rfl, rfl, rfl⟩ := trodAll_nil r1
  obtain rfl : args = #[v0, v1] := by cases args; simp_all
  obtain ⟨rfl, rfl⟩ := trodVars_none hV
  have k0 := h0
  have lt0 : ∀ x ∈ p0, x.block < W.heap.size := by obtain ⟨m, hm⟩ := k0; exact DataW.trod_lt m _ _ _ hm
  obtain ⟨P0, rfl⟩ := open_pkt (hval 0 23 v0 rfl rfl) h0
  obtain ⟨a1, rfl, rfl, rfl, w1⟩ := open_string Tryd.underlying9 (hval 1 9 v1 rfl rfl) h1
  clear hA0 hval0
  refine (walk P0 a1 w1 W (wd_of_laid hL)).mono fun e W' ⟨he, bel⟩ => ?_
  subst he
  exact ⟨_, rfl, _, _, _, [], _, [], hW', trodAll_mk1 (shut_bool Tryd.underlying4 _), (trodAll_cons_mk (Below.trod laidOut (by kernel_rfl) (of_decide_eq_true (by kernel_rfl)) k0 bel lt0) (trodAll_cons_mk (shut_string Tryd.underlying9 w1) trodAll_mk0)), rfl, bel.frame _, fun h => by cases h⟩

theorem over : Rows.packetBackRow.holds Tryd.pinned (OpenSpec.ofChange Rows.packetBackSpec) :=
  OpenClaim.holds_of_wide 6 Tryd.f6 rfl rfl rfl rfl rfl rfl rfl ⟨rfl, rfl, rfl, rfl, rfl⟩ rfl rfl rfl rfl rfl (by kernel_rfl) Tryd.func6 (by kernel_rfl)
    (of_decide_eq_true (by kernel_rfl)) (by unfold Func.isWrapper; first | (rw [if_pos (by decide +kernel)]; kernel_rfl) | (rw [if_neg (by decide +kernel)]; exact ⟨rfl, rfl⟩))
    (fun os started H enc _ => lifted os started H enc)

set_option maxRecDepth 100000 in
theorem proved : Rows.PacketBackCardSaid :=
  Claim7.holds_tied_plain_at .later [] [.data] true (true, _) false over (fun _ h => by cases h) (by kernel_rfl) (fun _ h => by cases h) packetBack_row_tie rfl ⟨rfl, rfl⟩ (by kernel_rfl) rfl
    (fun f fn hf hfn => by
      obtain rfl : f = 6 := Option.some.inj ((show Tryd.prog.funcNamed "clarion/clarionlaw14.PacketBack" = some 6 by kernel_rfl).symm.trans hf) |>.symm
      obtain rfl : fn = Tryd.f6 := (Option.some.inj (Tryd.func6.symm.trans hfn)).symm
      exact ⟨by kernel_rfl, fun j t ht => by
        rw [Tryd.params6] at ht
        have hm : t ∈ [23, 9] := by simpa using Array.mem_of_getElem? ht
        have hall : ([23, 9].all fun u => !Tryd.prog.wantsStandIn u) = true := by kernel_rfl
        exact (show Tryd.prog.wantsStandIn t = false by simpa using List.all_eq_true.1 hall t hm)⟩)
    (by kernel_rfl)
#print axioms proved
end Go.Proofs.YtikknojhoejciaaDoor.packetBack
