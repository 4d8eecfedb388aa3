/-
  The small functions of package psi: beyond, two, ofTwo, a piece's text, a section of a table, which number a program and a stream have, and whether one may not be. The memory that was there stays.
-/
import Derived.Test.YtebfihghfkcicaaPsApi
import Derived.Test.YtebfihghfkcicaaScE
import Derived.Test.YtebfihghfkcicaaShelf
namespace Go.Proofs.Ytebfihghfkcicaa
open Go.RowKit Gf Ps Sct
set_option maxRecDepth 100000
theorem psbeyond_any (n last : Int) (b : Bool) (h : (decide (n < 0) || decide (last < n)) = b) (w : World) :
    Calls Try.prog 80 #[.int .i64 n, .int .i64 last] w fun e w' => e = .returned (.bool b) ∧ w = w' := by
  by_cases h1 : n < 0
  · have : b = true := by rw [← h, decide_eq_true h1]; rfl
    subst this
    clear h
    go_enter Try.func80, Try.ntmps80
    go_wp2
    go_ret
    exact ⟨rfl, rfl⟩
  · by_cases h2 : last < n
    · have : b = true := by rw [← h, decide_eq_true h2, Bool.or_true]
      subst this
      clear h
      go_enter Try.func80, Try.ntmps80
      go_wp2
      go_ret
      exact ⟨rfl, rfl⟩
    · have : b = false := by rw [← h, decide_eq_false h1, decide_eq_false h2]; rfl
      subst this
      clear h
      go_enter Try.func80, Try.ntmps80
      go_wp2
      go_ret
      exact ⟨rfl, rfl⟩
theorem b2_conv (n : Nat) (h : n < 65536) {N : Int} (hN : (n : Int) = N) (w : World) :
    (convert 46 9 (.slice (some ⟨w.heap.size, 0, none⟩) 2 2)).run Try.prog (w.alloc (.cells #[.int .u8 (N / 256), .int .u8 (N % 256)] 5)) = .ok (.string (st (b2 n))) (w.alloc (.cells #[.int .u8 (N / 256), .int .u8 (N % 256)] 5)) := by
  have hc := (Blk.lit w (b2 n) 5).whole 2 rfl
  have e : ((b2 n).map B).toArray = #[.int .u8 (N / 256), .int .u8 (N % 256)] := by
    unfold b2
    simp only [List.map_cons, List.map_nil]
    rw [B_u8 (x := N / 256) (by omega) (by omega), B_u8 (x := N % 256) (by omega) (by omega)]
  rwa [e] at hc
theorem pstwo_any (n : Nat) (h : n < 65536) {N : Int} (hN : (n : Int) = N) (w : World) :
    Calls Try.prog 77 #[.int .i64 N] w fun e w' => e = .returned (.string (st (b2 n))) ∧ Keeps w w' := by
  have hcv := b2_conv n h hN w
  have n0 : 0 ≤ N := by omega
  have n1 : N < 65536 := by omega
  clear hN
  go_enter Try.func77, Try.ntmps77
  go_wp2
  go_ret
  exact ⟨rfl, (Keeps.refl w).alloc _⟩
theorem psoftwo_any (s : ByteArray) (h : 2 ≤ s.size) (w : World) :
    Calls Try.prog 38 #[.string s] w fun e w' => e = .returned (.int .i64 (((cf (ls s) 0).toNat : Int) * 256 + ((cf (ls s) 1).toNat : Int))) ∧ Eqv w w' := by
  have g0 := ls_get s 0 (by omega)
  have g1 := ls_get s 1 (by omega)
  obtain ⟨a, ha⟩ : ∃ a, cf (ls s) 0 = a := ⟨_, rfl⟩
  obtain ⟨b, hb⟩ : ∃ b, cf (ls s) 1 = b := ⟨_, rfl⟩
  rw [ha] at g0
  rw [hb] at g1
  rw [ha, hb]
  clear ha hb
  have i0 : (0 : Int) < (s.size : Int) := by omega
  have i1 : (1 : Int) < (s.size : Int) := by omega
  have a0 := u8_bd a
  have b0 := u8_bd b
  have HJ := Lib.hid (i64_join 8 (a := (a.toNat : Int) * 256) (b := (b.toNat : Int)) (by omega) (by omega) (by omega) (by omega) (by omega) (by omega))
  go_enter Try.func38, Try.ntmps38
  go_wp2
  go_quiet (fail)
  go_wp2
  rw [HJ.out]
  go_ret
  exact ⟨rfl, Eqv.drewN _ _⟩
abbrev pcC (pid : Int) (inf : ByteArray) : List Value := [.int .i64 pid, .string inf]
abbrev pcV (pid : Int) (inf : ByteArray) : Value := .agg #[.int .i64 pid, .string inf]
set_option maxHeartbeats 1600000 in
theorem pstext_any (pid : Int) (inf : ByteArray) (h0 : 0 ≤ pid) (h1 : pid ≤ 8191) (hi : inf.size ≤ 4095) (w : World) :
    Calls Try.prog 91 #[pcV pid inf] w fun e w' => e = .returned (.string (st (b2 (pid.toNat + 57344) ++ (b2 (inf.size + 61440) ++ ls inf)))) ∧ Keeps w w' := by
  obtain ⟨wA, hA⟩ : ∃ wX, w.alloc (.cells #[.int .i64 pid, .string inf] 73) = wX := ⟨_, rfl⟩
  obtain ⟨b, hb⟩ : ∃ b, w.heap.size = b := ⟨_, rfl⟩
  have HA := Lib.hid (CsAns.start (Keeps.refl w) (a := #[.int .i64 pid, .string inf]) (by simp) hb hA)
  have C1 := Lib.hid (fun W => pstwo_any (pid.toNat + 57344) (by omega) (N := pid + 57344) (by omega) W)
  have C2 := Lib.hid (fun W => pstwo_any (inf.size + 61440) (by omega) (N := (inf.size : Int) + 61440) (by omega) W)
  obtain ⟨T1, hT1⟩ : ∃ T, st (b2 (pid.toNat + 57344)) = T := ⟨_, rfl⟩
  obtain ⟨T2, hT2⟩ : ∃ T, st (b2 (inf.size + 61440)) = T := ⟨_, rfl⟩
  have z1 : T1.size = 2 := by rw [← hT1, st_size]; rfl
  have z2 : T2.size = 2 := by rw [← hT2, st_size]; rfl
  have HE := Lib.hid (show T1 ++ T2 ++ inf = st (b2 (pid.toNat + 57344) ++ (b2 (inf.size + 61440) ++ ls inf)) by
    have := st_append (b2 (pid.toNat + 57344) ++ b2 (inf.size + 61440)) (ls inf)
    rw [st_ls, List.append_assoc] at this
    rw [← hT1, ← hT2, st_append]; exact this)
  simp only [hT1] at C1
  simp only [hT2] at C2
  have z3 : (T1 ++ T2).size = 4 := by rw [ByteArray.size_append, z1, z2]
  have wr1 := wrapI (a := pid + 57344) (by omega) (by omega)
  have wr2 := wrapI (a := (inf.size : Int) + 61440) (by omega) (by omega)
  clear hT1 hT2
  go_enter Try.func91, Try.ntmps91
  go_wp2
  refine wp_draw (by kernel_rfl)
    [.pointer (some ⟨b, 0, none⟩), .int .i64 pid, .int .i64 (pid + 57344), .string T1, .pointer (some ⟨b, 1, none⟩), .string inf, .int .i64 (inf.size : Int), .int .i64 ((inf.size : Int) + 61440), .string T2, .string (T1 ++ T2), .pointer (some ⟨b, 1, none⟩), .string inf, .string (T1 ++ T2 ++ inf), .string (T1 ++ T2 ++ inf)]
    (fun _ W => Keeps wA W) rfl (by kernel_rfl) (fin := ?fin) ?hfin ((Keeps.refl wA).eqv (Eqv.drew wA)) ?each ?hend
  case hfin => simp [seqA, dstOf, Act.put]; rfl
  case each =>
    refine ⟨?_, ?_, ?_, ?_, ?_, ?_, ?_, ?_, ?_, ?_, ?_, ?_, ?_, ?_, trivial⟩
    all_goals intro L w5 h0 hd hsh hw
    all_goals unfold Does
    all_goals have z5 : ¬ 9223372036854775807 < 4 + inf.size := by omega
    all_goals have c0 := (HA.out.z.keeps hw).cell 0 rfl
    all_goals have c1 := (HA.out.z.keeps hw).cell 1 rfl
    case _ => go_simp
    case _ => go_simp
    case _ => go_simp
    case _ => go_simp; refine (C1.out w5).mono ?_; rintro e w6 ⟨rfl, he⟩; exact ⟨_, rfl, rfl, fun _ _ => hw.trans he⟩
    case _ => go_simp
    case _ => go_simp
    case _ => go_simp
    case _ => go_simp
    case _ => go_simp; refine (C2.out w5).mono ?_; rintro e w6 ⟨rfl, he⟩; exact ⟨_, rfl, rfl, fun _ _ => hw.trans he⟩
    case _ => go_simp
    case _ => go_simp
    case _ => go_simp
    case _ => go_simp
    case _ => go_simp
  case hend =>
  intro L w6 hL hw
  have HK6 := Lib.hid (HA.out.k.trans hw)
  clear hw hL
  go_wp2
  go_ret
  exact ⟨by rw [HE.out]; rfl, HK6.out⟩
theorem pscarrier_any (tb ex ver : Int) (B : ByteArray) (w : World) :
    Calls Try.prog 78 #[.int .i64 tb, .int .i64 ex, .int .i64 ver, .string B] w fun e w' => e = .returned (secV ⟨tb, false, ex, ver, true, 0, 0, B⟩) ∧ Keeps w w' := by
  obtain ⟨b, hb⟩ : ∃ b, w.heap.size = b := ⟨_, rfl⟩
  obtain ⟨wA, hA⟩ : ∃ wA, w.alloc (.cells #[.int .i64 0, .bool false, .int .i64 0, .int .i64 0, .bool false, .int .i64 0, .int .i64 0, .string ⟨#[]⟩] 65) = wA := ⟨_, rfl⟩
  have A0 := Lib.hid (Ans.start (Keeps.refl w) hb hA)
  go_enter Try.func78, Try.ntmps78
  go_wp2_with (refine wpList_store_mid rfl 65 _ _ rfl b 0 (secC ⟨tb, false, ex, ver, true, 0, 0, B⟩).toArray rfl rfl A0.out.z.there (by kernel_rfl) (all_oneCell_toArray (secC_one _)) ?_)
  have E := A0.out.ends ⟨tb, false, ex, ver, true, 0, 0, B⟩
  exact cs_ret Try.results78 (lvS E.1) rfl rfl ⟨rfl, E.2⟩
/-- Which number no two of a table have the same. -/
theorem psnumber_any (p : Int × Int) (w : World) : Calls Try.prog 84 #[.agg #[.int .i64 p.1, .int .i64 p.2]] w fun e w' => e = .returned (.int .i64 p.1) ∧ Keeps w w' := by
  obtain ⟨p1, p2⟩ := p
  go_enter Try.func84, Try.ntmps84
  go_wp2
  go_ret
  exact ⟨rfl, (Keeps.refl w).alloc _⟩
theorem pspid_any (s : Strm) (w : World) : Calls Try.prog 95 #[.agg #[.int .i64 s.kind, .int .i64 s.pid, .string s.info]] w fun e w' => e = .returned (.int .i64 s.pid) ∧ Keeps w w' := by
  obtain ⟨p1, p2, p3⟩ := s
  go_enter Try.func95, Try.ntmps95
  go_wp2
  go_ret
  exact ⟨rfl, (Keeps.refl w).alloc _⟩
/-- May a program be, and a stream (its Info aside)? -/
theorem psnoprog_any (p : Int × Int) (w : World) : Calls Try.prog 82 #[.agg #[.int .i64 p.1, .int .i64 p.2]] w fun e w' => e = .returned (.bool (!decide (okPr p))) ∧ Keeps w w' := by
  obtain ⟨p1, p2⟩ := p
  obtain ⟨b0, h0⟩ : ∃ x, (decide (p1 < 0) || decide (65535 < p1)) = x := ⟨_, rfl⟩
  obtain ⟨b1, h1⟩ : ∃ x, (decide (p2 < 0) || decide (8191 < p2)) = x := ⟨_, rfl⟩
  have H0 := Lib.hid (psbeyond_any _ _ b0 h0)
  have H1 := Lib.hid (psbeyond_any _ _ b1 h1)
  have HE := Lib.hid (show (!decide (okPr (p1, p2))) = (b0 || b1) by
    rw [← h0, ← h1]
    by_cases h : okPr (p1, p2)
    · obtain ⟨⟨k0, k1⟩, k2, k3⟩ := h
      simp only at k0 k1 k2 k3
      rw [decide_eq_true ⟨⟨k0, k1⟩, k2, k3⟩, decide_eq_false (show ¬ p1 < 0 by omega), decide_eq_false (show ¬ 65535 < p1 by omega), decide_eq_false (show ¬ p2 < 0 by omega), decide_eq_false (show ¬ 8191 < p2 by omega)]; rfl
    · rw [decide_eq_false h]
      cases hx : ((decide (p1 < 0) || decide (65535 < p1)) || (decide (p2 < 0) || decide (8191 < p2)))
      · simp only [Bool.or_eq_false_iff, decide_eq_false_iff_not] at hx
        exact absurd ⟨⟨by show (0 : Int) ≤ p1; omega, by show p1 ≤ 65535; omega⟩, by show (0 : Int) ≤ p2; omega, by show p2 ≤ 8191; omega⟩ h
      · rfl)
  clear h0 h1
  rw [HE.out]
  cases b0
  all_goals go_enter Try.func82, Try.ntmps82
  all_goals go_wp2_with (go_at_call 80; (first | with_reducible refine (H0.out _).mono ?_ | with_reducible refine (H1.out _).mono ?_); rintro _ _ ⟨rfl, rfl⟩)
  all_goals go_ret
  all_goals exact ⟨rfl, (Keeps.refl w).alloc _⟩
/-- A stream may be, its Info aside. -/
def okS3 (s : Strm) : Prop := (0 ≤ s.kind ∧ s.kind ≤ 255) ∧ (0 ≤ s.pid ∧ s.pid ≤ 8191)
instance (s : Strm) : Decidable (okS3 s) := by unfold okS3; infer_instance
theorem psnostrm_any (s : Strm) (w : World) : Calls Try.prog 93 #[.agg #[.int .i64 s.kind, .int .i64 s.pid, .string s.info]] w fun e w' => e = .returned (.bool (!decide (okS3 s))) ∧ Keeps w w' := by
  obtain ⟨p1, p2, p3⟩ := s
  obtain ⟨b0, h0⟩ : ∃ x, (decide (p1 < 0) || decide (255 < p1)) = x := ⟨_, rfl⟩
  obtain ⟨b1, h1⟩ : ∃ x, (decide (p2 < 0) || decide (8191 < p2)) = x := ⟨_, rfl⟩
  have H0 := Lib.hid (psbeyond_any _ _ b0 h0)
  have H1 := Lib.hid (psbeyond_any _ _ b1 h1)
  have HE := Lib.hid (show (!decide (okS3 ⟨p1, p2, p3⟩)) = (b0 || b1) by
    rw [← h0, ← h1]
    by_cases h : okS3 ⟨p1, p2, p3⟩
    · obtain ⟨⟨k0, k1⟩, k2, k3⟩ := h
      simp only at k0 k1 k2 k3
      rw [decide_eq_true ⟨⟨k0, k1⟩, k2, k3⟩, decide_eq_false (show ¬ p1 < 0 by omega), decide_eq_false (show ¬ 255 < p1 by omega), decide_eq_false (show ¬ p2 < 0 by omega), decide_eq_false (show ¬ 8191 < p2 by omega)]; rfl
    · rw [decide_eq_false h]
      cases hx : ((decide (p1 < 0) || decide (255 < p1)) || (decide (p2 < 0) || decide (8191 < p2)))
      · simp only [Bool.or_eq_false_iff, decide_eq_false_iff_not] at hx
        exact absurd ⟨⟨by show (0 : Int) ≤ p1; omega, by show p1 ≤ 255; omega⟩, by show (0 : Int) ≤ p2; omega, by show p2 ≤ 8191; omega⟩ h
      · rfl)
  clear h0 h1
  rw [HE.out]
  cases b0
  all_goals go_enter Try.func93, Try.ntmps93
  all_goals go_wp2_with (go_at_call 80; (first | with_reducible refine (H0.out _).mono ?_ | with_reducible refine (H1.out _).mono ?_); rintro _ _ ⟨rfl, rfl⟩)
  all_goals go_ret
  all_goals exact ⟨rfl, (Keeps.refl w).alloc _⟩
end Go.Proofs.Ytebfihghfkcicaa
