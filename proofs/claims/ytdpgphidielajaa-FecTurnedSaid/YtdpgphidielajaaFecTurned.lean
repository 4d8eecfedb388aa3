/-
  For any part, any place and any turn FecTurned returns true: no bytes of which one is another one, or of which the end is missing, are a section; nothing that was there is changed. No condition.
-/
import Derived.Test.YtdpgphidielajaaRows
import Derived.Test.YtdpgphidielajaaFeC
namespace Go.Proofs.Ytdpgphidielajaa.fecTurned
open Go.ChangeShapes Go.WideShapes Go.ChangeAt Go.RowKit Gf Tm Sct Mpe Fec
set_option maxRecDepth 100000
open Go.ChangeMaps (open_string shut_string)
set_option linter.unusedVariables false
def vsR (S A B1 R X : ByteArray) (a : Int) (x u y : Int) (q : ByteArray) (r : Int) (γ : Nat) : List Value :=
  [.string S, .int .i64 a, .string A, .string S, .int .i64 a, .int .u8 x, .int .u8 u, .int .u8 y, .slice (some ⟨γ, 0, none⟩) 1 1, .string q, .string B1, .string S, .int .i64 a, .int .i64 (a + 1), .string R, .string X, .tuple #[feV zf, .int .i64 r], .tuple #[feV zf, .int .i64 r], feV zf, .int .i64 r, undef, .int .i64 r]
theorem vsR_a {S A B1 R X q : ByteArray} {a x u y r : Int} {γ : Nat} {g : Nat} {L : Nat → Bool} (h : L 8 = false) : ∀ j, L j = true → (vsR S A B1 R X a x u y q r g).getD j undef = (vsR S A B1 R X a x u y q r γ).getD j undef
  | 0, _ => rfl
  | 1, _ => rfl
  | 2, _ => rfl
  | 3, _ => rfl
  | 4, _ => rfl
  | 5, _ => rfl
  | 6, _ => rfl
  | 7, _ => rfl
  | 8, k => by rw [h] at k; cases k
  | n + 9, _ => rfl
structure TR (w1 : World) (c : Nat) (zl : List UInt8) (γ : Nat) (L : Nat → Bool) (W : World) : Prop where
  kp : Keeps w1 W
  one : L 8 = true → L 16 = false → Blk γ zl W
  two : CsAt c (feC zf) W
theorem TR.on {w1 : World} {c : Nat} {zl : List UInt8} {γ : Nat} {L L' : Nat → Bool} {W W' : World} (h : TR w1 c zl γ L W) {i : Nat} (h8 : 8 ≠ i) (k : ∀ j, L' j = true ↔ (L j = true ∨ j = i)) (hk : Keeps W W') : TR w1 c zl γ L' W' :=
  ⟨h.kp.trans hk, fun x y => (h.one (same_at k h8 ▸ x) (by cases e : L 16 with | false => rfl | true => exact absurd ((k 16).2 (.inl e)) (by rw [y]; decide))).below hk, h.two.keeps hk⟩
theorem TR.same {w1 : World} {c : Nat} {zl : List UInt8} {γ : Nat} {L L' : Nat → Bool} {W : World} (h : TR w1 c zl γ L W) {i : Nat} (h8 : 8 ≠ i) (k : ∀ j, L' j = true ↔ (L j = true ∨ j = i)) : TR w1 c zl γ L' W := h.on h8 k (Keeps.refl W)
theorem xor8 (a b : UInt8) : bits BinOp.xor IntKind.u8 (a.toNat : Int) (b.toNat : Int) = ((a ^^^ b).toNat : Int) := by
  rw [u8_xor_nat _ _ a.toNat_lt b.toNat_lt, UInt8.toNat_xor]
theorem set_split {l : List UInt8} {k : Nat} (h : k < l.length) (z : UInt8) : l.take k ++ [z] ++ l.drop (k + 1) = l.set k z := by
  rw [List.set_eq_take_append_cons_drop, if_pos h]; simp
set_option maxHeartbeats 12800000 in
theorem off (p : Fpt) (at' : Int) (y : UInt8) (w : World) (h : 5000 < p.txt.size ∨ (p.txt.size ≤ 5000 ∧ (ckF p ≠ 0 ∨ (ckF p = 0 ∧ (at' < 0 ∨ (0 ≤ at' ∧ (p.txt.size : Int) + 16 ≤ at')))))):
    Calls Try.prog 6 #[feV p, .int .i64 at', .int .u8 (y.toNat : Int)] w fun e w' => e = .returned (.bool true) ∧ Below w.heap.size w w' := by
  obtain ⟨b, hb⟩ : ∃ b, w.heap.size = b := ⟨_, rfl⟩
  obtain ⟨wA, hA⟩ : ∃ wX, w.alloc (.cells #[.int .i64 p.pad, .int .i64 p.num, .int .i64 p.la, .int .i64 p.tm.dt, .bool p.tm.tb, .bool p.tm.fr, .int .i64 p.tm.ad, .string p.txt] 25) = wX := ⟨_, rfl⟩
  have HA0 := Lib.hid (show CsAt b (feC p) wA by rw [← hb, ← hA]; exact CsAt.made w #[.int .i64 p.pad, .int .i64 p.num, .int .i64 p.la, .int .i64 p.tm.dt, .bool p.tm.tb, .bool p.tm.fr, .int .i64 p.tm.ad, .string p.txt] _ (by simp))
  have HK0 := Lib.hid (show Keeps w wA by rw [← hA]; exact (Keeps.refl w).alloc _)
  have q7 := HA0.out.cell 7 rfl
  have HEC := Lib.hid (fun W h => feencode_any W p W h (Keeps.refl W))
  unfold FecPost at HEC
  rcases h with h | ⟨h, h2⟩
  · obtain ⟨pad, num, la, ⟨dt, tb, fr, ad⟩, txt⟩ := p
    simp only at h hA q7
    have hi : (5000 : Int) < (txt.size : Int) := by omega
    go_enter Try.func6, Try.ntmps6
    go_wp2_with (first | (go_at_call 8; refine (awake11_any w _ HK0.out).mono ?_; rintro _ w99 ⟨rfl, k99⟩))
    go_ret
    exact ⟨rfl, k99⟩
  · replace HEC := Lib.hid (fun W => HEC.out W (by omega))
    rcases h2 with h2 | ⟨h2, h3⟩
    · rw [ecF_no h2] at HEC
      obtain ⟨n, hn⟩ : ∃ n, ckF p = n := ⟨_, rfl⟩
      have hnb : (n != 0) = true := by rw [← hn]; simpa using h2
      simp only [hn] at HEC
      clear h2 hn
      obtain ⟨pad, num, la, ⟨dt, tb, fr, ad⟩, txt⟩ := p
      simp only at h hA q7 HEC
      have hi : ¬ (5000 : Int) < (txt.size : Int) := by omega
      go_enter Try.func6, Try.ntmps6
      go_wp2_with (first | (refine wp_ldF (b := b) (off := 0) HA0.out.r rfl _ rfl rfl ?_) | (go_at_call 11; (with_reducible refine (HEC.out _).mono ?_); rintro _ w1 ⟨rfl, k1⟩; have HA1 := Lib.hid (HA0.out.keeps k1); have HK1 := Lib.hid (HK0.out.trans k1); clear k1) | (go_at_call 8; refine (awake11_any w _ HK1.out).mono ?_; rintro _ w99 ⟨rfl, k99⟩))
      go_ret
      exact ⟨rfl, k99⟩
    · rw [ecF_ok h2] at HEC
      obtain ⟨S, hS⟩ : ∃ S, st (fby p) = S := ⟨_, rfl⟩
      have hz : (S.size : Int) = (p.txt.size : Int) + 16 := by rw [← hS, st_size, fby_length]; omega
      simp only [hS] at HEC
      clear h2 hS
      rcases h3 with h3 | ⟨h3, h4⟩
      · obtain ⟨pad, num, la, ⟨dt, tb, fr, ad⟩, txt⟩ := p
        simp only at h hA q7 hz HEC
        have hi : ¬ (5000 : Int) < (txt.size : Int) := by omega
        clear hz
        go_enter Try.func6, Try.ntmps6
        go_wp2_with (first | (refine wp_ldF (b := b) (off := 0) HA0.out.r rfl _ rfl rfl ?_) | (go_at_call 11; (with_reducible refine (HEC.out _).mono ?_); rintro _ w1 ⟨rfl, k1⟩; have HA1 := Lib.hid (HA0.out.keeps k1); have HK1 := Lib.hid (HK0.out.trans k1); clear k1) | (go_at_call 8; refine (awake11_any w _ HK1.out).mono ?_; rintro _ w99 ⟨rfl, k99⟩))
        go_ret
        exact ⟨rfl, k99⟩
      · obtain ⟨pad, num, la, ⟨dt, tb, fr, ad⟩, txt⟩ := p
        simp only at h hA q7 hz h4 HEC
        have hi : ¬ (5000 : Int) < (txt.size : Int) := by omega
        have h5 : ¬ at' < 0 := by omega
        have h6 : (S.size : Int) ≤ at' := by omega
        clear hz h4 h3
        go_enter Try.func6, Try.ntmps6
        go_wp2_with (first | (refine wp_ldF (b := b) (off := 0) HA0.out.r rfl _ rfl rfl ?_) | (go_at_call 11; (with_reducible refine (HEC.out _).mono ?_); rintro _ w1 ⟨rfl, k1⟩; have HA1 := Lib.hid (HA0.out.keeps k1); have HK1 := Lib.hid (HK0.out.trans k1); clear k1) | (go_at_call 8; refine (awake11_any w _ HK1.out).mono ?_; rintro _ w99 ⟨rfl, k99⟩))
        go_ret
        exact ⟨rfl, k99⟩
set_option maxHeartbeats 12800000 in
theorem core0 (p : Fpt) (a : Nat) (w : World) (h : p.txt.size ≤ 5000) (hc : ckF p = 0) (ha : a < p.txt.size + 16):
    Calls Try.prog 6 #[feV p, .int .i64 (a : Int), .int .u8 0] w fun e w' => e = .returned (.bool true) ∧ Below w.heap.size w w' := by
  obtain ⟨b, hb⟩ : ∃ b, w.heap.size = b := ⟨_, rfl⟩
  obtain ⟨wA, hA⟩ : ∃ wX, w.alloc (.cells #[.int .i64 p.pad, .int .i64 p.num, .int .i64 p.la, .int .i64 p.tm.dt, .bool p.tm.tb, .bool p.tm.fr, .int .i64 p.tm.ad, .string p.txt] 25) = wX := ⟨_, rfl⟩
  have HA0 := Lib.hid (show CsAt b (feC p) wA by rw [← hb, ← hA]; exact CsAt.made w #[.int .i64 p.pad, .int .i64 p.num, .int .i64 p.la, .int .i64 p.tm.dt, .bool p.tm.tb, .bool p.tm.fr, .int .i64 p.tm.ad, .string p.txt] _ (by simp))
  have HK0 := Lib.hid (show Keeps w wA by rw [← hA]; exact (Keeps.refl w).alloc _)
  have q7 := HA0.out.cell 7 rfl
  have HEC := Lib.hid (fun W => feencode_any W p W (by omega) (Keeps.refl W))
  unfold FecPost at HEC
  rw [ecF_ok hc] at HEC
  obtain ⟨s, hs⟩ : ∃ S, st (fby p) = S := ⟨_, rfl⟩
  have hls : ls s = fby p := by rw [← hs, ls_st]
  have hz0 : s.size = p.txt.size + 16 := by rw [← hs, st_size, fby_length]
  simp only [hs] at HEC
  have ha' : a < s.size := by omega
  obtain ⟨A, hA'⟩ : ∃ A, s.extract 0 a = A := ⟨_, rfl⟩
  have hzA : A.size = a := by rw [← hA', ByteArray.size_extract]; omega
  have hd0 : (dcF (ls A)).2 ≠ 0 := by rw [← hA', ls_part, hls, List.drop_zero, Nat.sub_zero]; exact dcF_cut hc (by rw [fby_length]; exact ha)
  obtain ⟨r0, hr0⟩ : ∃ r, (dcF (ls A)).2 = r := ⟨_, rfl⟩
  have hdz0 := dcF_err hd0
  have HD0 := Lib.hid (fun W => fedecode_any W A W (by omega) (Keeps.refl W))
  unfold FdcPost at HD0
  simp only [hdz0, hr0] at HD0
  rw [hr0] at hd0
  have hrb0 : (r0 == 0) = false := by simpa using hd0
  have hzi : (a : Int) < (s.size : Int) := by omega
  have hzj : (a : Int) ≤ (s.size : Int) := by omega
  have heg := egF
  unfold zf zt at HD0
  clear hd0 hr0 hdz0
  clear hls hs hc ha
  obtain ⟨pad, num, la, ⟨dt, tb, fr, ad⟩, txt⟩ := p
  simp only at h hA q7 HEC
  have hi : ¬ (5000 : Int) < (txt.size : Int) := by omega
  have ha0 : ¬ (a : Int) < 0 := by omega
  have hge : ¬ (s.size : Int) ≤ (a : Int) := by omega
  clear hz0
  go_enter Try.func6, Try.ntmps6
  go_wp2_with (first | (refine wp_ldF (b := b) (off := 0) HA0.out.r rfl _ rfl rfl ?_) | (go_at_call 11; (with_reducible refine (HEC.out _).mono ?_); rintro _ w1 ⟨rfl, k1⟩; have HA1 := Lib.hid (HA0.out.keeps k1); have HK1 := Lib.hid (HK0.out.trans k1); clear k1) | (go_at_call 16; (with_reducible refine (HD0.out _).mono ?_); rintro _ w2 ⟨rfl, k2⟩; have HA2 := Lib.hid ((HA1.out.keeps k2).keeps ((Keeps.refl w2).alloc (.cells #[.int .i64 0, .int .i64 0, .int .i64 0, .int .i64 0, .bool false, .bool false, .int .i64 0, .string ⟨#[]⟩] 25))); have HK2 := Lib.hid ((HK1.out.trans k2).alloc (.cells #[.int .i64 0, .int .i64 0, .int .i64 0, .int .i64 0, .bool false, .bool false, .int .i64 0, .string ⟨#[]⟩] 25)); clear k2) | (go_at_call 8; refine (awake11_any w _ HK2.out).mono ?_; rintro _ w99 ⟨rfl, k99⟩))
  go_ret
  exact ⟨rfl, k99⟩
set_option maxHeartbeats 12800000 in
theorem core (p : Fpt) (a : Nat) (y : UInt8) (w : World) (h : p.txt.size ≤ 5000) (hc : ckF p = 0) (hy : y ≠ 0) (ha : a < p.txt.size + 16):
    Calls Try.prog 6 #[feV p, .int .i64 (a : Int), .int .u8 (y.toNat : Int)] w fun e w' => e = .returned (.bool true) ∧ Below w.heap.size w w' := by
  obtain ⟨b, hb⟩ : ∃ b, w.heap.size = b := ⟨_, rfl⟩
  obtain ⟨wA, hA⟩ : ∃ wX, w.alloc (.cells #[.int .i64 p.pad, .int .i64 p.num, .int .i64 p.la, .int .i64 p.tm.dt, .bool p.tm.tb, .bool p.tm.fr, .int .i64 p.tm.ad, .string p.txt] 25) = wX := ⟨_, rfl⟩
  have HA0 := Lib.hid (show CsAt b (feC p) wA by rw [← hb, ← hA]; exact CsAt.made w #[.int .i64 p.pad, .int .i64 p.num, .int .i64 p.la, .int .i64 p.tm.dt, .bool p.tm.tb, .bool p.tm.fr, .int .i64 p.tm.ad, .string p.txt] _ (by simp))
  have HK0 := Lib.hid (show Keeps w wA by rw [← hA]; exact (Keeps.refl w).alloc _)
  have q7 := HA0.out.cell 7 rfl
  have HEC := Lib.hid (fun W => feencode_any W p W (by omega) (Keeps.refl W))
  unfold FecPost at HEC
  rw [ecF_ok hc] at HEC
  obtain ⟨s, hs⟩ : ∃ S, st (fby p) = S := ⟨_, rfl⟩
  have hls : ls s = fby p := by rw [← hs, ls_st]
  have hz0 : s.size = p.txt.size + 16 := by rw [← hs, st_size, fby_length]
  simp only [hs] at HEC
  have ha' : a < s.size := by omega
  obtain ⟨A, hA'⟩ : ∃ A, s.extract 0 a = A := ⟨_, rfl⟩
  have hzA : A.size = a := by rw [← hA', ByteArray.size_extract]; omega
  have hd0 : (dcF (ls A)).2 ≠ 0 := by rw [← hA', ls_part, hls, List.drop_zero, Nat.sub_zero]; exact dcF_cut hc (by rw [fby_length]; exact ha)
  obtain ⟨r0, hr0⟩ : ∃ r, (dcF (ls A)).2 = r := ⟨_, rfl⟩
  have hdz0 := dcF_err hd0
  have HD0 := Lib.hid (fun W => fedecode_any W A W (by omega) (Keeps.refl W))
  unfold FdcPost at HD0
  simp only [hdz0, hr0] at HD0
  rw [hr0] at hd0
  have hrb0 : (r0 == 0) = false := by simpa using hd0
  have hzi : (a : Int) < (s.size : Int) := by omega
  have hzj : (a : Int) ≤ (s.size : Int) := by omega
  have heg := egF
  unfold zf zt at HD0
  clear hd0 hr0 hdz0
  have g := ls_get s a ha'
  have hal : a < (ls s).length := by rw [← ls_size]; exact ha'
  obtain ⟨x, hx⟩ : ∃ x, cf (ls s) a = x := ⟨_, rfl⟩
  rw [hx] at g
  obtain ⟨z, hz⟩ : ∃ z, x ^^^ y = z := ⟨_, rfl⟩
  have hne : z ≠ x := by
    intro e; rw [← hz] at e
    have := congrArg (x ^^^ ·) e
    simp only [← UInt8.xor_assoc, UInt8.xor_self, UInt8.zero_xor] at this
    exact hy this
  have hzx := xor8 x y
  rw [hz] at hzx
  have hyz : ((y.toNat : Int) == 0) = false := by
    rw [beq_eq_false_iff_ne]; intro e; exact hy (UInt8.toNat_inj.1 (by rw [show (0 : UInt8).toNat = 0 from rfl]; omega))
  obtain ⟨R, hR⟩ : ∃ R, s.extract (a + 1) s.size = R := ⟨_, rfl⟩
  have hzR : R.size ≤ 6000 := by rw [← hR, ByteArray.size_extract]; omega
  obtain ⟨q, hq⟩ : ∃ q, st [z] = q := ⟨_, rfl⟩
  have hzq : q.size = 1 := by rw [← hq]; rfl
  obtain ⟨B1, hB1⟩ : ∃ B, A ++ q = B := ⟨_, rfl⟩
  have hzB : B1.size = a + 1 := by rw [← hB1, ByteArray.size_append, hzA, hzq]
  obtain ⟨T, hT⟩ : ∃ T, B1 ++ R = T := ⟨_, rfl⟩
  have hlT : ls T = (ls s).set a z := by
    rw [← hT, ← hB1, ls_append, ls_append, ← hA', ← hR, ← hq, ls_st, ls_part, ls_part, ← set_split hal z]
    rw [Nat.sub_zero, List.drop_zero, show ((ls s).drop (a + 1)).take (s.size - (a + 1)) = (ls s).drop (a + 1) from List.take_of_length_le (by rw [List.length_drop, ls_size]; exact Nat.le_refl _)]
  have hzT : T.size ≤ 6000 := by rw [ls_size, hlT, List.length_set, ← ls_size]; omega
  have hdn : (dcF (ls T)).2 ≠ 0 := by
    refine dcF_turn (p := p) (by rw [hlT, List.length_set, hls]) a (fun i hi hn => ?_) (fun e => ?_)
    · by_cases k : i = a
      · exact k
      · rw [hlT, cf_set _ _ _ hal, if_neg k, hls] at hn
        exact absurd rfl hn
    · have h1 : cf (ls T) a = z := by rw [hlT, cf_set _ _ _ hal, if_pos rfl]
      rw [e, ← hls, hx] at h1
      exact hne h1.symm
  obtain ⟨r, hr⟩ : ∃ r, (dcF (ls T)).2 = r := ⟨_, rfl⟩
  have hdz := dcF_err hdn
  have HD := Lib.hid (fun W => fedecode_any W T W (by omega) (Keeps.refl W))
  unfold FdcPost at HD
  simp only [hdz, hr] at HD
  rw [hr] at hdn
  have hrb : (r != 0) = true := by simpa using hdn
  have HQ := Lib.hid hq
  have HCL := Lib.hid (show (#[.int .u8 (z.toNat : Int)] : Array Value) = ([z].map B).toArray from rfl)
  have ha1 : (a : Int) + 1 ≤ (s.size : Int) := by omega
  have hR2 : s.extract (a + 1) s.size = R := hR
  have hsz6 : s.size ≤ 6000 := by omega
  clear hq hne hx hz hy hal hR hls hs hlT hdn hr hdz hc ha
  obtain ⟨pad, num, la, ⟨dt, tb, fr, ad⟩, txt⟩ := p
  simp only at h hA q7 HEC
  have hi : ¬ (5000 : Int) < (txt.size : Int) := by omega
  have ha0 : ¬ (a : Int) < 0 := by omega
  have hge : ¬ (s.size : Int) ≤ (a : Int) := by omega
  clear hz0
  go_enter Try.func6, Try.ntmps6
  go_wp2_with (first | (refine wp_ldF (b := b) (off := 0) HA0.out.r rfl _ rfl rfl ?_) | (go_at_call 11; (with_reducible refine (HEC.out _).mono ?_); rintro _ w1 ⟨rfl, k1⟩; have HA1 := Lib.hid (HA0.out.keeps k1); have HK1 := Lib.hid (HK0.out.trans k1); clear k1) | (go_at_call 16; (with_reducible refine (HD0.out _).mono ?_); rintro _ w2 ⟨rfl, k2⟩; have HA2 := Lib.hid ((HA1.out.keeps k2).keeps ((Keeps.refl w2).alloc (.cells #[.int .i64 0, .int .i64 0, .int .i64 0, .int .i64 0, .bool false, .bool false, .int .i64 0, .string ⟨#[]⟩] 25))); have HKB := Lib.hid (HK1.out.trans k2); have HK2 := Lib.hid ((HK1.out.trans k2).alloc (.cells #[.int .i64 0, .int .i64 0, .int .i64 0, .int .i64 0, .bool false, .bool false, .int .i64 0, .string ⟨#[]⟩] 25)); clear k2))
  have wr := wrapI (a := (a : Int) + 1) (by omega) (by omega)
  have C2 := Lib.hid (show CsAt w2.heap.size (feC zf) (w2.alloc (.cells #[.int .i64 0, .int .i64 0, .int .i64 0, .int .i64 0, .bool false, .bool false, .int .i64 0, .string ⟨#[]⟩] 25)) from CsAt.made w2 #[.int .i64 0, .int .i64 0, .int .i64 0, .int .i64 0, .bool false, .bool false, .int .i64 0, .string ⟨#[]⟩] _ (by simp))
  obtain ⟨c, hcc⟩ : ∃ c, w2.heap.size = c := ⟨_, rfl⟩
  rw [hcc] at C2 ⊢
  have hcm : w2.heap.size ≤ c := by omega
  have HKW := Lib.hid ((Keeps.refl w2).alloc (.cells #[.int .i64 0, .int .i64 0, .int .i64 0, .int .i64 0, .bool false, .bool false, .int .i64 0, .string ⟨#[]⟩] 25))
  have HKT := Lib.hid (show Keeps w w2 from HKB.out)
  obtain ⟨w3, hw3⟩ : ∃ w3, w2.alloc (.cells #[.int .i64 0, .int .i64 0, .int .i64 0, .int .i64 0, .bool false, .bool false, .int .i64 0, .string ⟨#[]⟩] 25) = w3 := ⟨_, rfl⟩
  rw [hw3] at C2 HKW ⊢
  have HCM := Lib.hid hcm
  clear hw3 hcm hcc
  refine wp_draw_h (Γ := Nat) (by kernel_rfl) (vsR s A B1 R T (a : Int) (x.toNat : Int) (y.toNat : Int) (z.toNat : Int) q r) (fun γ => TR w2 c [z] γ) rfl (by kernel_rfl) ?fin ?hfin 0 ⟨HKW.out.eqv (Eqv.drew w3), (fun x => by cases x), C2.out.eqv (Eqv.drew w3)⟩ ?each ?hend
  case hfin => intro γ; simp [vsR, seqA, dstOf, Act.put]; rfl
  case each =>
    refine ⟨?_, ?_, ?_, ?_, ?_, ?_, ?_, ?_, ?_, ?_, ?_, ?_, ?_, ?_, ?_, ?_, ?_, ?_, ?_, ?_, ?_, ?_, trivial⟩
    all_goals intro γ L w5 h0 hd hs hw
    all_goals unfold Does
    all_goals try simp only [Nat.zero_add, Nat.reduceAdd] at h0
    rotate_left 9
    · have h9 : L 16 = false := by
        cases e : L 16 with
        | false => rfl
        | true =>
          have h15 := hs 16 15 e (by kernel_rfl)
          have h10 := hs 15 10 h15 (by kernel_rfl)
          have h9 := hs 10 9 h10 (by kernel_rfl)
          rw [h0] at h9; cases h9
      have hcv := (hw.one (hd 8 (by kernel_rfl)) h9).whole 1 (n := 1) rfl
      rw [HQ.out] at hcv
      go_simp
      exact Goes.on (fun _ => rfl) fun L' k => hw.same (by decide) k
    rotate_left 10
    · have h18 := hd 18 (by kernel_rfl)
      have h17 := hs 18 17 h18 (by kernel_rfl)
      have h16 := hs 17 16 h17 (by kernel_rfl)
      have h2 := hw.two
      have p0 := h2.cell 0 rfl
      have z0 := h2.fz 0 (by decide)
      have p1 := h2.cell 1 rfl
      have z1 := h2.fz 1 (by decide)
      have p2 := h2.cell 2 rfl
      have z2 := h2.fz 2 (by decide)
      have p3 := h2.cell 3 rfl
      have z3 := h2.fz 3 (by decide)
      have p4 := h2.cell 4 rfl
      have z4 := h2.fz 4 (by decide)
      have p5 := h2.cell 5 rfl
      have z5 := h2.fz 5 (by decide)
      have p6 := h2.cell 6 rfl
      have z6 := h2.fz 6 (by decide)
      have p7 := h2.cell 7 rfl
      have z7 := h2.fz 7 (by decide)
      go_simp
      have hon := Only.setCell w5 ⟨c, 0, none⟩ (.int .i64 zf.pad) |>.trans (Only.setCell _ ⟨c, 1, none⟩ (.int .i64 zf.num)) |>.trans (Only.setCell _ ⟨c, 2, none⟩ (.int .i64 zf.la)) |>.trans (Only.setCell _ ⟨c, 3, none⟩ (.int .i64 zf.tm.dt)) |>.trans (Only.setCell _ ⟨c, 4, none⟩ (.bool zf.tm.tb)) |>.trans (Only.setCell _ ⟨c, 5, none⟩ (.bool zf.tm.fr)) |>.trans (Only.setCell _ ⟨c, 6, none⟩ (.int .i64 zf.tm.ad)) |>.trans (Only.setCell _ ⟨c, 7, none⟩ (.string zf.txt))
      have hcs := (((((((h2.set 0 (by decide) (.int .i64 zf.pad)).set 1 (by decide) (.int .i64 zf.num)).set 2 (by decide) (.int .i64 zf.la)).set 3 (by decide) (.int .i64 zf.tm.dt)).set 4 (by decide) (.bool zf.tm.tb)).set 5 (by decide) (.bool zf.tm.fr)).set 6 (by decide) (.int .i64 zf.tm.ad)).set 7 (by decide) (.string zf.txt)
      exact Goes.on (fun x => absurd rfl x) fun L' k => ⟨hon.keeps hw.kp HCM.out, fun x y => (by rw [(k 16).2 (.inl h16)] at y; cases y), hcs⟩
    rotate_left 1
    all_goals have f1 : ¬ 9223372036854775807 < a + 1 := by omega
    all_goals have f2 : ¬ 9223372036854775807 < a + 1 + R.size := by omega
    all_goals have f3 : a ≤ s.size := by omega
    all_goals go_simp
    all_goals try exact Goes.on (fun _ => rfl) fun L' k => hw.same (by decide) k
    · refine ⟨w5.heap.size, vsR_a h0, fun _ => rfl, fun L' k => ?_⟩
      have ka : Keeps w5 (w5.alloc (.cells #[.int .u8 (z.toNat : Int)] 5)) := (Keeps.refl w5).alloc _
      exact ⟨hw.kp.trans ka, fun _ _ => by rw [HCL.out]; exact Blk.lit w5 [z] _, hw.two.keeps ka⟩
    · refine (HD.out w5).mono ?_
      rintro e w6 ⟨rfl, hk⟩
      exact ⟨_, rfl, Goes.on (fun _ => rfl) fun L' k => hw.on (by decide) k hk⟩
  case hend =>
    intro γ L w6 hL hw
    have HK6 := Lib.hid (HKT.out.trans hw.kp)
    have HP6 := Lib.hid hw.two
    clear hw hL
    have p6_0 : (w6).cell? ⟨c, 0, none⟩ = some (.int .i64 0) := HP6.out.cell 0 rfl
    have p6_1 : (w6).cell? ⟨c, 1, none⟩ = some (.int .i64 0) := HP6.out.cell 1 rfl
    have p6_2 : (w6).cell? ⟨c, 2, none⟩ = some (.int .i64 0) := HP6.out.cell 2 rfl
    have p6_3 : (w6).cell? ⟨c, 3, none⟩ = some (.int .i64 0) := HP6.out.cell 3 rfl
    have p6_4 : (w6).cell? ⟨c, 4, none⟩ = some (.bool false) := HP6.out.cell 4 rfl
    have p6_5 : (w6).cell? ⟨c, 5, none⟩ = some (.bool false) := HP6.out.cell 5 rfl
    have p6_6 : (w6).cell? ⟨c, 6, none⟩ = some (.int .i64 0) := HP6.out.cell 6 rfl
    have p6_7 : (w6).cell? ⟨c, 7, none⟩ = some (.string ⟨#[]⟩) := HP6.out.cell 7 rfl
    have ha0 : ¬ (a : Int) < 0 := by omega
    go_wp2_with (first | (go_at_call 8; refine (awake11_any w _ HK6.out).mono ?_; rintro _ w99 ⟨rfl, k99⟩))
    go_ret
    exact ⟨rfl, k99⟩
theorem walk (p : Fpt) (at' : Int) (ha : (Lit.int .i64 at').wf = true) (y0 : Int) (hy : (Lit.int .u8 y0).wf = true) (w : World) :
    Calls Try.prog 6 #[feV p, .int .i64 at', .int .u8 y0] w fun e w' => e = .returned (.bool true) ∧ Below w.heap.size w w' := by
  obtain ⟨y, rfl⟩ := u8_of (bounds_u8 hy)
  by_cases h : p.txt.size ≤ 5000
  · by_cases h2 : ckF p = 0
    · by_cases h3 : at' < 0
      · exact off p at' y w (.inr ⟨h, .inr ⟨h2, .inl h3⟩⟩)
      · by_cases h4 : (p.txt.size : Int) + 16 ≤ at'
        · exact off p at' y w (.inr ⟨h, .inr ⟨h2, .inr ⟨by omega, h4⟩⟩⟩)
        · obtain ⟨a, rfl⟩ : ∃ a : Nat, at' = (a : Int) := ⟨at'.toNat, by omega⟩
          by_cases h1 : y = 0
          · subst h1; exact core0 p a w h h2 (by omega)
          · exact core p a y w h h2 h1 (by omega)
    · exact off p at' y w (.inr ⟨h, .inl h2⟩)
  · exact off p at' y w (.inl (by omega))


theorem own : ownKnob Try.prog.godebug = none := by kernel_rfl
theorem laidOut : laidOutB Try.prog = true := by kernel_rfl
set_option maxRecDepth 100000 in
theorem lifted (os : Os) (started : os.Started) (H : Type) (enc : TypeId × Value → H) :
    ReturnsInHanded {} Try.checked os 6 .any (Rows.fecTurnedSpec.pre6 enc Try.prog Try.f6 Rows.fecTurnedRow.domain false) (Rows.fecTurnedSpec.post enc Try.prog Try.f6 false true false false) := by
  refine returnsInHanded_of_change (C := Try.checked) own started (by kernel_rfl) Try.func6
    (ChangeSpec.witness6 (enc := enc) (C := Try.checked) false ⟨#[], #[.agg #[.int .i64 0, .int .i64 0, .int .i64 0, .int .i64 0, .bool false, .bool false, .int .i64 0, .string ByteArray.empty], .int .i64 0, .int .u8 0], []⟩ 8 (by kernel_rfl) (by kernel_rfl) (by kernel_rfl) (by kernel_rfl)) ?_
  intro W base args ds gs before hval0 hW hcnd _
  have hval : ∀ (j : Nat) t v, Try.f6.params[j]? = some t → args[j]? = some v → Value.okWide Try.prog W .any base t v := hval0
  have hW' := hW
  obtain ⟨p, q, hA0, hV, rfl, hfz, hnd⟩ := hW
  have hA : DataW.TrodAll enc Try.prog W 0 (fun _ => true) true Try.f6.params.toList args.toList ds p := hA0
  rw [Try.params6] at hA hval
  obtain ⟨v0, vs0, d0, ds0, p0, q0, hargs, rfl, rfl, h0, r0⟩ := trodAll_cons hA
  obtain ⟨v1, vs1, d1, ds1, p1, q1, rfl, rfl, rfl, h1, r1⟩ := trodAll_cons r0
  obtain ⟨v2, vs2, d2, ds2, p2, q2, rfl, rfl, rfl, h2, r2⟩ := trodAll_cons r1
  obtain ⟨rfl, rfl, rfl⟩ := trodAll_nil r2
  obtain rfl : args = #[v0, v1, v2] := by cases args; simp_all
  obtain ⟨rfl, rfl⟩ := trodVars_none hV
  have k0 := h0
  have lt0 : ∀ x ∈ p0, x.block < W.heap.size := by obtain ⟨m, hm⟩ := k0; exact DataW.trod_lt m _ _ _ hm
  obtain ⟨P0, rfl⟩ := open_fpt (hval 0 25 v0 rfl rfl) h0
  obtain ⟨a1, rfl, rfl, rfl, w1⟩ := open_int Try.underlying3 (hval 1 3 v1 rfl rfl) h1
  obtain ⟨a2, rfl, rfl, rfl, w2⟩ := open_int Try.underlying5 (hval 2 5 v2 rfl rfl) h2
  clear hA0 hval0
  refine (walk P0 a1 w1 a2 w2 W).mono fun e W' ⟨he, bel⟩ => ?_
  subst he
  exact ⟨_, rfl, _, _, _, [], _, [], hW', trodAll_mk1 (shut_bool Try.underlying4 _), (trodAll_cons_mk (Below.trod laidOut (by kernel_rfl) (of_decide_eq_true (by kernel_rfl)) k0 bel lt0) (trodAll_cons_mk (shut_int Try.underlying3 w1) (trodAll_cons_mk (shut_int Try.underlying5 w2) trodAll_mk0))), rfl, bel.frame _, fun h => by cases h⟩

theorem over : Rows.fecTurnedRow.holds Try.pinned (OpenSpec.ofChange Rows.fecTurnedSpec) :=
  OpenClaim.holds_of_wide 6 Try.f6 rfl rfl rfl rfl rfl rfl rfl ⟨rfl, rfl, rfl, rfl, rfl⟩ rfl rfl rfl rfl rfl (by kernel_rfl) Try.func6 (by kernel_rfl)
    (of_decide_eq_true (by kernel_rfl)) (by unfold Func.isWrapper; first | (rw [if_pos (by decide +kernel)]; kernel_rfl) | (rw [if_neg (by decide +kernel)]; exact ⟨rfl, rfl⟩))
    (fun os started H enc _ => lifted os started H enc)

theorem proved : Rows.FecTurnedSaid := over
#print axioms proved
end Go.Proofs.Ytdpgphidielajaa.fecTurned
