/-
  What Plain, same, few and Need answer, and the document's Need: for texts of up to a million bytes. The memory that was there stays.
-/
import Derived.Test.YtmfldnflcmbnjaaScA
import Derived.Test.YtmfldnflcmbnjaaBitsLaw
namespace Go.Proofs.Ytmfldnflcmbnjaa
open Go.RowKit Gf Sct Bit
set_option maxRecDepth 100000
/-- A section that is answered. -/
def SecPost (w0 : World) (s : Sec) (e : Ending) (w' : World) : Prop := e = .returned (secV s) ∧ Keeps w0 w'
theorem scplain_any (w0 : World) (s : Sec) (w : World) (hk : Keeps w0 w) : Calls Try.prog 12 #[secV s] w (SecPost w0 s) := by
  obtain ⟨tb, pv, ex, ver, nw, num, la, S⟩ := s
  go_enter Try.func12, Try.ntmps12
  go_wp2
  exact bodyPost_ret (v := secV ⟨tb, pv, ex, ver, nw, num, la, S⟩) (by simp [results, Try.results12, go_sem]) rfl ⟨rfl, (hk.alloc _).alloc _⟩
/-- What is the same in all sections of a text. -/
def smv (s : Sec) : Sec := ⟨s.tb, s.pv, s.ex, s.ver, s.nw, 0, s.la, ⟨#[]⟩⟩
theorem scsame_any (w0 : World) (s : Sec) (w : World) (hk : Keeps w0 w) : Calls Try.prog 50 #[secV s] w (SecPost w0 (smv s)) := by
  obtain ⟨tb, pv, ex, ver, nw, num, la, S⟩ := s
  go_enter Try.func50, Try.ntmps50
  go_wp2
  exact bodyPost_ret (v := secV ⟨tb, pv, ex, ver, nw, 0, la, ⟨#[]⟩⟩) (by simp [results, Try.results50, go_sem]) rfl ⟨rfl, (hk.alloc _).alloc _⟩
def fewB (s : ByteArray) : Bool := decide (s.size ≤ 600) || (decide (4084 < s.size) && decide (s.size ≤ 5000))
theorem scfew_any (s : ByteArray) (w : World) : Calls Try.prog 9 #[.string s] w fun e w' => e = .returned (.bool (fewB s)) ∧ w = w' := by
  by_cases h1 : s.size ≤ 600
  · rw [show fewB s = true by unfold fewB; rw [decide_eq_true h1]; rfl]
    go_enter Try.func9, Try.ntmps9
    go_wp2
    go_ret
    exact ⟨rfl, rfl⟩
  have i1 : ¬ ((s.size : Int) ≤ 600) := by omega
  by_cases h2 : 4084 < s.size
  · by_cases h3 : s.size ≤ 5000
    · have i3 : ((s.size : Int) ≤ 5000) := by omega
      rw [show fewB s = true by unfold fewB; rw [decide_eq_true h2, decide_eq_true h3, Bool.and_true, Bool.or_true]]
      go_enter Try.func9, Try.ntmps9
      go_wp2
      go_ret
      exact ⟨rfl, rfl⟩
    · have i3 : ¬ ((s.size : Int) ≤ 5000) := by omega
      rw [show fewB s = false by unfold fewB; rw [decide_eq_false h1, decide_eq_false h3, Bool.and_false]; rfl]
      go_enter Try.func9, Try.ntmps9
      go_wp2
      go_ret
      exact ⟨rfl, rfl⟩
  · rw [show fewB s = false by unfold fewB; rw [decide_eq_false h1, decide_eq_false h2]; rfl]
    go_enter Try.func9, Try.ntmps9
    go_wp2
    go_ret
    exact ⟨rfl, rfl⟩
/-- Get, its answer by a name. -/
theorem get_at {b : Nat} {s : ByteArray} {p : Nat} {w : World} (h : InAt b 0 s p w) (N : Nat) {q : Nat} {v : Int} (hv : un (num (((ob (ls s)).drop p).take N)) = v) (hq : p + N = q) (hN : N ≤ 64) (hs : s.size ≤ 1000000) (hp : p + N ≤ 8 * s.size) :
    Calls Try.prog 33 #[.pointer (some ⟨b, 0, none⟩), .int .i64 (N : Int)] w fun x w' => x = .returned (.int .u64 v) ∧ InAt b 0 s q w' ∧ Only b w w' := by
  have := get_ok h N hN hs hp
  rwa [hv, hq] at this
def NeedPost (w0 : World) (l : List UInt8) (e : Ending) (w' : World) : Prop := e = .returned (.tuple #[.int .i64 (need l).1, .int .i64 (need l).2]) ∧ Keeps w0 w'
theorem NeedPost.of {w0 W : World} {l : List UInt8} {n r : Int} (e : need l = (n, r)) (k : Keeps w0 W) : NeedPost w0 l (.returned (.tuple #[.int .i64 n, .int .i64 r])) W := by unfold NeedPost; rw [e]; exact ⟨rfl, k⟩
theorem cI {l : List UInt8} {i : Nat} {x : Int} (h : un (c l i) = x) : (c l i : Int) = x ∧ 0 ≤ x ∧ x ≤ 255 := by
  have := c_lt l i
  unfold un at h
  omega
set_option maxHeartbeats 3200000 in
theorem scneed_any (w0 : World) (s : ByteArray) (w : World) (hs : s.size ≤ 1000000) (hk : Keeps w0 w) :
    Calls Try.prog 16 #[.string s] w (NeedPost w0 (ls s)) := by
  have hsz := ls_size s
  by_cases h3 : s.size < 3
  · have HM := Lib.hid (need_short (l := ls s) (by omega))
    clear hsz
    go_enter Try.func16, Try.ntmps16
    go_wp2
    go_ret2
    exact NeedPost.of HM.out hk
  · have l1 := c_lt (ls s) 1
    have l2 := c_lt (ls s) 2
    have v0 := num_byte (ls s) 0 0 8 (j := 0) (by omega) (by omega) rfl
    have v1 := num_byte (ls s) 8 0 1 (j := 1) (by omega) (by omega) rfl
    have v2 := num_byte (ls s) 9 1 1 (j := 1) (by omega) (by omega) rfl
    have v3 := num_byte (ls s) 10 2 2 (j := 1) (by omega) (by omega) rfl
    have v4 : num (((ob (ls s)).drop 12).take 12) = (cf (ls s) 1).toNat % 16 * 256 + (cf (ls s) 2).toNat := num_two (ls s) 12 4 12 (j := 1) (by omega) (by omega) rfl rfl
    obtain ⟨x0, hx0⟩ : ∃ x, un (num (((ob (ls s)).drop 0).take 8)) = x := ⟨_, rfl⟩
    obtain ⟨x1, hx1⟩ : ∃ x, un (num (((ob (ls s)).drop 8).take 1)) = x := ⟨_, rfl⟩
    obtain ⟨x2, hx2⟩ : ∃ x, un (num (((ob (ls s)).drop 9).take 1)) = x := ⟨_, rfl⟩
    obtain ⟨x3, hx3⟩ : ∃ x, un (num (((ob (ls s)).drop 10).take 2)) = x := ⟨_, rfl⟩
    obtain ⟨x4, hx4⟩ : ∃ x, un (num (((ob (ls s)).drop 12).take 12)) = x := ⟨_, rfl⟩
    have e1 : x1 = ((c (ls s) 1 / 128 : Nat) : Int) := by rw [← hx1, v1]; unfold un c; unfold c at l1; omega
    have e3 : x3 = ((c (ls s) 1 / 16 % 4 : Nat) : Int) := by rw [← hx3, v3]; unfold un c; omega
    have e4 : x4 = ((len12 (ls s) : Nat) : Int) := by rw [← hx4, v4]; unfold un len12 c; omega
    have l12 : len12 (ls s) ≤ 4095 := by unfold len12; omega
    have G0 := Lib.hid (fun b W (h : InAt b 0 s 0 W) => get_at h 8 hx0 rfl (by decide) hs (by omega))
    have G1 := Lib.hid (fun b W (h : InAt b 0 s 8 W) => get_at h 1 hx1 rfl (by decide) hs (by omega))
    have G2 := Lib.hid (fun b W (h : InAt b 0 s 9 W) => get_at h 1 hx2 rfl (by decide) hs (by omega))
    have G3 := Lib.hid (fun b W (h : InAt b 0 s 10 W) => get_at h 2 hx3 rfl (by decide) hs (by omega))
    have G4 := Lib.hid (fun b W (h : InAt b 0 s 12 W) => get_at h 12 hx4 rfl (by decide) hs (by omega))
    have RD := Lib.hid (read_any s w)
    obtain ⟨rb, hrb⟩ : ∃ rb, w.heap.size = rb := ⟨_, rfl⟩
    rw [hrb] at RD
    have HRB := Lib.hid (show w0.heap.size ≤ rb by rw [← hrb]; exact Below.size hk)
    have hx4b : 0 ≤ x4 ∧ x4 ≤ 4095 := by omega
    have HF := Lib.hid (show ¬ (x1 = 1 ∧ x3 = 3 ∧ 12 ≤ 3 + x4 ∧ 3 + x4 ≤ 4096) → need (ls s) = (0, 12) from fun h => need_form (by omega) (by
      rintro ⟨k1, k2, k3⟩
      refine h ⟨?_, ?_, ?_, ?_⟩
      · rw [e1]; omega
      · rw [e3]; omega
      · omega
      · omega))
    have HY := Lib.hid (show (x1 = 1 ∧ x3 = 3 ∧ 12 ≤ 3 + x4 ∧ 3 + x4 ≤ 4096) → need (ls s) = (3 + x4, 0) from fun h => by
      obtain ⟨k1, k2, k3, k4⟩ := h
      rw [need_ok (by omega) ⟨by omega, by omega, by omega⟩, e4]
      congr 1; omega)
    have HK := Lib.hid hk
    clear hx0 hx1 hx2 hx3 hx4 v0 v1 v2 v3 v4 e1 e3 e4 l12 l1 l2 hsz hk hrb
    by_cases q1 : x1 = 1
    · by_cases q3 : x3 = 3
      · by_cases q4 : 3 + x4 < 12
        · replace HF := Lib.hid (HF.out (by omega))
          clear HY
          go_enter Try.func16, Try.ntmps16
          go_wp2_with (first | (go_at_call 32; refine RD.out.mono ?_; rintro _ w1 ⟨rfl, i1, k1⟩; have HK1 := Lib.hid (HK.out.trans k1); have I1 := Lib.hid i1; clear i1 k1 HK RD) | (go_at_call 33; refine (G0.out _ _ I1.out).mono ?_; rintro _ w2 ⟨rfl, i2, k2⟩; have HK2 := Lib.hid (k2.keeps HK1.out HRB.out); have I2 := Lib.hid i2; clear i2 k2 HK1 I1) | (go_at_call 33; refine (G1.out _ _ I2.out).mono ?_; rintro _ w3 ⟨rfl, i3, k3⟩; have HK3 := Lib.hid (k3.keeps HK2.out HRB.out); have I3 := Lib.hid i3; clear i3 k3 HK2 I2) | (go_at_call 33; refine (G2.out _ _ I3.out).mono ?_; rintro _ w4 ⟨rfl, i4, k4⟩; have HK4 := Lib.hid (k4.keeps HK3.out HRB.out); have I4 := Lib.hid i4; clear i4 k4 HK3 I3) | (go_at_call 33; refine (G3.out _ _ I4.out).mono ?_; rintro _ w5 ⟨rfl, i5, k5⟩; have HK5 := Lib.hid (k5.keeps HK4.out HRB.out); have I5 := Lib.hid i5; clear i5 k5 HK4 I4) | (go_at_call 33; refine (G4.out _ _ I5.out).mono ?_; rintro _ w6 ⟨rfl, i6, k6⟩; have HK6 := Lib.hid (k6.keeps HK5.out HRB.out); clear i6 k6 HK5 I5))
          go_ret2
          exact NeedPost.of HF.out HK6.out
        · by_cases q5 : 4096 < 3 + x4
          · replace HF := Lib.hid (HF.out (by omega))
            clear HY
            go_enter Try.func16, Try.ntmps16
            go_wp2_with (first | (go_at_call 32; refine RD.out.mono ?_; rintro _ w1 ⟨rfl, i1, k1⟩; have HK1 := Lib.hid (HK.out.trans k1); have I1 := Lib.hid i1; clear i1 k1 HK RD) | (go_at_call 33; refine (G0.out _ _ I1.out).mono ?_; rintro _ w2 ⟨rfl, i2, k2⟩; have HK2 := Lib.hid (k2.keeps HK1.out HRB.out); have I2 := Lib.hid i2; clear i2 k2 HK1 I1) | (go_at_call 33; refine (G1.out _ _ I2.out).mono ?_; rintro _ w3 ⟨rfl, i3, k3⟩; have HK3 := Lib.hid (k3.keeps HK2.out HRB.out); have I3 := Lib.hid i3; clear i3 k3 HK2 I2) | (go_at_call 33; refine (G2.out _ _ I3.out).mono ?_; rintro _ w4 ⟨rfl, i4, k4⟩; have HK4 := Lib.hid (k4.keeps HK3.out HRB.out); have I4 := Lib.hid i4; clear i4 k4 HK3 I3) | (go_at_call 33; refine (G3.out _ _ I4.out).mono ?_; rintro _ w5 ⟨rfl, i5, k5⟩; have HK5 := Lib.hid (k5.keeps HK4.out HRB.out); have I5 := Lib.hid i5; clear i5 k5 HK4 I4) | (go_at_call 33; refine (G4.out _ _ I5.out).mono ?_; rintro _ w6 ⟨rfl, i6, k6⟩; have HK6 := Lib.hid (k6.keeps HK5.out HRB.out); clear i6 k6 HK5 I5))
            go_ret2
            exact NeedPost.of HF.out HK6.out
          · replace HY := Lib.hid (HY.out ⟨q1, q3, by omega, by omega⟩)
            clear HF
            go_enter Try.func16, Try.ntmps16
            go_wp2_with (first | (go_at_call 32; refine RD.out.mono ?_; rintro _ w1 ⟨rfl, i1, k1⟩; have HK1 := Lib.hid (HK.out.trans k1); have I1 := Lib.hid i1; clear i1 k1 HK RD) | (go_at_call 33; refine (G0.out _ _ I1.out).mono ?_; rintro _ w2 ⟨rfl, i2, k2⟩; have HK2 := Lib.hid (k2.keeps HK1.out HRB.out); have I2 := Lib.hid i2; clear i2 k2 HK1 I1) | (go_at_call 33; refine (G1.out _ _ I2.out).mono ?_; rintro _ w3 ⟨rfl, i3, k3⟩; have HK3 := Lib.hid (k3.keeps HK2.out HRB.out); have I3 := Lib.hid i3; clear i3 k3 HK2 I2) | (go_at_call 33; refine (G2.out _ _ I3.out).mono ?_; rintro _ w4 ⟨rfl, i4, k4⟩; have HK4 := Lib.hid (k4.keeps HK3.out HRB.out); have I4 := Lib.hid i4; clear i4 k4 HK3 I3) | (go_at_call 33; refine (G3.out _ _ I4.out).mono ?_; rintro _ w5 ⟨rfl, i5, k5⟩; have HK5 := Lib.hid (k5.keeps HK4.out HRB.out); have I5 := Lib.hid i5; clear i5 k5 HK4 I4) | (go_at_call 33; refine (G4.out _ _ I5.out).mono ?_; rintro _ w6 ⟨rfl, i6, k6⟩; have HK6 := Lib.hid (k6.keeps HK5.out HRB.out); clear i6 k6 HK5 I5))
            go_ret2
            exact NeedPost.of HY.out HK6.out
      · replace HF := Lib.hid (HF.out fun h => q3 h.2.1)
        clear HY
        go_enter Try.func16, Try.ntmps16
        go_wp2_with (first | (go_at_call 32; refine RD.out.mono ?_; rintro _ w1 ⟨rfl, i1, k1⟩; have HK1 := Lib.hid (HK.out.trans k1); have I1 := Lib.hid i1; clear i1 k1 HK RD) | (go_at_call 33; refine (G0.out _ _ I1.out).mono ?_; rintro _ w2 ⟨rfl, i2, k2⟩; have HK2 := Lib.hid (k2.keeps HK1.out HRB.out); have I2 := Lib.hid i2; clear i2 k2 HK1 I1) | (go_at_call 33; refine (G1.out _ _ I2.out).mono ?_; rintro _ w3 ⟨rfl, i3, k3⟩; have HK3 := Lib.hid (k3.keeps HK2.out HRB.out); have I3 := Lib.hid i3; clear i3 k3 HK2 I2) | (go_at_call 33; refine (G2.out _ _ I3.out).mono ?_; rintro _ w4 ⟨rfl, i4, k4⟩; have HK4 := Lib.hid (k4.keeps HK3.out HRB.out); have I4 := Lib.hid i4; clear i4 k4 HK3 I3) | (go_at_call 33; refine (G3.out _ _ I4.out).mono ?_; rintro _ w5 ⟨rfl, i5, k5⟩; have HK5 := Lib.hid (k5.keeps HK4.out HRB.out); have I5 := Lib.hid i5; clear i5 k5 HK4 I4) | (go_at_call 33; refine (G4.out _ _ I5.out).mono ?_; rintro _ w6 ⟨rfl, i6, k6⟩; have HK6 := Lib.hid (k6.keeps HK5.out HRB.out); clear i6 k6 HK5 I5))
        go_ret2
        exact NeedPost.of HF.out HK6.out
    · replace HF := Lib.hid (HF.out fun h => q1 h.1)
      clear HY
      go_enter Try.func16, Try.ntmps16
      go_wp2_with (first | (go_at_call 32; refine RD.out.mono ?_; rintro _ w1 ⟨rfl, i1, k1⟩; have HK1 := Lib.hid (HK.out.trans k1); have I1 := Lib.hid i1; clear i1 k1 HK RD) | (go_at_call 33; refine (G0.out _ _ I1.out).mono ?_; rintro _ w2 ⟨rfl, i2, k2⟩; have HK2 := Lib.hid (k2.keeps HK1.out HRB.out); have I2 := Lib.hid i2; clear i2 k2 HK1 I1) | (go_at_call 33; refine (G1.out _ _ I2.out).mono ?_; rintro _ w3 ⟨rfl, i3, k3⟩; have HK3 := Lib.hid (k3.keeps HK2.out HRB.out); have I3 := Lib.hid i3; clear i3 k3 HK2 I2) | (go_at_call 33; refine (G2.out _ _ I3.out).mono ?_; rintro _ w4 ⟨rfl, i4, k4⟩; have HK4 := Lib.hid (k4.keeps HK3.out HRB.out); have I4 := Lib.hid i4; clear i4 k4 HK3 I3) | (go_at_call 33; refine (G3.out _ _ I4.out).mono ?_; rintro _ w5 ⟨rfl, i5, k5⟩; have HK5 := Lib.hid (k5.keeps HK4.out HRB.out); have I5 := Lib.hid i5; clear i5 k5 HK4 I4) | (go_at_call 33; refine (G4.out _ _ I5.out).mono ?_; rintro _ w6 ⟨rfl, i6, k6⟩; have HK6 := Lib.hid (k6.keeps HK5.out HRB.out); clear i6 k6 HK5 I5))
      go_ret2
      exact NeedPost.of HF.out HK6.out
set_option maxHeartbeats 3200000 in
theorem scrneed_any (w0 : World) (s : ByteArray) (w : World) (hs : s.size ≤ 1000000) (hk : Keeps w0 w) :
    Calls Try.prog 17 #[.string s] w (NeedPost w0 (ls s)) := by
  have hsz := ls_size s
  by_cases h3 : s.size < 3
  · have HM := Lib.hid (need_short (l := ls s) (by omega))
    clear hsz
    go_enter Try.func17, Try.ntmps17
    go_wp2
    go_ret2
    exact NeedPost.of HM.out hk
  · have l1 := c_lt (ls s) 1
    have l2 := c_lt (ls s) 2
    have h1s : 1 < s.size := by omega
    have h2s : 2 < s.size := by omega
    have g1 := ls_get s 1 h1s
    have g2 := ls_get s 2 h2s
    obtain ⟨c1, hc1⟩ : ∃ x, cf (ls s) 1 = x := ⟨_, rfl⟩
    obtain ⟨c2, hc2⟩ : ∃ x, cf (ls s) 2 = x := ⟨_, rfl⟩
    rw [hc1] at g1
    rw [hc2] at g2
    have b1 := u8_bd c1
    have b2 := u8_bd c2
    have e12 : len12 (ls s) = c1.toNat % 16 * 256 + c2.toNat := by unfold len12 c; rw [hc1, hc2]
    have e1 : c (ls s) 1 = c1.toNat := by unfold c; rw [hc1]
    have HF := Lib.hid (show ¬ (((c1.toNat : Int) / 16 = 11 ∨ (c1.toNat : Int) / 16 = 15) ∧ 9 ≤ (c1.toNat : Int) % 16 * 256 + (c2.toNat : Int) ∧ (c1.toNat : Int) % 16 * 256 + (c2.toNat : Int) ≤ 4093) → need (ls s) = (0, 12) from fun h => need_form (by omega) (by
      rintro ⟨k1, k2, k3⟩
      rw [e1] at k1
      rw [e12] at k2 k3
      exact h ⟨by omega, by omega, by omega⟩))
    have HY := Lib.hid (show (((c1.toNat : Int) / 16 = 11 ∨ (c1.toNat : Int) / 16 = 15) ∧ 9 ≤ (c1.toNat : Int) % 16 * 256 + (c2.toNat : Int) ∧ (c1.toNat : Int) % 16 * 256 + (c2.toNat : Int) ≤ 4093) → need (ls s) = ((c1.toNat : Int) % 16 * 256 + (c2.toNat : Int) + 3, 0) from fun h => by
      obtain ⟨k1, k2, k3⟩ := h
      rw [need_ok (by omega) ⟨by rw [e1]; omega, by rw [e12]; omega, by rw [e12]; omega⟩, e12]
      congr 1)
    clear hc1 hc2 e1 e12 l1 l2 hsz h3
    go_enter Try.func17, Try.ntmps17
    go_wp2
    go_quiet (fail)
    go_wp2
    all_goals
      go_ret2
      first
        | (refine NeedPost.of (HF.out ?_) (hk.eqv (Eqv.drewN _ _)); omega)
        | (refine NeedPost.of (HY.out ?_) (hk.eqv (Eqv.drewN _ _)); omega)
end Go.Proofs.Ytmfldnflcmbnjaa
