/-
  What the document's Peek and both Checks answer: for texts of up to a billion bytes. The memory that was there stays.
-/
import Derived.Test.YtggokcakikkdgaaDgB
import Derived.StillTailTactics
namespace Go.Proofs.Ytggokcakikkdgaa
open Go.RowKit Gf Dg
set_option maxRecDepth 100000
/-- Two such structs, behind each other: what is answered, and what is built. -/
structure Peeking (w0 : World) (b : Nat) (d : Hd) (w : World) : Prop where
  kp : Keeps w0 w
  base : w0.heap.size ≤ b
  ans : Hd4 b z w
  own : Hd4 (b + 1) d w
theorem Peeking.eqv {w0 w w' : World} {b : Nat} {d : Hd} (h : Peeking w0 b d w) (k : Eqv w w') : Peeking w0 b d w' := ⟨h.kp.eqv k, h.base, h.ans.eqv k, h.own.eqv k⟩
theorem Hd4.only {b c : Nat} {d : Hd} {w w' : World} (h : Hd4 b d w) (hn : b ≠ c) (k : Only c w w') : Hd4 b d w' := by
  have hb : b < w.heap.size := there_of h.c0
  have kc : ∀ i, w'.cell? ⟨b, i, none⟩ = w.cell? ⟨b, i, none⟩ := fun i => k.cell (p := ⟨b, i, none⟩) hb hn
  have kf : ∀ i, w'.frozen? ⟨b, i, none⟩ = w.frozen? ⟨b, i, none⟩ := fun i => k.frozen (p := ⟨b, i, none⟩) hb hn
  exact ⟨(kc 0).trans h.c0, (kc 1).trans h.c1, (kc 2).trans h.c2, (kc 3).trans h.c3, (kf 0).trans h.f0, (kf 1).trans h.f1, (kf 2).trans h.f2, (kf 3).trans h.f3⟩
theorem Peeking.start {w0 w wA : World} {b : Nat} (hk : Keeps w0 w) (c : Nat) {t : TypeId} (hb : w.heap.size = b) (hA : (w.alloc (.cells #[.int .i64 0, .int .i64 0, .int .i64 0, .int .i64 0] t)).alloc (.cells #[.int .i64 6, .int .i64 40, .int .i64 0, .int .i64 (c : Int)] t) = wA) :
    Peeking w0 b ⟨6, 40, 0, c⟩ wA := by
  subst hb
  subst hA
  refine ⟨(hk.alloc _).alloc _, Below.size hk, (Hd4.made w z t).keeps ((Keeps.refl _).alloc _), ?_⟩
  have := Hd4.made (w.alloc (.cells #[.int .i64 0, .int .i64 0, .int .i64 0, .int .i64 0] t)) ⟨6, 40, 0, c⟩ t
  rw [World.size_alloc] at this
  exact this
theorem Peeking.setL {w0 w : World} {b : Nat} {v h l p : Int} (k : Peeking w0 b ⟨v, h, l, p⟩ w) (x : Int) : Peeking w0 b ⟨v, h, x, p⟩ (w.setCell ⟨b + 1, 2, none⟩ (.int .i64 x)) := by
  obtain ⟨q1, q2, q3, q4, f1, f2, f3, f4⟩ := k.own
  refine ⟨(Only.setCell w ⟨b + 1, 2, none⟩ _).keeps k.kp (by have := k.base; show _ ≤ b + 1; omega), k.base, k.ans.only (by show b ≠ b + 1; omega) (Only.setCell w ⟨b + 1, 2, none⟩ _), ?_⟩
  exact ⟨(set_other (by decide)).trans q1, (set_other (by decide)).trans q2, set_same q3, (set_other (by decide)).trans q4, by simp [f1], by simp [f2], by simp [f3], by simp [f4]⟩
theorem Peeking.put {w0 w : World} {b : Nat} {d : Hd} (k : Peeking w0 b d w) (r1 r2 r3 r4 : Int) : Peeking w0 b ⟨r1, r2, r3, r4⟩ ((((w.setCell ⟨b + 1, 0, none⟩ (.int .i64 r1)).setCell ⟨b + 1, 1, none⟩ (.int .i64 r2)).setCell ⟨b + 1, 2, none⟩ (.int .i64 r3)).setCell ⟨b + 1, 3, none⟩ (.int .i64 r4)) := by
  have ho : Only (b + 1) w _ := (((Only.setCell w ⟨b + 1, 0, none⟩ (.int .i64 r1)).trans (Only.setCell _ ⟨b + 1, 1, none⟩ (.int .i64 r2))).trans (Only.setCell _ ⟨b + 1, 2, none⟩ (.int .i64 r3))).trans (Only.setCell _ ⟨b + 1, 3, none⟩ (.int .i64 r4))
  exact ⟨ho.keeps k.kp (by have := k.base; omega), k.base, k.ans.only (by omega) ho, k.own.store r1 r2 r3 r4⟩
theorem rpk_ret {w0 W : World} {a : Act} {l : List UInt8} {b : Nat} {r1 r2 r3 r4 r5 : Int} (hB : Hd4 b ⟨r1, r2, r3, r4⟩ W) (hk : Keeps w0 W) (hr : peek l = (⟨r1, r2, r3, r4⟩, r5))
    (h2 : a.tmps.getD 2 undef = .pointer (some ⟨b, 0, none⟩)) (h3 : a.tmps.getD 3 undef = .int .i64 r5) (hd : a.defers = []) : bodyPost Try.prog Try.f11 (PkPost w0 l) Exit.ret a W := by
  obtain ⟨q1, q2, q3, q4, _⟩ := hB
  have h2' : a.tmps[2]?.getD undef = .pointer (some ⟨b, 0, none⟩) := by rw [← h2, Array.getD_eq_getD_getElem?]
  have h3' : a.tmps[3]?.getD undef = .int .i64 r5 := by rw [← h3, Array.getD_eq_getD_getElem?]
  exact bodyPost_ret (v := .tuple #[hdV r1 r2 r3 r4, .int .i64 r5]) (by simp [results, Try.results11, go_sem, q1, q2, q3, q4, h2', h3']) hd (PkPost.of hr hk)
theorem Peeking.ends {w0 w W : World} {a : Act} {l : List UInt8} {b : Nat} {d : Hd} {r1 r2 r3 r4 r5 : Int} (k : Peeking w0 b d w) (hr : peek l = (⟨r1, r2, r3, r4⟩, r5))
    (hW : (((w.setCell ⟨b, 0, none⟩ (.int .i64 r1)).setCell ⟨b, 1, none⟩ (.int .i64 r2)).setCell ⟨b, 2, none⟩ (.int .i64 r3)).setCell ⟨b, 3, none⟩ (.int .i64 r4) = W)
    (h2 : a.tmps.getD 2 undef = .pointer (some ⟨b, 0, none⟩)) (h3 : a.tmps.getD 3 undef = .int .i64 r5) (hd : a.defers = []) : bodyPost Try.prog Try.f11 (PkPost w0 l) Exit.ret a W := by
  subst hW
  exact rpk_ret (k.ans.store r1 r2 r3 r4) (k.kp.store r1 r2 r3 r4 k.base) hr h2 h3 hd
set_option maxHeartbeats 1600000 in
theorem dgrpeek_any (w0 : World) (s : ByteArray) (w : World) (hs : s.size ≤ 1000000000) (hk : Keeps w0 w) :
    Calls Try.prog 11 #[.string s] w (PkPost w0 (ls s)) := by
  have hsz := ls_size s
  by_cases h0 : s.size = 0
  · have HM := Lib.hid (peek_nil (l := ls s) (by omega))
    clear hsz
    go_enter Try.func11, Try.ntmps11
    go_wp2
    exact bodyPost_ret (v := .tuple #[hdV 0 0 0 0, .int .i64 10]) (by simp [results, Try.results11, go_sem]) rfl (PkPost.of HM.out (hk.alloc _))
  · have hpos : 0 < s.size := Nat.pos_of_ne_zero h0
    have g0 := ls_get s 0 hpos
    obtain ⟨c0, hc0⟩ : ∃ c, cf (ls s) 0 = c := ⟨_, rfl⟩
    have hn0 : n (ls s) 0 = (c0.toNat : Int) := by unfold n; rw [hc0]
    rw [hc0] at g0
    have b0 := u8_bd c0
    have HN0 := Lib.hid hn0
    have HSZ := Lib.hid hsz
    clear hc0 hn0 hsz
    by_cases h4 : (c0.toNat : Int) / 16 = 4
    · by_cases h20 : s.size < 20
      · have HM := Lib.hid (peek_s4 (l := ls s) (by rw [← HSZ.out]; exact h0) (by rw [HN0.out]; exact h4) (by rw [← HSZ.out]; exact h20))
        go_enter Try.func11, Try.ntmps11
        go_wp2
        exact bodyPost_ret (v := .tuple #[hdV 0 0 0 0, .int .i64 10]) (by simp [results, Try.results11, go_sem]) rfl (PkPost.of HM.out (hk.alloc _))
      · have HM := Lib.hid (peek_4 (l := ls s) (by rw [← HSZ.out]; exact h20) (by rw [HN0.out]; exact h4))
        have hx6 : 6 < s.size := by omega
        have hx4 : 4 < s.size := by omega
        have hx5 : 5 < s.size := by omega
        have hx2 : 2 < s.size := by omega
        have hx3 : 3 < s.size := by omega
        have hx9 : 9 < s.size := by omega
        have g6 := ls_get s 6 hx6
        have g4 := ls_get s 4 hx4
        have g5 := ls_get s 5 hx5
        have g2 := ls_get s 2 hx2
        have g3 := ls_get s 3 hx3
        have g9 := ls_get s 9 hx9
        obtain ⟨c2, hc2⟩ : ∃ c, cf (ls s) 2 = c := ⟨_, rfl⟩
        obtain ⟨c3, hc3⟩ : ∃ c, cf (ls s) 3 = c := ⟨_, rfl⟩
        obtain ⟨c9, hc9⟩ : ∃ c, cf (ls s) 9 = c := ⟨_, rfl⟩
        obtain ⟨c4, hc4⟩ : ∃ c, cf (ls s) 4 = c := ⟨_, rfl⟩
        obtain ⟨c5, hc5⟩ : ∃ c, cf (ls s) 5 = c := ⟨_, rfl⟩
        obtain ⟨c6, hc6⟩ : ∃ c, cf (ls s) 6 = c := ⟨_, rfl⟩
        rw [hc2] at g2
        rw [hc3] at g3
        rw [hc9] at g9
        rw [hc4] at g4
        rw [hc5] at g5
        rw [hc6] at g6
        have b2 := u8_bd c2
        have b3 := u8_bd c3
        have b4 := u8_bd c4
        have b5 := u8_bd c5
        have b6 := u8_bd c6
        have b9 := u8_bd c9
        have HD := Lib.hid (show Dg.h4 (ls s) = ⟨4, 4 * ((c0.toNat : Int) % 16), 256 * (c2.toNat : Int) + (c3.toNat : Int), (c9.toNat : Int)⟩ by
          unfold Dg.h4
          rw [HN0.out]
          unfold n
          rw [hc2, hc3, hc9, Int.mul_comm 4, Int.mul_comm 256])
        clear hc2 hc3 hc9 hc4 hc5 hc6
        obtain ⟨M, hMM⟩ : ∃ M : Int, (c0.toNat : Int) % 16 = M := ⟨_, rfl⟩
        have hM0 : 0 ≤ M := by omega
        have hM1 : M ≤ 15 := by omega
        have hmod : (c0.toNat : Int).tmod 16 = M := by rw [← hMM]; exact Int.tmod_eq_emod_of_nonneg b0.1
        rw [hMM] at HD
        have HMM := Lib.hid hMM
        have HMD := Lib.hid hmod
        clear hMM hmod
        have i9 : (9 : Int) < (s.size : Int) := by omega
        have i6 : (6 : Int) < (s.size : Int) := by omega
        have i5 : (5 : Int) < (s.size : Int) := by omega
        have i4 : (4 : Int) < (s.size : Int) := by omega
        have i3 : (3 : Int) < (s.size : Int) := by omega
        have i2 : (2 : Int) < (s.size : Int) := by omega
        go_enter Try.func11, Try.ntmps11
        go_wp2
        obtain ⟨b, hb⟩ : ∃ b, w.heap.size = b := ⟨_, rfl⟩
        obtain ⟨wA, hwA⟩ : ∃ wA, (w.alloc (.cells #[.int .i64 0, .int .i64 0, .int .i64 0, .int .i64 0] 28)).alloc (.cells #[.int .i64 6, .int .i64 40, .int .i64 0, .int .i64 (c6.toNat : Int)] 28) = wA := ⟨_, rfl⟩
        have hP := Peeking.start (w0 := w0) hk c6.toNat hb hwA
        rw [hwA, hb]
        clear hwA hb hk
        have wr1 : ∀ x : UInt8, IntKind.i64.wrap (x.toNat : Int) = (x.toNat : Int) := fun x => wrapI (by have := u8_bd x; omega) (by have := u8_bd x; omega)
        have wr2 : ∀ x : UInt8, IntKind.i64.wrap (256 * (x.toNat : Int)) = 256 * (x.toNat : Int) := fun x => wrapI (by have := u8_bd x; omega) (by have := u8_bd x; omega)
        have wr3 : ∀ x : UInt8, IntKind.i64.wrap (40 + 256 * (x.toNat : Int)) = 40 + 256 * (x.toNat : Int) := fun x => wrapI (by have := u8_bd x; omega) (by have := u8_bd x; omega)
        have wr4 : ∀ x y : UInt8, IntKind.i64.wrap (40 + 256 * (x.toNat : Int) + (y.toNat : Int)) = 40 + 256 * (x.toNat : Int) + (y.toNat : Int) := fun x y => wrapI (by have := u8_bd x; have := u8_bd y; omega) (by have := u8_bd x; have := u8_bd y; omega)
        go_still_tail 10, (by kernel_rfl)
        change wpList _ _ _ _ _ wA.drew
        have hP2 := hP.eqv (Eqv.drew wA)
        generalize wA.drew = wB at *
        clear hP wr2 wr3 wr4
        obtain ⟨_, _, ⟨x0, x1, x2, x3, y0, y1, y2, y3⟩, ⟨u0, u1, u2, u3, v0, v1, v2, v3⟩⟩ := id hP2
        have HP2 := Lib.hid (hP2.setL (40 + 256 * (c4.toNat : Int) + (c5.toNat : Int)))
        clear hP2
        go_wp2
        have hP2 := HP2.out
        obtain ⟨wC, hwC⟩ : ∃ wC, wB.setCell ⟨b + 1, 2, none⟩ (.int .i64 (40 + 256 * (c4.toNat : Int) + (c5.toNat : Int))) = wC := ⟨_, rfl⟩
        rw [hwC] at hP2
        rw [hwC]
        clear hwC HP2 x0 x1 x2 x3 y0 y1 y2 y3 u0 u1 u2 u3 v0 v1 v2 v3
        have hmod := HMD.out
        have wr2 := wrapI (a := M) (by omega) (by omega)
        have wr3 := wrapI (a := 4 * M) (by omega) (by omega)
        have wr4 := wrapI (a := 256 * (c2.toNat : Int)) (by omega) (by omega)
        have wr5 := wrapI (a := 256 * (c2.toNat : Int) + (c3.toNat : Int)) (by omega) (by omega)
        go_still_tail 17, (by kernel_rfl)
        change wpList _ _ _ _ _ wC.drew
        have hP3 := hP2.eqv (Eqv.drew wC)
        generalize wC.drew = wD at *
        obtain ⟨L, hL⟩ : ∃ L : Int, 256 * (c2.toNat : Int) + (c3.toNat : Int) = L := ⟨_, rfl⟩
        have hP4 := hP3.put 4 (4 * M) L (c9.toNat : Int)
        have HD2 := HD.out
        rw [hL] at HD2 ⊢
        have HPK := Lib.hid (HM.out.trans (congrArg (fun d => may d 20) HD2))
        obtain ⟨_, _, ⟨x0, x1, x2, x3, y0, y1, y2, y3⟩, ⟨u0, u1, u2, u3, v0, v1, v2, v3⟩⟩ := id hP3
        have HP4 := Lib.hid hP4
        have hL0 : 0 ≤ L := by omega
        clear hP2 hP3 hP4 wr1 wr2 wr3 wr4 wr5 hmod HD2 hL
        by_cases e1 : 4 * M < 20
        · have HR := Lib.hid (show peek (ls s) = (z, 12) by rw [HPK.out]; unfold may; rw [if_pos (.inl e1)])
          go_wp2
          exact HP4.out.ends HR.out rfl rfl rfl rfl
        · by_cases e2 : L < 4 * M
          · have HR := Lib.hid (show peek (ls s) = (z, 12) by rw [HPK.out]; unfold may; rw [if_pos (.inr e2)])
            go_wp2
            exact HP4.out.ends HR.out rfl rfl rfl rfl
          · by_cases e3 : 4080 < L
            · have HR := Lib.hid (show peek (ls s) = (z, 15) by rw [HPK.out]; unfold may; rw [if_neg (by show ¬ (4 * M < 20 ∨ L < 4 * M); omega), if_pos (by show L > 4080; omega)])
              go_wp2
              exact HP4.out.ends HR.out rfl rfl rfl rfl
            · have HR := Lib.hid (show peek (ls s) = (⟨4, 4 * M, L, (c9.toNat : Int)⟩, 0) by rw [HPK.out]; unfold may; rw [if_neg (by show ¬ (4 * M < 20 ∨ L < 4 * M); omega), if_neg (by show ¬ L > 4080; omega)])
              go_wp2
              exact HP4.out.ends HR.out rfl rfl rfl rfl
    · by_cases h6 : (c0.toNat : Int) / 16 = 6
      · by_cases h40 : s.size < 40
        · have HM := Lib.hid (peek_s6 (l := ls s) (by rw [← HSZ.out]; exact h0) (by rw [HN0.out]; exact h6) (by rw [← HSZ.out]; exact h40))
          go_enter Try.func11, Try.ntmps11
          go_wp2
          exact bodyPost_ret (v := .tuple #[hdV 0 0 0 0, .int .i64 10]) (by simp [results, Try.results11, go_sem]) rfl (PkPost.of HM.out (hk.alloc _))
        · have HM := Lib.hid (peek_6 (l := ls s) (by rw [← HSZ.out]; exact h40) (by rw [HN0.out]; exact h6))
          have hx6 : 6 < s.size := by omega
          have hx4 : 4 < s.size := by omega
          have hx5 : 5 < s.size := by omega
          have g6 := ls_get s 6 hx6
          have g4 := ls_get s 4 hx4
          have g5 := ls_get s 5 hx5
          obtain ⟨c4, hc4⟩ : ∃ c, cf (ls s) 4 = c := ⟨_, rfl⟩
          obtain ⟨c5, hc5⟩ : ∃ c, cf (ls s) 5 = c := ⟨_, rfl⟩
          obtain ⟨c6, hc6⟩ : ∃ c, cf (ls s) 6 = c := ⟨_, rfl⟩
          rw [hc4] at g4
          rw [hc5] at g5
          rw [hc6] at g6
          have b4 := u8_bd c4
          have b5 := u8_bd c5
          have b6 := u8_bd c6
          have HD := Lib.hid (show Dg.h6 (ls s) = ⟨6, 40, 40 + 256 * (c4.toNat : Int) + (c5.toNat : Int), (c6.toNat : Int)⟩ by
            unfold Dg.h6
            unfold n
            rw [hc4, hc5, hc6, Int.mul_comm 256, Int.add_assoc])
          clear hc4 hc5 hc6
          have i6 : (6 : Int) < (s.size : Int) := by omega
          have i5 : (5 : Int) < (s.size : Int) := by omega
          have i4 : (4 : Int) < (s.size : Int) := by omega
          go_enter Try.func11, Try.ntmps11
          go_wp2
          obtain ⟨b, hb⟩ : ∃ b, w.heap.size = b := ⟨_, rfl⟩
          obtain ⟨wA, hwA⟩ : ∃ wA, (w.alloc (.cells #[.int .i64 0, .int .i64 0, .int .i64 0, .int .i64 0] 28)).alloc (.cells #[.int .i64 6, .int .i64 40, .int .i64 0, .int .i64 (c6.toNat : Int)] 28) = wA := ⟨_, rfl⟩
          have hP := Peeking.start (w0 := w0) hk c6.toNat hb hwA
          rw [hwA, hb]
          clear hwA hb hk
          have wr1 : ∀ x : UInt8, IntKind.i64.wrap (x.toNat : Int) = (x.toNat : Int) := fun x => wrapI (by have := u8_bd x; omega) (by have := u8_bd x; omega)
          have wr2 : ∀ x : UInt8, IntKind.i64.wrap (256 * (x.toNat : Int)) = 256 * (x.toNat : Int) := fun x => wrapI (by have := u8_bd x; omega) (by have := u8_bd x; omega)
          have wr3 : ∀ x : UInt8, IntKind.i64.wrap (40 + 256 * (x.toNat : Int)) = 40 + 256 * (x.toNat : Int) := fun x => wrapI (by have := u8_bd x; omega) (by have := u8_bd x; omega)
          have wr4 : ∀ x y : UInt8, IntKind.i64.wrap (40 + 256 * (x.toNat : Int) + (y.toNat : Int)) = 40 + 256 * (x.toNat : Int) + (y.toNat : Int) := fun x y => wrapI (by have := u8_bd x; have := u8_bd y; omega) (by have := u8_bd x; have := u8_bd y; omega)
          go_still_tail 10, (by kernel_rfl)
          change wpList _ _ _ _ _ wA.drew
          have hP2 := hP.eqv (Eqv.drew wA)
          generalize wA.drew = wB at *
          obtain ⟨L, hL⟩ : ∃ L : Int, 40 + 256 * (c4.toNat : Int) + (c5.toNat : Int) = L := ⟨_, rfl⟩
          have hP4 := hP2.setL L
          have HD2 := HD.out
          rw [hL] at HD2 ⊢
          have HPK := Lib.hid (HM.out.trans (congrArg (fun d => may d 40) HD2))
          obtain ⟨_, _, ⟨x0, x1, x2, x3, y0, y1, y2, y3⟩, ⟨u0, u1, u2, u3, v0, v1, v2, v3⟩⟩ := id hP2
          have HP4 := Lib.hid hP4
          have hL0 : 40 ≤ L := by omega
          have h4' : ((c0.toNat : Int) / 16 == 4) = false := by rw [h6]; rfl
          clear hP hP2 hP4 wr1 wr2 wr3 wr4 HD2 hL
          by_cases e3 : 4080 < L
          · have HR := Lib.hid (show peek (ls s) = (z, 15) by rw [HPK.out]; unfold may; rw [if_neg (by show ¬ ((40 : Int) < 40 ∨ L < 40); omega), if_pos (by show L > 4080; omega)])
            go_wp2
            exact HP4.out.ends HR.out rfl rfl rfl rfl
          · have HR := Lib.hid (show peek (ls s) = (⟨6, 40, L, (c6.toNat : Int)⟩, 0) by rw [HPK.out]; unfold may; rw [if_neg (by show ¬ ((40 : Int) < 40 ∨ L < 40); omega), if_neg (by show ¬ L > 4080; omega)])
            go_wp2
            exact HP4.out.ends HR.out rfl rfl rfl rfl
      · have HM := Lib.hid (peek_kind (l := ls s) (by rw [← HSZ.out]; exact h0) (by rw [HN0.out]; exact h4) (by rw [HN0.out]; exact h6))
        have n4 : ((c0.toNat : Int) / 16 != 4) = true := by simpa using h4
        have n6 : ((c0.toNat : Int) / 16 != 6) = true := by simpa using h6
        go_enter Try.func11, Try.ntmps11
        go_wp2
        exact bodyPost_ret (v := .tuple #[hdV 0 0 0 0, .int .i64 14]) (by simp [results, Try.results11, go_sem]) rfl (PkPost.of HM.out (hk.alloc _))
end Go.Proofs.Ytggokcakikkdgaa
