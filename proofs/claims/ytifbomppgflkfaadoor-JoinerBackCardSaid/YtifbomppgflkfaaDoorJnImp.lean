/-
  What package joiner's Feed and Bytes answer, and that the package's calls are what layer 16's statements ask of them.
-/
import Derived.Test.YtifbomppgflkfaaDoorJnR
import Derived.Test.YtifbomppgflkfaaDoorPkC
namespace Go.Proofs.YtifbomppgflkfaaDoor
open Go.RowKit Gf Pk Jn
set_option maxRecDepth 100000
set_option linter.unusedVariables false
theorem jrread_any {b : Nat} {pid ct : Int} {bd : ByteArray} {J : JS} {w : World} (HC : CsAt b (jrC pid (st J.hold) J.fol ct bd J.lost) w) (p : Pkt) (hz : J.hold.length ≤ 5000) (hp : p.body.size ≤ 1000) (hb : p.body.size ≠ 0) :
    Calls Tryd.prog 24 #[.pointer (some ⟨b, 0, none⟩), pkV p] w (JrPost w b pid ct bd (feedB J p.start (ls p.body) 0)) := by
  cases h : p.start with
  | false => have := jrread_n HC p hz hp h; rwa [h] at this
  | true => have := jrread_s HC p hz hp hb h; rwa [h] at this
def SeePost (w : World) (b : Nat) (pid : Int) (J : JS) (p : Pkt) (e : Ending) (w' : World) : Prop :=
  e = .returned (.int .i64 (gapE J p)) ∧ CsAt b (jrC pid (st (lookJ J p).hold) (lookJ J p).fol p.count p.body (lookJ J p).lost) w' ∧ Only b w w'
theorem jrsee_any {b : Nat} {pid ct : Int} {bd : ByteArray} {J : JS} {w : World} (H : CsAt b (jrC pid (st J.hold) J.fol ct bd J.lost) w) (HL : JrLast J ct bd) (p : Pkt) (hp : p.body.size ≤ 1000) (hlo : 0 ≤ J.lost ∧ J.lost ≤ 1000000) :
    Calls Tryd.prog 23 #[.pointer (some ⟨b, 0, none⟩), sgV p.count p.body] w (SeePost w b pid J p) := by
  unfold SeePost
  rcases HL with ⟨h1, h2, h3⟩ | ⟨⟨c0, b0⟩, h1, h2, h3, h4, h5, h6⟩
  · have hg : gap J p = false := by unfold gap; rw [h1]
    obtain ⟨e1, e2⟩ := seen_no hg
    rw [e1, e2]
    exact jrsee_0 (lo := J.lost) H hp ⟨h2, h3⟩
  · simp only at h2
    by_cases hc : p.count = (ct + 1) % 16
    · have hg : gap J p = false := by
        unfold gap; rw [h1]
        exact decide_eq_false (fun x => x (by rw [hc, h2]))
      obtain ⟨e1, e2⟩ := seen_no hg
      rw [e1, e2]
      exact jrsee_1 (lo := J.lost) H hp h6 ⟨h4, h5⟩ hc
    · have hg : gap J p = true := by
        unfold gap; rw [h1]
        exact decide_eq_true (by rw [h2] at hc; exact hc)
      obtain ⟨e1, e2⟩ := seen_gap hg
      rw [e1, e2]
      exact jrsee_2 (lo := J.lost) H hp h6 ⟨h4, h5⟩ hc hlo
theorem feedB_last (J : JS) (s : Bool) (b : List UInt8) (e : Int) : (feedB J s b e).1.last = J.last := by
  unfold feedB
  split
  · split <;> rfl
  · split <;> rfl
/-- What Feed answers. -/
def JfPost (w : World) (b : Nat) (pid : Int) (q : JS × List (List UInt8) × Int) (e : Ending) (w' : World) : Prop :=
  ∃ v, e = .returned (.tuple #[v, .int .i64 q.2.2]) ∧ OwnE rowT w' w.heap.size v q.2.1 ∧ (∃ ct bd, CsAt b (jrC pid (st q.1.hold) q.1.fol ct bd q.1.lost) w' ∧ JrLast q.1 ct bd) ∧ Only b w w'
theorem JfPost.of {w W : World} {b : Nat} {pid ct : Int} {bd h : ByteArray} {fl : Bool} {lo : Int} {q : JS × List (List UInt8) × Int} {J : JS} {out : List (List UInt8)} {e : Int} {v : Value} (h1 : q = (J, out, e)) (h2 : h = st J.hold) (h3 : fl = J.fol) (h4 : lo = J.lost)
    (ho : OwnE rowT W w.heap.size v out) (hj : CsAt b (jrC pid h fl ct bd lo) W) (hl : JrLast J ct bd) (k : Only b w W) : JfPost w b pid q (.returned (.tuple #[v, .int .i64 e])) W := by subst h1 h2 h3 h4; exact ⟨v, rfl, ho, ⟨ct, bd, hj, hl⟩, k⟩
set_option maxHeartbeats 1600000 in
theorem jrfeed_ck {b : Nat} {pid ct : Int} {bd : ByteArray} {J : JS} {w : World} (HC : CsAt b (jrC pid (st J.hold) J.fol ct bd J.lost) w) (HL : JrLast J ct bd) (p : Pkt) (hW : Wd w) (hz : J.hold.length ≤ 5000) (hp : p.body.size ≤ 1000) (hlo : 0 ≤ J.lost ∧ J.lost ≤ 1000000) (hc : ckP p ≠ 0) :
    Calls Tryd.prog 10 #[.pointer (some ⟨b, 0, none⟩), pkV p] w (JfPost w b pid (feed pid J p)) := by
  obtain ⟨X, hX⟩ : ∃ X, w.heap.size = X := ⟨_, rfl⟩
  obtain ⟨wA, hA⟩ : ∃ wX, w.alloc (.cells #[.int .i64 p.pid, .bool p.start, .int .i64 p.count, .bool p.bad, .string p.body] 32) = wX := ⟨_, rfl⟩
  have HPA := Lib.hid (show CsAt X (pkC p) wA by rw [← hX, ← hA]; exact CsAt.made w #[.int .i64 p.pid, .bool p.start, .int .i64 p.count, .bool p.bad, .string p.body] _ (by simp))
  have hkA : Keeps w wA := by rw [← hA]; exact (Keeps.refl w).alloc _
  have HJA := Lib.hid (HC.keeps hkA)
  have HOA := Lib.hid (show Only b w wA from Only.below hkA)
  have HBW := Lib.hid HC.old
  have HBX := Lib.hid (show b ≠ X by have := HC.old; omega)
  have HSZ := Lib.hid (show w.heap.size < wA.heap.size by rw [← hA, World.size_alloc]; exact Nat.lt_succ_self _)
  have HCK := Lib.hid (pkcheck_any p wA (hW.keeps hkA))
  clear hkA HC hW
  have HF := Lib.hid (show feed pid J p = (J, [], ckP p) by unfold feed; rw [if_pos hc])
  have hcb : (ckP p != 0) = true := by simpa using hc
  have HL := Lib.hid HL
  obtain ⟨r, hr⟩ : ∃ r, ckP p = r := ⟨_, rfl⟩
  rw [hr] at HCK HF hcb
  clear hc hr
  obtain ⟨pid', start, count, bad, body⟩ := p
  simp only at hA hp
  go_enter Tryd.func10, Tryd.ntmps10
  go_wp2_with (first | (refine wp_ldP (b := X) (off := 0) HPA.out.r rfl _ rfl rfl ?_) | (go_at_call 22; refine HCK.out.mono ?_; rintro _ w1 ⟨rfl, k1⟩; have HP1 := Lib.hid (HPA.out.keeps k1); have HJ1 := Lib.hid (HJA.out.keeps k1); have HO1 := Lib.hid (HOA.out.trans (Only.below k1)); have HS1 := Lib.hid (show w.heap.size < w1.heap.size from Nat.lt_of_lt_of_le HSZ.out (Below.size k1)); have HBY := Lib.hid (show b ≠ w1.heap.size by have := HBW.out; have := HS1.out; omega); clear k1; obtain ⟨Y, hY⟩ : ∃ Y, w1.heap.size = Y := ⟨_, rfl⟩; rw [hY] at HBY HS1; have p2 := HP1.out.cell 2 rfl; have p4 := HP1.out.cell 4 rfl))
  go_ret2
  exact JfPost.of HF.out rfl rfl rfl (OwnE.nil _ _) HJ1.out HL.out HO1.out
set_option maxHeartbeats 1600000 in
theorem jrfeed_kind {b : Nat} {pid ct : Int} {bd : ByteArray} {J : JS} {w : World} (HC : CsAt b (jrC pid (st J.hold) J.fol ct bd J.lost) w) (HL : JrLast J ct bd) (p : Pkt) (hW : Wd w) (hz : J.hold.length ≤ 5000) (hp : p.body.size ≤ 1000) (hlo : 0 ≤ J.lost ∧ J.lost ≤ 1000000) (hc : ckP p = 0) (hk : p.pid ≠ pid) :
    Calls Tryd.prog 10 #[.pointer (some ⟨b, 0, none⟩), pkV p] w (JfPost w b pid (feed pid J p)) := by
  obtain ⟨X, hX⟩ : ∃ X, w.heap.size = X := ⟨_, rfl⟩
  obtain ⟨wA, hA⟩ : ∃ wX, w.alloc (.cells #[.int .i64 p.pid, .bool p.start, .int .i64 p.count, .bool p.bad, .string p.body] 32) = wX := ⟨_, rfl⟩
  have HPA := Lib.hid (show CsAt X (pkC p) wA by rw [← hX, ← hA]; exact CsAt.made w #[.int .i64 p.pid, .bool p.start, .int .i64 p.count, .bool p.bad, .string p.body] _ (by simp))
  have hkA : Keeps w wA := by rw [← hA]; exact (Keeps.refl w).alloc _
  have HJA := Lib.hid (HC.keeps hkA)
  have HOA := Lib.hid (show Only b w wA from Only.below hkA)
  have HBW := Lib.hid HC.old
  have HBX := Lib.hid (show b ≠ X by have := HC.old; omega)
  have HSZ := Lib.hid (show w.heap.size < wA.heap.size by rw [← hA, World.size_alloc]; exact Nat.lt_succ_self _)
  have HCK := Lib.hid (pkcheck_any p wA (hW.keeps hkA))
  clear hkA HC hW
  have HF := Lib.hid (show feed pid J p = (J, [], 14) by unfold feed; rw [if_neg (by rw [hc]; exact fun x => x rfl), if_pos hk])
  have HL := Lib.hid HL
  rw [hc] at HCK
  clear hc
  obtain ⟨pid', start, count, bad, body⟩ := p
  simp only at hA hp hk
  have hkb : (pid' == pid) = false := by rw [beq_eq_false_iff_ne]; exact hk
  go_enter Tryd.func10, Tryd.ntmps10
  go_wp2_with (first | (refine wp_ldP (b := X) (off := 0) HPA.out.r rfl _ rfl rfl ?_) | (go_at_call 22; refine HCK.out.mono ?_; rintro _ w1 ⟨rfl, k1⟩; have HP1 := Lib.hid (HPA.out.keeps k1); have HJ1 := Lib.hid (HJA.out.keeps k1); have HO1 := Lib.hid (HOA.out.trans (Only.below k1)); have HS1 := Lib.hid (show w.heap.size < w1.heap.size from Nat.lt_of_lt_of_le HSZ.out (Below.size k1)); have HBY := Lib.hid (show b ≠ w1.heap.size by have := HBW.out; have := HS1.out; omega); clear k1; obtain ⟨Y, hY⟩ : ∃ Y, w1.heap.size = Y := ⟨_, rfl⟩; rw [hY] at HBY HS1; have p2 := HP1.out.cell 2 rfl; have p4 := HP1.out.cell 4 rfl))
  obtain ⟨wB, hB⟩ : ∃ wB, w1.alloc (.cells #[.int .i64 count, .string body] 54) = wB := ⟨_, rfl⟩
  rw [hB]
  have kB : Keeps w1 wB := by rw [← hB]; exact (Keeps.refl w1).alloc _
  have HY2 := Lib.hid (show CsAt Y (sgC count body) wB by rw [← hY, ← hB]; exact CsAt.made w1 #[.int .i64 count, .string body] _ (by simp))
  have HP2 := Lib.hid (HP1.out.keeps kB)
  have HJ2 := Lib.hid (HJ1.out.keeps kB)
  have HO2 := Lib.hid (HO1.out.trans (Only.below kB))
  clear hB kB hY p2 p4
  have p0 := HP2.out.cell 0 rfl
  have j0 := HJ2.out.cell 0 rfl
  go_quiet (fail)
  obtain ⟨w3, hw3⟩ : ∃ w, wB.drewN nq = w := ⟨_, rfl⟩
  have ew3 : Eqv wB w3 := by rw [← hw3]; exact Eqv.drewN _ _
  rw [hw3]
  have HP3 := Lib.hid (HP2.out.eqv ew3)
  have HJ3 := Lib.hid (HJ2.out.eqv ew3)
  have HO3 := Lib.hid (HO2.out.trans (Only.eqv ew3))
  have HY3 := Lib.hid (HY2.out.eqv ew3)
  clear hw3 ew3
  clear p0 j0
  go_wp2
  go_ret2
  exact JfPost.of HF.out rfl rfl rfl (OwnE.nil _ _) HJ3.out HL.out HO3.out
set_option maxHeartbeats 1600000 in
theorem jrfeed_none {b : Nat} {pid ct : Int} {bd : ByteArray} {J : JS} {w : World} (HC : CsAt b (jrC pid (st J.hold) J.fol ct bd J.lost) w) (HL : JrLast J ct bd) (p : Pkt) (hW : Wd w) (hz : J.hold.length ≤ 5000) (hp : p.body.size ≤ 1000) (hlo : 0 ≤ J.lost ∧ J.lost ≤ 1000000) (hc : ckP p = 0) (hk : p.pid = pid) (hb : p.body.size = 0) :
    Calls Tryd.prog 10 #[.pointer (some ⟨b, 0, none⟩), pkV p] w (JfPost w b pid (feed pid J p)) := by
  obtain ⟨X, hX⟩ : ∃ X, w.heap.size = X := ⟨_, rfl⟩
  obtain ⟨wA, hA⟩ : ∃ wX, w.alloc (.cells #[.int .i64 p.pid, .bool p.start, .int .i64 p.count, .bool p.bad, .string p.body] 32) = wX := ⟨_, rfl⟩
  have HPA := Lib.hid (show CsAt X (pkC p) wA by rw [← hX, ← hA]; exact CsAt.made w #[.int .i64 p.pid, .bool p.start, .int .i64 p.count, .bool p.bad, .string p.body] _ (by simp))
  have hkA : Keeps w wA := by rw [← hA]; exact (Keeps.refl w).alloc _
  have HJA := Lib.hid (HC.keeps hkA)
  have HOA := Lib.hid (show Only b w wA from Only.below hkA)
  have HBW := Lib.hid HC.old
  have HBX := Lib.hid (show b ≠ X by have := HC.old; omega)
  have HSZ := Lib.hid (show w.heap.size < wA.heap.size by rw [← hA, World.size_alloc]; exact Nat.lt_succ_self _)
  have HCK := Lib.hid (pkcheck_any p wA (hW.keeps hkA))
  clear hkA HC hW
  have HF := Lib.hid (show feed pid J p = (J, [], 0) by unfold feed; rw [if_neg (by rw [hc]; exact fun x => x rfl), if_neg (fun x => x hk), if_pos (.inl hb)])
  have HL := Lib.hid HL
  rw [hc] at HCK
  clear hc
  obtain ⟨pid', start, count, bad, body⟩ := p
  simp only at hA hp hk hb
  subst hk
  have ht : body.toList = [] := by rw [ls_toList]; exact List.length_eq_zero_iff.1 (by rw [← ls_size]; exact hb)
  go_enter Tryd.func10, Tryd.ntmps10
  go_wp2_with (first | (refine wp_ldP (b := X) (off := 0) HPA.out.r rfl _ rfl rfl ?_) | (go_at_call 22; refine HCK.out.mono ?_; rintro _ w1 ⟨rfl, k1⟩; have HP1 := Lib.hid (HPA.out.keeps k1); have HJ1 := Lib.hid (HJA.out.keeps k1); have HO1 := Lib.hid (HOA.out.trans (Only.below k1)); have HS1 := Lib.hid (show w.heap.size < w1.heap.size from Nat.lt_of_lt_of_le HSZ.out (Below.size k1)); have HBY := Lib.hid (show b ≠ w1.heap.size by have := HBW.out; have := HS1.out; omega); clear k1; obtain ⟨Y, hY⟩ : ∃ Y, w1.heap.size = Y := ⟨_, rfl⟩; rw [hY] at HBY HS1; have p2 := HP1.out.cell 2 rfl; have p4 := HP1.out.cell 4 rfl))
  obtain ⟨wB, hB⟩ : ∃ wB, w1.alloc (.cells #[.int .i64 count, .string body] 54) = wB := ⟨_, rfl⟩
  rw [hB]
  have kB : Keeps w1 wB := by rw [← hB]; exact (Keeps.refl w1).alloc _
  have HY2 := Lib.hid (show CsAt Y (sgC count body) wB by rw [← hY, ← hB]; exact CsAt.made w1 #[.int .i64 count, .string body] _ (by simp))
  have HP2 := Lib.hid (HP1.out.keeps kB)
  have HJ2 := Lib.hid (HJ1.out.keeps kB)
  have HO2 := Lib.hid (HO1.out.trans (Only.below kB))
  clear hB kB hY p2 p4
  have p0 := HP2.out.cell 0 rfl
  have j0 := HJ2.out.cell 0 rfl
  go_quiet (fail)
  obtain ⟨w3, hw3⟩ : ∃ w, wB.drewN nq = w := ⟨_, rfl⟩
  have ew3 : Eqv wB w3 := by rw [← hw3]; exact Eqv.drewN _ _
  rw [hw3]
  have HP3 := Lib.hid (HP2.out.eqv ew3)
  have HJ3 := Lib.hid (HJ2.out.eqv ew3)
  have HO3 := Lib.hid (HO2.out.trans (Only.eqv ew3))
  have HY3 := Lib.hid (HY2.out.eqv ew3)
  clear hw3 ew3
  clear p0 j0
  have p4 := HP3.out.cell 4 rfl
  go_wp2
  go_ret2
  exact JfPost.of HF.out rfl rfl rfl (OwnE.nil _ _) HJ3.out HL.out HO3.out
set_option maxHeartbeats 1600000 in
theorem jrfeed_again {b : Nat} {pid ct : Int} {bd : ByteArray} {J : JS} {w : World} (HC : CsAt b (jrC pid (st J.hold) J.fol ct bd J.lost) w) (HL : JrLast J ct bd) (p : Pkt) (hW : Wd w) (hz : J.hold.length ≤ 5000) (hp : p.body.size ≤ 1000) (hlo : 0 ≤ J.lost ∧ J.lost ≤ 1000000) (hc : ckP p = 0) (hk : p.pid = pid) (hb : p.body.size ≠ 0) (ha : again J p = true) :
    Calls Tryd.prog 10 #[.pointer (some ⟨b, 0, none⟩), pkV p] w (JfPost w b pid (feed pid J p)) := by
  obtain ⟨X, hX⟩ : ∃ X, w.heap.size = X := ⟨_, rfl⟩
  obtain ⟨wA, hA⟩ : ∃ wX, w.alloc (.cells #[.int .i64 p.pid, .bool p.start, .int .i64 p.count, .bool p.bad, .string p.body] 32) = wX := ⟨_, rfl⟩
  have HPA := Lib.hid (show CsAt X (pkC p) wA by rw [← hX, ← hA]; exact CsAt.made w #[.int .i64 p.pid, .bool p.start, .int .i64 p.count, .bool p.bad, .string p.body] _ (by simp))
  have hkA : Keeps w wA := by rw [← hA]; exact (Keeps.refl w).alloc _
  have HJA := Lib.hid (HC.keeps hkA)
  have HOA := Lib.hid (show Only b w wA from Only.below hkA)
  have HBW := Lib.hid HC.old
  have HBX := Lib.hid (show b ≠ X by have := HC.old; omega)
  have HSZ := Lib.hid (show w.heap.size < wA.heap.size by rw [← hA, World.size_alloc]; exact Nat.lt_succ_self _)
  have HCK := Lib.hid (pkcheck_any p wA (hW.keeps hkA))
  clear hkA HC hW
  have HF := Lib.hid (show feed pid J p = (J, [], 0) by unfold feed; rw [if_neg (by rw [hc]; exact fun x => x rfl), if_neg (fun x => x hk), if_pos (.inr ha)])
  have hq : ct = p.count ∧ bd = p.body := by
    rcases HL with ⟨h1, _⟩ | ⟨⟨c0, b0⟩, h1, h2, h3, _⟩
    · unfold again at ha; rw [h1] at ha; cases ha
    · unfold again at ha; rw [h1] at ha
      obtain ⟨a1, a2⟩ := of_decide_eq_true ha
      exact ⟨h2.trans a1.symm, by rw [← st_ls bd, h3, ← a2, st_ls]⟩
  have HL := Lib.hid HL
  rw [hc] at HCK
  clear hc ha
  obtain ⟨pid', start, count, bad, body⟩ := p
  simp only at hA hp hk hb hq
  obtain ⟨rfl, rfl⟩ := hq
  subst hk
  have ht : (bd.toList == []) = false := by
    rw [beq_eq_false_iff_ne, ls_toList]; intro e
    have h3 : bd.size = 0 := by rw [ls_size, e]; rfl
    exact hb h3
  go_enter Tryd.func10, Tryd.ntmps10
  go_wp2_with (first | (refine wp_ldP (b := X) (off := 0) HPA.out.r rfl _ rfl rfl ?_) | (go_at_call 22; refine HCK.out.mono ?_; rintro _ w1 ⟨rfl, k1⟩; have HP1 := Lib.hid (HPA.out.keeps k1); have HJ1 := Lib.hid (HJA.out.keeps k1); have HO1 := Lib.hid (HOA.out.trans (Only.below k1)); have HS1 := Lib.hid (show w.heap.size < w1.heap.size from Nat.lt_of_lt_of_le HSZ.out (Below.size k1)); have HBY := Lib.hid (show b ≠ w1.heap.size by have := HBW.out; have := HS1.out; omega); clear k1; obtain ⟨Y, hY⟩ : ∃ Y, w1.heap.size = Y := ⟨_, rfl⟩; rw [hY] at HBY HS1; have p2 := HP1.out.cell 2 rfl; have p4 := HP1.out.cell 4 rfl))
  obtain ⟨wB, hB⟩ : ∃ wB, w1.alloc (.cells #[.int .i64 ct, .string bd] 54) = wB := ⟨_, rfl⟩
  rw [hB]
  have kB : Keeps w1 wB := by rw [← hB]; exact (Keeps.refl w1).alloc _
  have HY2 := Lib.hid (show CsAt Y (sgC ct bd) wB by rw [← hY, ← hB]; exact CsAt.made w1 #[.int .i64 ct, .string bd] _ (by simp))
  have HP2 := Lib.hid (HP1.out.keeps kB)
  have HJ2 := Lib.hid (HJ1.out.keeps kB)
  have HO2 := Lib.hid (HO1.out.trans (Only.below kB))
  clear hB kB hY p2 p4
  have p0 := HP2.out.cell 0 rfl
  have j0 := HJ2.out.cell 0 rfl
  go_quiet (fail)
  obtain ⟨w3, hw3⟩ : ∃ w, wB.drewN nq = w := ⟨_, rfl⟩
  have ew3 : Eqv wB w3 := by rw [← hw3]; exact Eqv.drewN _ _
  rw [hw3]
  have HP3 := Lib.hid (HP2.out.eqv ew3)
  have HJ3 := Lib.hid (HJ2.out.eqv ew3)
  have HO3 := Lib.hid (HO2.out.trans (Only.eqv ew3))
  have HY3 := Lib.hid (HY2.out.eqv ew3)
  clear hw3 ew3
  clear p0 j0
  have p4 := HP3.out.cell 4 rfl
  have y0 := HY3.out.cell 0 rfl
  have y1 := HY3.out.cell 1 rfl
  have j3 := HJ3.out.cell 3 rfl
  have j4 := HJ3.out.cell 4 rfl
  go_wp2
  go_quiet (fail)
  obtain ⟨w4, hw4⟩ : ∃ w, w3.drewN nq = w := ⟨_, rfl⟩
  have ew4 : Eqv w3 w4 := by rw [← hw4]; exact Eqv.drewN _ _
  rw [hw4]
  have HP4 := Lib.hid (HP3.out.eqv ew4)
  have HJ4 := Lib.hid (HJ3.out.eqv ew4)
  have HO4 := Lib.hid (HO3.out.trans (Only.eqv ew4))
  have HY4 := Lib.hid (HY3.out.eqv ew4)
  clear hw4 ew4
  clear p4 y0 y1 j3 j4
  have p3 := HP4.out.cell 3 rfl
  go_wp2
  go_ret2
  exact JfPost.of HF.out rfl rfl rfl (OwnE.nil _ _) HJ4.out HL.out HO4.out
set_option maxHeartbeats 1600000 in
theorem jrfeed_bad_a {b : Nat} {pid ct : Int} {bd : ByteArray} {J : JS} {w : World} (HC : CsAt b (jrC pid (st J.hold) J.fol ct bd J.lost) w) (HL : JrLast J ct bd) (p : Pkt) (hW : Wd w) (hz : J.hold.length ≤ 5000) (hp : p.body.size ≤ 1000) (hlo : 0 ≤ J.lost ∧ J.lost ≤ 1000000) (hc : ckP p = 0) (hk : p.pid = pid) (hb : p.body.size ≠ 0) (hbad : p.bad = true) (ha : again J p = false) (hq : ls p.body ≠ ls bd) :
    Calls Tryd.prog 10 #[.pointer (some ⟨b, 0, none⟩), pkV p] w (JfPost w b pid (feed pid J p)) := by
  obtain ⟨X, hX⟩ : ∃ X, w.heap.size = X := ⟨_, rfl⟩
  obtain ⟨wA, hA⟩ : ∃ wX, w.alloc (.cells #[.int .i64 p.pid, .bool p.start, .int .i64 p.count, .bool p.bad, .string p.body] 32) = wX := ⟨_, rfl⟩
  have HPA := Lib.hid (show CsAt X (pkC p) wA by rw [← hX, ← hA]; exact CsAt.made w #[.int .i64 p.pid, .bool p.start, .int .i64 p.count, .bool p.bad, .string p.body] _ (by simp))
  have hkA : Keeps w wA := by rw [← hA]; exact (Keeps.refl w).alloc _
  have HJA := Lib.hid (HC.keeps hkA)
  have HOA := Lib.hid (show Only b w wA from Only.below hkA)
  have HBW := Lib.hid HC.old
  have HBX := Lib.hid (show b ≠ X by have := HC.old; omega)
  have HSZ := Lib.hid (show w.heap.size < wA.heap.size by rw [← hA, World.size_alloc]; exact Nat.lt_succ_self _)
  have HCK := Lib.hid (pkcheck_any p wA (hW.keeps hkA))
  clear hkA HC hW
  have HF := Lib.hid (show feed pid J p = (⟨[], false, none, J.lost + 1⟩, [], 21) by
    unfold feed; rw [if_neg (by rw [hc]; exact fun x => x rfl), if_neg (fun x => x hk), if_neg (fun x => x.elim hb (fun y => by rw [ha] at y; cases y)), if_pos hbad])
  rw [hc] at HCK
  clear hc ha HL
  obtain ⟨pid', start, count, bad, body⟩ := p
  simp only at hA hp hk hb hbad hq
  subst hk hbad
  have hbb : (body.toList == bd.toList) = false := by rw [beq_eq_false_iff_ne, ls_toList, ls_toList]; exact hq
  clear hq
  have ht : (body.toList == []) = false := by
    rw [beq_eq_false_iff_ne, ls_toList]; intro e
    have h3 : body.size = 0 := by rw [ls_size, e]; rfl
    exact hb h3
  obtain ⟨lost, hlost⟩ : ∃ n, J.lost = n := ⟨_, rfl⟩
  rw [hlost] at hlo HJA HF
  clear hlost
  have wr2 := wrapI (a := lost + 1) (by omega) (by omega)
  go_enter Tryd.func10, Tryd.ntmps10
  go_wp2_with (first | (refine wp_ldP (b := X) (off := 0) HPA.out.r rfl _ rfl rfl ?_) | (go_at_call 22; refine HCK.out.mono ?_; rintro _ w1 ⟨rfl, k1⟩; have HP1 := Lib.hid (HPA.out.keeps k1); have HJ1 := Lib.hid (HJA.out.keeps k1); have HO1 := Lib.hid (HOA.out.trans (Only.below k1)); have HS1 := Lib.hid (show w.heap.size < w1.heap.size from Nat.lt_of_lt_of_le HSZ.out (Below.size k1)); have HBY := Lib.hid (show b ≠ w1.heap.size by have := HBW.out; have := HS1.out; omega); clear k1; obtain ⟨Y, hY⟩ : ∃ Y, w1.heap.size = Y := ⟨_, rfl⟩; rw [hY] at HBY HS1; have p2 := HP1.out.cell 2 rfl; have p4 := HP1.out.cell 4 rfl))
  obtain ⟨wB, hB⟩ : ∃ wB, w1.alloc (.cells #[.int .i64 count, .string body] 54) = wB := ⟨_, rfl⟩
  rw [hB]
  have kB : Keeps w1 wB := by rw [← hB]; exact (Keeps.refl w1).alloc _
  have HY2 := Lib.hid (show CsAt Y (sgC count body) wB by rw [← hY, ← hB]; exact CsAt.made w1 #[.int .i64 count, .string body] _ (by simp))
  have HP2 := Lib.hid (HP1.out.keeps kB)
  have HJ2 := Lib.hid (HJ1.out.keeps kB)
  have HO2 := Lib.hid (HO1.out.trans (Only.below kB))
  clear hB kB hY p2 p4
  have p0 := HP2.out.cell 0 rfl
  have j0 := HJ2.out.cell 0 rfl
  go_quiet (fail)
  obtain ⟨w3, hw3⟩ : ∃ w, wB.drewN nq = w := ⟨_, rfl⟩
  have ew3 : Eqv wB w3 := by rw [← hw3]; exact Eqv.drewN _ _
  rw [hw3]
  have HP3 := Lib.hid (HP2.out.eqv ew3)
  have HJ3 := Lib.hid (HJ2.out.eqv ew3)
  have HO3 := Lib.hid (HO2.out.trans (Only.eqv ew3))
  have HY3 := Lib.hid (HY2.out.eqv ew3)
  clear hw3 ew3
  clear p0 j0
  have p4 := HP3.out.cell 4 rfl
  have y0 := HY3.out.cell 0 rfl
  have y1 := HY3.out.cell 1 rfl
  have j3 := HJ3.out.cell 3 rfl
  have j4 := HJ3.out.cell 4 rfl
  go_wp2
  go_quiet (fail)
  obtain ⟨w4, hw4⟩ : ∃ w, w3.drewN nq = w := ⟨_, rfl⟩
  have ew4 : Eqv w3 w4 := by rw [← hw4]; exact Eqv.drewN _ _
  rw [hw4]
  have HP4 := Lib.hid (HP3.out.eqv ew4)
  have HJ4 := Lib.hid (HJ3.out.eqv ew4)
  have HO4 := Lib.hid (HO3.out.trans (Only.eqv ew4))
  have HY4 := Lib.hid (HY3.out.eqv ew4)
  clear hw4 ew4
  clear p4 y0 y1 j3 j4
  have p3 := HP4.out.cell 3 rfl
  have j5 := HJ4.out.cell 5 rfl
  have g5 := HJ4.out.fz 5 (by show 5 < 6; decide)
  go_wp2_with (go_at_call 16; refine (jrdrop_any (HJ4.out.set 5 (by show 5 < 6; decide) (.int .i64 (lost + 1)))).mono ?_; rintro _ w6 ⟨⟨v6, rfl⟩, c6, o6⟩; have HC6 := Lib.hid c6; have HO6 := Lib.hid ((HO4.out.trans (Only.setCell w4 ⟨b, 5, none⟩ (.int .i64 (lost + 1)))).trans o6); clear c6 o6)
  go_ret2
  exact JfPost.of HF.out rfl rfl rfl (OwnE.nil _ _) HC6.out (.inl ⟨rfl, rfl, rfl⟩) HO6.out
set_option maxHeartbeats 1600000 in
theorem jrfeed_bad_b {b : Nat} {pid ct : Int} {bd : ByteArray} {J : JS} {w : World} (HC : CsAt b (jrC pid (st J.hold) J.fol ct bd J.lost) w) (HL : JrLast J ct bd) (p : Pkt) (hW : Wd w) (hz : J.hold.length ≤ 5000) (hp : p.body.size ≤ 1000) (hlo : 0 ≤ J.lost ∧ J.lost ≤ 1000000) (hc : ckP p = 0) (hk : p.pid = pid) (hb : p.body.size ≠ 0) (hbad : p.bad = true) (ha : again J p = false) (hq : p.body = bd ∧ p.count ≠ ct) :
    Calls Tryd.prog 10 #[.pointer (some ⟨b, 0, none⟩), pkV p] w (JfPost w b pid (feed pid J p)) := by
  obtain ⟨X, hX⟩ : ∃ X, w.heap.size = X := ⟨_, rfl⟩
  obtain ⟨wA, hA⟩ : ∃ wX, w.alloc (.cells #[.int .i64 p.pid, .bool p.start, .int .i64 p.count, .bool p.bad, .string p.body] 32) = wX := ⟨_, rfl⟩
  have HPA := Lib.hid (show CsAt X (pkC p) wA by rw [← hX, ← hA]; exact CsAt.made w #[.int .i64 p.pid, .bool p.start, .int .i64 p.count, .bool p.bad, .string p.body] _ (by simp))
  have hkA : Keeps w wA := by rw [← hA]; exact (Keeps.refl w).alloc _
  have HJA := Lib.hid (HC.keeps hkA)
  have HOA := Lib.hid (show Only b w wA from Only.below hkA)
  have HBW := Lib.hid HC.old
  have HBX := Lib.hid (show b ≠ X by have := HC.old; omega)
  have HSZ := Lib.hid (show w.heap.size < wA.heap.size by rw [← hA, World.size_alloc]; exact Nat.lt_succ_self _)
  have HCK := Lib.hid (pkcheck_any p wA (hW.keeps hkA))
  clear hkA HC hW
  have HF := Lib.hid (show feed pid J p = (⟨[], false, none, J.lost + 1⟩, [], 21) by
    unfold feed; rw [if_neg (by rw [hc]; exact fun x => x rfl), if_neg (fun x => x hk), if_neg (fun x => x.elim hb (fun y => by rw [ha] at y; cases y)), if_pos hbad])
  rw [hc] at HCK
  clear hc ha HL
  obtain ⟨pid', start, count, bad, body⟩ := p
  simp only at hA hp hk hb hbad hq
  subst hk hbad
  obtain ⟨hq1, hq2⟩ := hq
  subst hq1
  have hcc : (count == ct) = false := by rw [beq_eq_false_iff_ne]; exact hq2
  clear hq2
  have ht : (body.toList == []) = false := by
    rw [beq_eq_false_iff_ne, ls_toList]; intro e
    have h3 : body.size = 0 := by rw [ls_size, e]; rfl
    exact hb h3
  obtain ⟨lost, hlost⟩ : ∃ n, J.lost = n := ⟨_, rfl⟩
  rw [hlost] at hlo HJA HF
  clear hlost
  have wr2 := wrapI (a := lost + 1) (by omega) (by omega)
  go_enter Tryd.func10, Tryd.ntmps10
  go_wp2_with (first | (refine wp_ldP (b := X) (off := 0) HPA.out.r rfl _ rfl rfl ?_) | (go_at_call 22; refine HCK.out.mono ?_; rintro _ w1 ⟨rfl, k1⟩; have HP1 := Lib.hid (HPA.out.keeps k1); have HJ1 := Lib.hid (HJA.out.keeps k1); have HO1 := Lib.hid (HOA.out.trans (Only.below k1)); have HS1 := Lib.hid (show w.heap.size < w1.heap.size from Nat.lt_of_lt_of_le HSZ.out (Below.size k1)); have HBY := Lib.hid (show b ≠ w1.heap.size by have := HBW.out; have := HS1.out; omega); clear k1; obtain ⟨Y, hY⟩ : ∃ Y, w1.heap.size = Y := ⟨_, rfl⟩; rw [hY] at HBY HS1; have p2 := HP1.out.cell 2 rfl; have p4 := HP1.out.cell 4 rfl))
  obtain ⟨wB, hB⟩ : ∃ wB, w1.alloc (.cells #[.int .i64 count, .string body] 54) = wB := ⟨_, rfl⟩
  rw [hB]
  have kB : Keeps w1 wB := by rw [← hB]; exact (Keeps.refl w1).alloc _
  have HY2 := Lib.hid (show CsAt Y (sgC count body) wB by rw [← hY, ← hB]; exact CsAt.made w1 #[.int .i64 count, .string body] _ (by simp))
  have HP2 := Lib.hid (HP1.out.keeps kB)
  have HJ2 := Lib.hid (HJ1.out.keeps kB)
  have HO2 := Lib.hid (HO1.out.trans (Only.below kB))
  clear hB kB hY p2 p4
  have p0 := HP2.out.cell 0 rfl
  have j0 := HJ2.out.cell 0 rfl
  go_quiet (fail)
  obtain ⟨w3, hw3⟩ : ∃ w, wB.drewN nq = w := ⟨_, rfl⟩
  have ew3 : Eqv wB w3 := by rw [← hw3]; exact Eqv.drewN _ _
  rw [hw3]
  have HP3 := Lib.hid (HP2.out.eqv ew3)
  have HJ3 := Lib.hid (HJ2.out.eqv ew3)
  have HO3 := Lib.hid (HO2.out.trans (Only.eqv ew3))
  have HY3 := Lib.hid (HY2.out.eqv ew3)
  clear hw3 ew3
  clear p0 j0
  have p4 := HP3.out.cell 4 rfl
  have y0 := HY3.out.cell 0 rfl
  have y1 := HY3.out.cell 1 rfl
  have j3 := HJ3.out.cell 3 rfl
  have j4 := HJ3.out.cell 4 rfl
  go_wp2
  go_quiet (fail)
  obtain ⟨w4, hw4⟩ : ∃ w, w3.drewN nq = w := ⟨_, rfl⟩
  have ew4 : Eqv w3 w4 := by rw [← hw4]; exact Eqv.drewN _ _
  rw [hw4]
  have HP4 := Lib.hid (HP3.out.eqv ew4)
  have HJ4 := Lib.hid (HJ3.out.eqv ew4)
  have HO4 := Lib.hid (HO3.out.trans (Only.eqv ew4))
  have HY4 := Lib.hid (HY3.out.eqv ew4)
  clear hw4 ew4
  clear p4 y0 y1 j3 j4
  have p3 := HP4.out.cell 3 rfl
  have j5 := HJ4.out.cell 5 rfl
  have g5 := HJ4.out.fz 5 (by show 5 < 6; decide)
  go_wp2_with (go_at_call 16; refine (jrdrop_any (HJ4.out.set 5 (by show 5 < 6; decide) (.int .i64 (lost + 1)))).mono ?_; rintro _ w6 ⟨⟨v6, rfl⟩, c6, o6⟩; have HC6 := Lib.hid c6; have HO6 := Lib.hid ((HO4.out.trans (Only.setCell w4 ⟨b, 5, none⟩ (.int .i64 (lost + 1)))).trans o6); clear c6 o6)
  go_ret2
  exact JfPost.of HF.out rfl rfl rfl (OwnE.nil _ _) HC6.out (.inl ⟨rfl, rfl, rfl⟩) HO6.out
set_option maxHeartbeats 1600000 in
theorem jrfeed_go_a {b : Nat} {pid ct : Int} {bd : ByteArray} {J : JS} {w : World} (HC : CsAt b (jrC pid (st J.hold) J.fol ct bd J.lost) w) (HL : JrLast J ct bd) (p : Pkt) (hW : Wd w) (hz : J.hold.length ≤ 5000) (hp : p.body.size ≤ 1000) (hlo : 0 ≤ J.lost ∧ J.lost ≤ 1000000) (hc : ckP p = 0) (hk : p.pid = pid) (hb : p.body.size ≠ 0) (hbad : p.bad = false) (ha : again J p = false) (hq : ls p.body ≠ ls bd) :
    Calls Tryd.prog 10 #[.pointer (some ⟨b, 0, none⟩), pkV p] w (JfPost w b pid (feed pid J p)) := by
  obtain ⟨X, hX⟩ : ∃ X, w.heap.size = X := ⟨_, rfl⟩
  obtain ⟨wA, hA⟩ : ∃ wX, w.alloc (.cells #[.int .i64 p.pid, .bool p.start, .int .i64 p.count, .bool p.bad, .string p.body] 32) = wX := ⟨_, rfl⟩
  have HPA := Lib.hid (show CsAt X (pkC p) wA by rw [← hX, ← hA]; exact CsAt.made w #[.int .i64 p.pid, .bool p.start, .int .i64 p.count, .bool p.bad, .string p.body] _ (by simp))
  have hkA : Keeps w wA := by rw [← hA]; exact (Keeps.refl w).alloc _
  have HJA := Lib.hid (HC.keeps hkA)
  have HOA := Lib.hid (show Only b w wA from Only.below hkA)
  have HBW := Lib.hid HC.old
  have HBX := Lib.hid (show b ≠ X by have := HC.old; omega)
  have HSZ := Lib.hid (show w.heap.size < wA.heap.size by rw [← hA, World.size_alloc]; exact Nat.lt_succ_self _)
  have HCK := Lib.hid (pkcheck_any p wA (hW.keeps hkA))
  clear hkA HC hW
  have HF := feed_go hc hk hb ha hbad
  rw [feedB_err] at HF
  have hrng := (ckP_good hc).1.2
  have hlast := feedB_last (lookJ J p) p.start (ls p.body) 0
  have hlk : (lookJ J p).last = some (p.count, ls p.body) := by unfold lookJ; split <;> rfl
  have hlh : (lookJ J p).hold.length ≤ 5000 := by unfold lookJ; split <;> first | exact Nat.zero_le _ | exact hz
  rw [hlk] at hlast
  have HSE := Lib.hid (fun W (h : CsAt b (jrC pid (st J.hold) J.fol ct bd J.lost) W) => jrsee_any h HL p hp hlo)
  have HRD := Lib.hid (fun W (h : CsAt b (jrC pid (st (lookJ J p).hold) (lookJ J p).fol p.count p.body (lookJ J p).lost) W) => jrread_any h p hlh hp hb)
  obtain ⟨⟨J2, out, e2⟩, hq2⟩ : ∃ q, feedB (lookJ J p) p.start (ls p.body) 0 = q := ⟨_, rfl⟩
  rw [hq2] at HRD HF hlast
  simp only at HF hlast
  unfold SeePost at HSE
  unfold JrPost at HRD
  simp only at HRD
  obtain ⟨ge, hge⟩ : ∃ g, gapE J p = g := ⟨_, rfl⟩
  rw [hge] at HF HSE
  have HLL := Lib.hid (show JrLast J2 p.count p.body from .inr ⟨_, hlast, rfl, rfl, hrng.1, hrng.2, hb⟩)
  obtain ⟨lk, hlkk⟩ : ∃ l, lookJ J p = l := ⟨_, rfl⟩
  rw [hlkk] at HSE HRD
  have HF := Lib.hid HF
  rw [hc] at HCK
  clear hc ha HL hq2 hge hlast hlk hlh hlkk
  obtain ⟨pid', start, count, bad, body⟩ := p
  simp only at hA hp hk hb hbad hq HSE HRD HLL hrng
  subst hk hbad
  have hbb : (body.toList == bd.toList) = false := by rw [beq_eq_false_iff_ne, ls_toList, ls_toList]; exact hq
  clear hq
  have ht : (body.toList == []) = false := by
    rw [beq_eq_false_iff_ne, ls_toList]; intro e
    have h3 : body.size = 0 := by rw [ls_size, e]; rfl
    exact hb h3
  clear hrng
  by_cases h0 : e2 = 0
  · skip
    have HE0 := Lib.hid h0
    have hbe : (e2 == 0) = true := by (rw [beq_iff_eq]; exact h0)
    clear h0
    go_enter Tryd.func10, Tryd.ntmps10
    go_wp2_with (first | (refine wp_ldP (b := X) (off := 0) HPA.out.r rfl _ rfl rfl ?_) | (go_at_call 22; refine HCK.out.mono ?_; rintro _ w1 ⟨rfl, k1⟩; have HP1 := Lib.hid (HPA.out.keeps k1); have HJ1 := Lib.hid (HJA.out.keeps k1); have HO1 := Lib.hid (HOA.out.trans (Only.below k1)); have HS1 := Lib.hid (show w.heap.size < w1.heap.size from Nat.lt_of_lt_of_le HSZ.out (Below.size k1)); have HBY := Lib.hid (show b ≠ w1.heap.size by have := HBW.out; have := HS1.out; omega); clear k1; obtain ⟨Y, hY⟩ : ∃ Y, w1.heap.size = Y := ⟨_, rfl⟩; rw [hY] at HBY HS1; have p2 := HP1.out.cell 2 rfl; have p4 := HP1.out.cell 4 rfl))
    obtain ⟨wB, hB⟩ : ∃ wB, w1.alloc (.cells #[.int .i64 count, .string body] 54) = wB := ⟨_, rfl⟩
    rw [hB]
    have kB : Keeps w1 wB := by rw [← hB]; exact (Keeps.refl w1).alloc _
    have HY2 := Lib.hid (show CsAt Y (sgC count body) wB by rw [← hY, ← hB]; exact CsAt.made w1 #[.int .i64 count, .string body] _ (by simp))
    have HP2 := Lib.hid (HP1.out.keeps kB)
    have HJ2 := Lib.hid (HJ1.out.keeps kB)
    have HO2 := Lib.hid (HO1.out.trans (Only.below kB))
    clear hB kB hY p2 p4
    have p0 := HP2.out.cell 0 rfl
    have j0 := HJ2.out.cell 0 rfl
    go_quiet (fail)
    obtain ⟨w3, hw3⟩ : ∃ w, wB.drewN nq = w := ⟨_, rfl⟩
    have ew3 : Eqv wB w3 := by rw [← hw3]; exact Eqv.drewN _ _
    rw [hw3]
    have HP3 := Lib.hid (HP2.out.eqv ew3)
    have HJ3 := Lib.hid (HJ2.out.eqv ew3)
    have HO3 := Lib.hid (HO2.out.trans (Only.eqv ew3))
    have HY3 := Lib.hid (HY2.out.eqv ew3)
    clear hw3 ew3
    clear p0 j0
    have p4 := HP3.out.cell 4 rfl
    have y0 := HY3.out.cell 0 rfl
    have y1 := HY3.out.cell 1 rfl
    have j3 := HJ3.out.cell 3 rfl
    have j4 := HJ3.out.cell 4 rfl
    go_wp2
    go_quiet (fail)
    obtain ⟨w4, hw4⟩ : ∃ w, w3.drewN nq = w := ⟨_, rfl⟩
    have ew4 : Eqv w3 w4 := by rw [← hw4]; exact Eqv.drewN _ _
    rw [hw4]
    have HP4 := Lib.hid (HP3.out.eqv ew4)
    have HJ4 := Lib.hid (HJ3.out.eqv ew4)
    have HO4 := Lib.hid (HO3.out.trans (Only.eqv ew4))
    have HY4 := Lib.hid (HY3.out.eqv ew4)
    clear hw4 ew4
    clear p4 y0 y1 j3 j4
    have p3 := HP4.out.cell 3 rfl
    have y5 := HY4.out.r
    go_wp2_with (first | (refine wp_ldG (b := Y) (off := 0) HY4.out.r rfl _ rfl rfl ?_) | (go_at_call 23; refine (HSE.out _ HJ4.out).mono ?_; rintro _ w6 ⟨rfl, c6, o6⟩; have HC6 := Lib.hid c6; have HO6 := Lib.hid (HO4.out.trans o6); have HP6 := Lib.hid (HP4.out.only (Ne.symm HBX.out) o6); have HS6 := Lib.hid HO6.out.size; clear c6 o6) | (refine wp_ldP (b := X) (off := 0) HP6.out.r rfl _ rfl rfl ?_) | (go_at_call 24; refine (HRD.out _ HC6.out).mono ?_; rintro _ w7 ⟨v7, rfl, o7, c7, k7⟩; have HW7 := Lib.hid (o7.lower HS6.out); have HC7 := Lib.hid c7; have HO7 := Lib.hid (HO6.out.trans k7); clear o7 c7 k7))
    go_ret2
    exact JfPost.of (HF.out.trans (by rw [if_pos HE0.out])) rfl rfl rfl HW7.out HC7.out HLL.out HO7.out
  · skip
    have HE0 := Lib.hid h0
    have hbe : (e2 == 0) = false := by (rw [beq_eq_false_iff_ne]; exact h0)
    clear h0
    go_enter Tryd.func10, Tryd.ntmps10
    go_wp2_with (first | (refine wp_ldP (b := X) (off := 0) HPA.out.r rfl _ rfl rfl ?_) | (go_at_call 22; refine HCK.out.mono ?_; rintro _ w1 ⟨rfl, k1⟩; have HP1 := Lib.hid (HPA.out.keeps k1); have HJ1 := Lib.hid (HJA.out.keeps k1); have HO1 := Lib.hid (HOA.out.trans (Only.below k1)); have HS1 := Lib.hid (show w.heap.size < w1.heap.size from Nat.lt_of_lt_of_le HSZ.out (Below.size k1)); have HBY := Lib.hid (show b ≠ w1.heap.size by have := HBW.out; have := HS1.out; omega); clear k1; obtain ⟨Y, hY⟩ : ∃ Y, w1.heap.size = Y := ⟨_, rfl⟩; rw [hY] at HBY HS1; have p2 := HP1.out.cell 2 rfl; have p4 := HP1.out.cell 4 rfl))
    obtain ⟨wB, hB⟩ : ∃ wB, w1.alloc (.cells #[.int .i64 count, .string body] 54) = wB := ⟨_, rfl⟩
    rw [hB]
    have kB : Keeps w1 wB := by rw [← hB]; exact (Keeps.refl w1).alloc _
    have HY2 := Lib.hid (show CsAt Y (sgC count body) wB by rw [← hY, ← hB]; exact CsAt.made w1 #[.int .i64 count, .string body] _ (by simp))
    have HP2 := Lib.hid (HP1.out.keeps kB)
    have HJ2 := Lib.hid (HJ1.out.keeps kB)
    have HO2 := Lib.hid (HO1.out.trans (Only.below kB))
    clear hB kB hY p2 p4
    have p0 := HP2.out.cell 0 rfl
    have j0 := HJ2.out.cell 0 rfl
    go_quiet (fail)
    obtain ⟨w3, hw3⟩ : ∃ w, wB.drewN nq = w := ⟨_, rfl⟩
    have ew3 : Eqv wB w3 := by rw [← hw3]; exact Eqv.drewN _ _
    rw [hw3]
    have HP3 := Lib.hid (HP2.out.eqv ew3)
    have HJ3 := Lib.hid (HJ2.out.eqv ew3)
    have HO3 := Lib.hid (HO2.out.trans (Only.eqv ew3))
    have HY3 := Lib.hid (HY2.out.eqv ew3)
    clear hw3 ew3
    clear p0 j0
    have p4 := HP3.out.cell 4 rfl
    have y0 := HY3.out.cell 0 rfl
    have y1 := HY3.out.cell 1 rfl
    have j3 := HJ3.out.cell 3 rfl
    have j4 := HJ3.out.cell 4 rfl
    go_wp2
    go_quiet (fail)
    obtain ⟨w4, hw4⟩ : ∃ w, w3.drewN nq = w := ⟨_, rfl⟩
    have ew4 : Eqv w3 w4 := by rw [← hw4]; exact Eqv.drewN _ _
    rw [hw4]
    have HP4 := Lib.hid (HP3.out.eqv ew4)
    have HJ4 := Lib.hid (HJ3.out.eqv ew4)
    have HO4 := Lib.hid (HO3.out.trans (Only.eqv ew4))
    have HY4 := Lib.hid (HY3.out.eqv ew4)
    clear hw4 ew4
    clear p4 y0 y1 j3 j4
    have p3 := HP4.out.cell 3 rfl
    have y5 := HY4.out.r
    go_wp2_with (first | (refine wp_ldG (b := Y) (off := 0) HY4.out.r rfl _ rfl rfl ?_) | (go_at_call 23; refine (HSE.out _ HJ4.out).mono ?_; rintro _ w6 ⟨rfl, c6, o6⟩; have HC6 := Lib.hid c6; have HO6 := Lib.hid (HO4.out.trans o6); have HP6 := Lib.hid (HP4.out.only (Ne.symm HBX.out) o6); have HS6 := Lib.hid HO6.out.size; clear c6 o6) | (refine wp_ldP (b := X) (off := 0) HP6.out.r rfl _ rfl rfl ?_) | (go_at_call 24; refine (HRD.out _ HC6.out).mono ?_; rintro _ w7 ⟨v7, rfl, o7, c7, k7⟩; have HW7 := Lib.hid (o7.lower HS6.out); have HC7 := Lib.hid c7; have HO7 := Lib.hid (HO6.out.trans k7); clear o7 c7 k7))
    go_ret2
    exact JfPost.of (HF.out.trans (by rw [if_neg HE0.out])) rfl rfl rfl HW7.out HC7.out HLL.out HO7.out
set_option maxHeartbeats 1600000 in
theorem jrfeed_go_b {b : Nat} {pid ct : Int} {bd : ByteArray} {J : JS} {w : World} (HC : CsAt b (jrC pid (st J.hold) J.fol ct bd J.lost) w) (HL : JrLast J ct bd) (p : Pkt) (hW : Wd w) (hz : J.hold.length ≤ 5000) (hp : p.body.size ≤ 1000) (hlo : 0 ≤ J.lost ∧ J.lost ≤ 1000000) (hc : ckP p = 0) (hk : p.pid = pid) (hb : p.body.size ≠ 0) (hbad : p.bad = false) (ha : again J p = false) (hq : p.body = bd ∧ p.count ≠ ct) :
    Calls Tryd.prog 10 #[.pointer (some ⟨b, 0, none⟩), pkV p] w (JfPost w b pid (feed pid J p)) := by
  obtain ⟨X, hX⟩ : ∃ X, w.heap.size = X := ⟨_, rfl⟩
  obtain ⟨wA, hA⟩ : ∃ wX, w.alloc (.cells #[.int .i64 p.pid, .bool p.start, .int .i64 p.count, .bool p.bad, .string p.body] 32) = wX := ⟨_, rfl⟩
  have HPA := Lib.hid (show CsAt X (pkC p) wA by rw [← hX, ← hA]; exact CsAt.made w #[.int .i64 p.pid, .bool p.start, .int .i64 p.count, .bool p.bad, .string p.body] _ (by simp))
  have hkA : Keeps w wA := by rw [← hA]; exact (Keeps.refl w).alloc _
  have HJA := Lib.hid (HC.keeps hkA)
  have HOA := Lib.hid (show Only b w wA from Only.below hkA)
  have HBW := Lib.hid HC.old
  have HBX := Lib.hid (show b ≠ X by have := HC.old; omega)
  have HSZ := Lib.hid (show w.heap.size < wA.heap.size by rw [← hA, World.size_alloc]; exact Nat.lt_succ_self _)
  have HCK := Lib.hid (pkcheck_any p wA (hW.keeps hkA))
  clear hkA HC hW
  have HF := feed_go hc hk hb ha hbad
  rw [feedB_err] at HF
  have hrng := (ckP_good hc).1.2
  have hlast := feedB_last (lookJ J p) p.start (ls p.body) 0
  have hlk : (lookJ J p).last = some (p.count, ls p.body) := by unfold lookJ; split <;> rfl
  have hlh : (lookJ J p).hold.length ≤ 5000 := by unfold lookJ; split <;> first | exact Nat.zero_le _ | exact hz
  rw [hlk] at hlast
  have HSE := Lib.hid (fun W (h : CsAt b (jrC pid (st J.hold) J.fol ct bd J.lost) W) => jrsee_any h HL p hp hlo)
  have HRD := Lib.hid (fun W (h : CsAt b (jrC pid (st (lookJ J p).hold) (lookJ J p).fol p.count p.body (lookJ J p).lost) W) => jrread_any h p hlh hp hb)
  obtain ⟨⟨J2, out, e2⟩, hq2⟩ : ∃ q, feedB (lookJ J p) p.start (ls p.body) 0 = q := ⟨_, rfl⟩
  rw [hq2] at HRD HF hlast
  simp only at HF hlast
  unfold SeePost at HSE
  unfold JrPost at HRD
  simp only at HRD
  obtain ⟨ge, hge⟩ : ∃ g, gapE J p = g := ⟨_, rfl⟩
  rw [hge] at HF HSE
  have HLL := Lib.hid (show JrLast J2 p.count p.body from .inr ⟨_, hlast, rfl, rfl, hrng.1, hrng.2, hb⟩)
  obtain ⟨lk, hlkk⟩ : ∃ l, lookJ J p = l := ⟨_, rfl⟩
  rw [hlkk] at HSE HRD
  have HF := Lib.hid HF
  rw [hc] at HCK
  clear hc ha HL hq2 hge hlast hlk hlh hlkk
  obtain ⟨pid', start, count, bad, body⟩ := p
  simp only at hA hp hk hb hbad hq HSE HRD HLL hrng
  subst hk hbad
  obtain ⟨hq1, hq2⟩ := hq
  subst hq1
  have hcc : (count == ct) = false := by rw [beq_eq_false_iff_ne]; exact hq2
  clear hq2
  have ht : (body.toList == []) = false := by
    rw [beq_eq_false_iff_ne, ls_toList]; intro e
    have h3 : body.size = 0 := by rw [ls_size, e]; rfl
    exact hb h3
  clear hrng
  by_cases h0 : e2 = 0
  · skip
    have HE0 := Lib.hid h0
    have hbe : (e2 == 0) = true := by (rw [beq_iff_eq]; exact h0)
    clear h0
    go_enter Tryd.func10, Tryd.ntmps10
    go_wp2_with (first | (refine wp_ldP (b := X) (off := 0) HPA.out.r rfl _ rfl rfl ?_) | (go_at_call 22; refine HCK.out.mono ?_; rintro _ w1 ⟨rfl, k1⟩; have HP1 := Lib.hid (HPA.out.keeps k1); have HJ1 := Lib.hid (HJA.out.keeps k1); have HO1 := Lib.hid (HOA.out.trans (Only.below k1)); have HS1 := Lib.hid (show w.heap.size < w1.heap.size from Nat.lt_of_lt_of_le HSZ.out (Below.size k1)); have HBY := Lib.hid (show b ≠ w1.heap.size by have := HBW.out; have := HS1.out; omega); clear k1; obtain ⟨Y, hY⟩ : ∃ Y, w1.heap.size = Y := ⟨_, rfl⟩; rw [hY] at HBY HS1; have p2 := HP1.out.cell 2 rfl; have p4 := HP1.out.cell 4 rfl))
    obtain ⟨wB, hB⟩ : ∃ wB, w1.alloc (.cells #[.int .i64 count, .string body] 54) = wB := ⟨_, rfl⟩
    rw [hB]
    have kB : Keeps w1 wB := by rw [← hB]; exact (Keeps.refl w1).alloc _
    have HY2 := Lib.hid (show CsAt Y (sgC count body) wB by rw [← hY, ← hB]; exact CsAt.made w1 #[.int .i64 count, .string body] _ (by simp))
    have HP2 := Lib.hid (HP1.out.keeps kB)
    have HJ2 := Lib.hid (HJ1.out.keeps kB)
    have HO2 := Lib.hid (HO1.out.trans (Only.below kB))
    clear hB kB hY p2 p4
    have p0 := HP2.out.cell 0 rfl
    have j0 := HJ2.out.cell 0 rfl
    go_quiet (fail)
    obtain ⟨w3, hw3⟩ : ∃ w, wB.drewN nq = w := ⟨_, rfl⟩
    have ew3 : Eqv wB w3 := by rw [← hw3]; exact Eqv.drewN _ _
    rw [hw3]
    have HP3 := Lib.hid (HP2.out.eqv ew3)
    have HJ3 := Lib.hid (HJ2.out.eqv ew3)
    have HO3 := Lib.hid (HO2.out.trans (Only.eqv ew3))
    have HY3 := Lib.hid (HY2.out.eqv ew3)
    clear hw3 ew3
    clear p0 j0
    have p4 := HP3.out.cell 4 rfl
    have y0 := HY3.out.cell 0 rfl
    have y1 := HY3.out.cell 1 rfl
    have j3 := HJ3.out.cell 3 rfl
    have j4 := HJ3.out.cell 4 rfl
    go_wp2
    go_quiet (fail)
    obtain ⟨w4, hw4⟩ : ∃ w, w3.drewN nq = w := ⟨_, rfl⟩
    have ew4 : Eqv w3 w4 := by rw [← hw4]; exact Eqv.drewN _ _
    rw [hw4]
    have HP4 := Lib.hid (HP3.out.eqv ew4)
    have HJ4 := Lib.hid (HJ3.out.eqv ew4)
    have HO4 := Lib.hid (HO3.out.trans (Only.eqv ew4))
    have HY4 := Lib.hid (HY3.out.eqv ew4)
    clear hw4 ew4
    clear p4 y0 y1 j3 j4
    have p3 := HP4.out.cell 3 rfl
    have y5 := HY4.out.r
    go_wp2_with (first | (refine wp_ldG (b := Y) (off := 0) HY4.out.r rfl _ rfl rfl ?_) | (go_at_call 23; refine (HSE.out _ HJ4.out).mono ?_; rintro _ w6 ⟨rfl, c6, o6⟩; have HC6 := Lib.hid c6; have HO6 := Lib.hid (HO4.out.trans o6); have HP6 := Lib.hid (HP4.out.only (Ne.symm HBX.out) o6); have HS6 := Lib.hid HO6.out.size; clear c6 o6) | (refine wp_ldP (b := X) (off := 0) HP6.out.r rfl _ rfl rfl ?_) | (go_at_call 24; refine (HRD.out _ HC6.out).mono ?_; rintro _ w7 ⟨v7, rfl, o7, c7, k7⟩; have HW7 := Lib.hid (o7.lower HS6.out); have HC7 := Lib.hid c7; have HO7 := Lib.hid (HO6.out.trans k7); clear o7 c7 k7))
    go_ret2
    exact JfPost.of (HF.out.trans (by rw [if_pos HE0.out])) rfl rfl rfl HW7.out HC7.out HLL.out HO7.out
  · skip
    have HE0 := Lib.hid h0
    have hbe : (e2 == 0) = false := by (rw [beq_eq_false_iff_ne]; exact h0)
    clear h0
    go_enter Tryd.func10, Tryd.ntmps10
    go_wp2_with (first | (refine wp_ldP (b := X) (off := 0) HPA.out.r rfl _ rfl rfl ?_) | (go_at_call 22; refine HCK.out.mono ?_; rintro _ w1 ⟨rfl, k1⟩; have HP1 := Lib.hid (HPA.out.keeps k1); have HJ1 := Lib.hid (HJA.out.keeps k1); have HO1 := Lib.hid (HOA.out.trans (Only.below k1)); have HS1 := Lib.hid (show w.heap.size < w1.heap.size from Nat.lt_of_lt_of_le HSZ.out (Below.size k1)); have HBY := Lib.hid (show b ≠ w1.heap.size by have := HBW.out; have := HS1.out; omega); clear k1; obtain ⟨Y, hY⟩ : ∃ Y, w1.heap.size = Y := ⟨_, rfl⟩; rw [hY] at HBY HS1; have p2 := HP1.out.cell 2 rfl; have p4 := HP1.out.cell 4 rfl))
    obtain ⟨wB, hB⟩ : ∃ wB, w1.alloc (.cells #[.int .i64 count, .string body] 54) = wB := ⟨_, rfl⟩
    rw [hB]
    have kB : Keeps w1 wB := by rw [← hB]; exact (Keeps.refl w1).alloc _
    have HY2 := Lib.hid (show CsAt Y (sgC count body) wB by rw [← hY, ← hB]; exact CsAt.made w1 #[.int .i64 count, .string body] _ (by simp))
    have HP2 := Lib.hid (HP1.out.keeps kB)
    have HJ2 := Lib.hid (HJ1.out.keeps kB)
    have HO2 := Lib.hid (HO1.out.trans (Only.below kB))
    clear hB kB hY p2 p4
    have p0 := HP2.out.cell 0 rfl
    have j0 := HJ2.out.cell 0 rfl
    go_quiet (fail)
    obtain ⟨w3, hw3⟩ : ∃ w, wB.drewN nq = w := ⟨_, rfl⟩
    have ew3 : Eqv wB w3 := by rw [← hw3]; exact Eqv.drewN _ _
    rw [hw3]
    have HP3 := Lib.hid (HP2.out.eqv ew3)
    have HJ3 := Lib.hid (HJ2.out.eqv ew3)
    have HO3 := Lib.hid (HO2.out.trans (Only.eqv ew3))
    have HY3 := Lib.hid (HY2.out.eqv ew3)
    clear hw3 ew3
    clear p0 j0
    have p4 := HP3.out.cell 4 rfl
    have y0 := HY3.out.cell 0 rfl
    have y1 := HY3.out.cell 1 rfl
    have j3 := HJ3.out.cell 3 rfl
    have j4 := HJ3.out.cell 4 rfl
    go_wp2
    go_quiet (fail)
    obtain ⟨w4, hw4⟩ : ∃ w, w3.drewN nq = w := ⟨_, rfl⟩
    have ew4 : Eqv w3 w4 := by rw [← hw4]; exact Eqv.drewN _ _
    rw [hw4]
    have HP4 := Lib.hid (HP3.out.eqv ew4)
    have HJ4 := Lib.hid (HJ3.out.eqv ew4)
    have HO4 := Lib.hid (HO3.out.trans (Only.eqv ew4))
    have HY4 := Lib.hid (HY3.out.eqv ew4)
    clear hw4 ew4
    clear p4 y0 y1 j3 j4
    have p3 := HP4.out.cell 3 rfl
    have y5 := HY4.out.r
    go_wp2_with (first | (refine wp_ldG (b := Y) (off := 0) HY4.out.r rfl _ rfl rfl ?_) | (go_at_call 23; refine (HSE.out _ HJ4.out).mono ?_; rintro _ w6 ⟨rfl, c6, o6⟩; have HC6 := Lib.hid c6; have HO6 := Lib.hid (HO4.out.trans o6); have HP6 := Lib.hid (HP4.out.only (Ne.symm HBX.out) o6); have HS6 := Lib.hid HO6.out.size; clear c6 o6) | (refine wp_ldP (b := X) (off := 0) HP6.out.r rfl _ rfl rfl ?_) | (go_at_call 24; refine (HRD.out _ HC6.out).mono ?_; rintro _ w7 ⟨v7, rfl, o7, c7, k7⟩; have HW7 := Lib.hid (o7.lower HS6.out); have HC7 := Lib.hid c7; have HO7 := Lib.hid (HO6.out.trans k7); clear o7 c7 k7))
    go_ret2
    exact JfPost.of (HF.out.trans (by rw [if_neg HE0.out])) rfl rfl rfl HW7.out HC7.out HLL.out HO7.out
theorem jrfeed_any {b : Nat} {pid ct : Int} {bd : ByteArray} {J : JS} {w : World} (HC : CsAt b (jrC pid (st J.hold) J.fol ct bd J.lost) w) (HL : JrLast J ct bd) (p : Pkt) (hW : Wd w) (hz : J.hold.length ≤ 5000) (hp : p.body.size ≤ 1000) (hlo : 0 ≤ J.lost ∧ J.lost ≤ 1000000) :
    Calls Tryd.prog 10 #[.pointer (some ⟨b, 0, none⟩), pkV p] w (JfPost w b pid (feed pid J p)) := by
  by_cases hc : ckP p = 0
  · by_cases hk : p.pid = pid
    · by_cases hb : p.body.size = 0
      · exact jrfeed_none HC HL p hW hz hp hlo hc hk hb
      · cases ha : again J p with
        | true => exact jrfeed_again HC HL p hW hz hp hlo hc hk hb ha
        | false =>
          have hq : (ls p.body ≠ ls bd) ∨ (p.body = bd ∧ p.count ≠ ct) := by
            by_cases e : ls p.body = ls bd
            · refine .inr ⟨by rw [← st_ls p.body, e, st_ls], fun e2 => ?_⟩
              rcases HL with ⟨h1, h2, h3⟩ | ⟨⟨c0, b0⟩, h1, h2, h3, _⟩
              · exact hb (by rw [ls_size, e, h3]; rfl)
              · unfold again at ha; rw [h1] at ha
                exact absurd ⟨e2.trans h2, e.trans h3⟩ (of_decide_eq_false ha)
            · exact .inl e
          cases hbad : p.bad with
          | true => exact hq.elim (jrfeed_bad_a HC HL p hW hz hp hlo hc hk hb hbad ha) (jrfeed_bad_b HC HL p hW hz hp hlo hc hk hb hbad ha)
          | false => exact hq.elim (jrfeed_go_a HC HL p hW hz hp hlo hc hk hb hbad ha) (jrfeed_go_b HC HL p hW hz hp hlo hc hk hb hbad ha)
    · exact jrfeed_kind HC HL p hW hz hp hlo hc hk
  · exact jrfeed_ck HC HL p hW hz hp hlo hc
theorem JfPost.trans {w w1 W : World} {b : Nat} {pid : Int} {q : JS × List (List UInt8) × Int} {e : Ending} (h : JfPost w1 b pid q e W) (k : Only b w w1) : JfPost w b pid q e W := by
  obtain ⟨v, he, ho, hj, hk⟩ := h
  exact ⟨v, he, ho.lower k.size, hj, k.trans hk⟩
set_option maxHeartbeats 800000 in
theorem jrbytes_any {b : Nat} {pid ct : Int} {bd : ByteArray} {J : JS} {w : World} (HC : CsAt b (jrC pid (st J.hold) J.fol ct bd J.lost) w) (HL : JrLast J ct bd) (s : ByteArray) (hW : Wd w) (hz : J.hold.length ≤ 5000) (hs : s.size ≤ 1000) (hlo : 0 ≤ J.lost ∧ J.lost ≤ 1000000) :
    Calls Tryd.prog 17 #[.pointer (some ⟨b, 0, none⟩), .string s] w (JfPost w b pid (feedD pid J (ls s))) := by
  have HD := Lib.hid (pkdecode_any s w hW (by omega))
  have HB := Lib.hid HC.old
  by_cases he : dcE (ls s) = 0
  · have hF : feedD pid J (ls s) = feed pid J (dcP (ls s)) := by unfold feedD; rw [if_pos he]
    rw [hF]
    rw [dc_ok he] at HD
    have hqz : (dcP (ls s)).body.size ≤ 1000 := by rw [dcP_size, ← ls_size]; omega
    obtain ⟨q, hq⟩ : ∃ q, dcP (ls s) = q := ⟨_, rfl⟩
    rw [hq] at HD hqz ⊢
    have HFD := Lib.hid (fun W (k : Keeps w W) => jrfeed_any (HC.keeps k) HL q (hW.keeps k) hz hqz hlo)
    have HPO := Lib.hid (fun e W w1 (h : JfPost w1 b pid (feed pid J q) e W) (k : Keeps w w1) => h.trans (Only.below (b := b) k))
    clear hF HC HL hW hz hlo he hq
    obtain ⟨pid', start, count, bad, body⟩ := q
    simp only at HD HFD hqz HPO
    go_enter Tryd.func17, Tryd.ntmps17
    go_wp2_with (first | (go_at_call 29; refine HD.out.mono ?_; rintro _ w1 ⟨rfl, k1⟩; have HK1 := Lib.hid k1; have HK2 := Lib.hid (k1.alloc (.cells #[.int .i64 pid', .bool start, .int .i64 count, .bool bad, .string body] 32)); have HZ1 := Lib.hid (show CsAt w1.heap.size (pkC ⟨pid', start, count, bad, body⟩) _ from CsAt.made w1 #[.int .i64 pid', .bool start, .int .i64 count, .bool bad, .string body] 32 (by simp)); clear k1) | (refine wp_ldP (off := 0) HZ1.out.r rfl _ rfl rfl ?_) | (go_at_call 10; refine (HFD.out _ HK2.out).mono ?_; rintro _ w3 ⟨v3, rfl, h3⟩; have HE3 := Lib.hid (HPO.out _ _ _ ⟨v3, rfl, h3⟩ HK2.out); clear h3))
    go_ret2
    exact HE3.out
  · have hF := show feedD pid J (ls s) = (J, [], dcE (ls s)) by unfold feedD; rw [if_neg he]
    rw [dc_no he] at HD
    have HF := Lib.hid hF
    obtain ⟨r, hr⟩ : ∃ r, dcE (ls s) = r := ⟨_, rfl⟩
    rw [hr] at HD HF he
    have hb : (r == 0) = false := by rw [beq_eq_false_iff_ne]; exact he
    have HCC := Lib.hid HC
    have HLL := Lib.hid HL
    clear hF HC HL hW he hr
    go_enter Tryd.func17, Tryd.ntmps17
    go_wp2_with (go_at_call 29; refine HD.out.mono ?_; rintro _ w1 ⟨rfl, k1⟩; have HK1 := Lib.hid k1; clear k1)
    go_ret2
    exact JfPost.of HF.out rfl rfl rfl (OwnE.nil _ _) (HCC.out.keeps (HK1.out.alloc _)) HLL.out (Only.below (HK1.out.alloc _))
theorem jrn_feed (q : Pkt) (w : World) : Calls Tryd.prog 10 #[.pointer none, pkV q] w fun e w' => (∃ a cap, e = .returned (.tuple #[.slice a 0 cap, .int .i64 2])) ∧ Keeps w w' := by
  obtain ⟨pid', start, count, bad, body⟩ := q
  go_enter Tryd.func10, Tryd.ntmps10
  go_wp2
  go_ret2
  exact ⟨⟨_, _, rfl⟩, (Keeps.refl w).alloc _⟩
theorem jrn_bytes (s : ByteArray) (w : World) : Calls Tryd.prog 17 #[.pointer none, .string s] w fun e w' => (∃ a cap, e = .returned (.tuple #[.slice a 0 cap, .int .i64 2])) ∧ Keeps w w' := by
  go_enter Tryd.func17, Tryd.ntmps17
  go_wp2
  go_ret2
  exact ⟨⟨_, _, rfl⟩, Keeps.refl w⟩
theorem jrn_held (w : World) : Calls Tryd.prog 14 #[.pointer none] w fun e w' => e = .returned (.string ⟨#[]⟩) ∧ Keeps w w' := by
  go_enter Tryd.func14, Tryd.ntmps14
  go_wp2
  go_ret
  exact ⟨rfl, Keeps.refl w⟩
theorem jrn_lost (w : World) : Calls Tryd.prog 15 #[.pointer none] w fun e w' => e = .returned (.int .i64 0) ∧ Keeps w w' := by
  go_enter Tryd.func15, Tryd.ntmps15
  go_wp2
  go_ret
  exact ⟨rfl, Keeps.refl w⟩
theorem jrn_drop (w : World) : Calls Tryd.prog 16 #[.pointer none] w fun e w' => (∃ v, e = .returned v) ∧ Keeps w w' := by
  go_enter Tryd.func16, Tryd.ntmps16
  go_wp2
  refine bodyPost_ret (results_none rfl _ _ _) rfl ?_
  exact ⟨⟨_, rfl⟩, Keeps.refl w⟩
theorem jr_goes {b : Nat} {pid : Int} {q : JS × List (List UInt8) × Int} {w w' : World} {e : Ending} (hb : b < w.heap.size) (h : JfPost w b pid q e w') : JnGoes JrAt (jrS b) b pid q w e w' := by
  obtain ⟨v, he, ho, ⟨ct, bd, hc, hl⟩, hk⟩ := h
  obtain ⟨a, cap, hv, hi, hx⟩ := ho.row16
  obtain ⟨a2, cap2, hv2, _, hcap⟩ := ho.is
  rw [hv] at hv2
  simp only [Value.slice.injEq] at hv2
  obtain ⟨rfl, _, rfl⟩ := hv2
  subst hv
  exact ⟨a, cap, jrS b, he, hi.texts, hcap, ⟨rfl, ct, bd, hc, hl⟩, hk.foot rfl, Grew.refl _ _, fun x ha => ⟨fun e => by have := hx x ha; unfold jrS at e; omega, hx x ha⟩⟩
/-- Package joiner's calls are what is asked of them. -/
def joinerApi : JnApi where
  At := JrAt
  Ok := Wd
  okK := fun h k => h.keeps k
  old := by
    rintro S p pid J w ⟨rfl, ct, bd, hc, _⟩ k hk
    obtain rfl : k = p := hk
    exact hc.old
  foot := by
    rintro S T p pid J w w' ⟨rfl, ct, bd, hc, hl⟩ k hn
    exact ⟨rfl, ct, bd, hc.foot k (hn p rfl), hl⟩
  newOk := by
    intro pid w h
    refine (jrnew_ok pid w h).mono ?_
    rintro e w' ⟨p, he, hc, hk, hp⟩
    exact ⟨p, jrS p, he, ⟨rfl, 0, ⟨#[]⟩, hc, .inl ⟨rfl, rfl, rfl⟩⟩, hk, fun b hb => by obtain rfl : b = p := hb; exact hp⟩
  newNo := jrnew_no
  feed := by
    rintro S p pid J w q ⟨rfl, ct, bd, hc, hl⟩ hW hq hz hlo
    exact (jrfeed_any hc hl q hW hz hq hlo).mono fun e w' h => jr_goes hc.old h
  bytes := by
    rintro S p pid J w s ⟨rfl, ct, bd, hc, hl⟩ hW hs hz hlo
    exact (jrbytes_any hc hl s hW hz hs hlo).mono fun e w' h => jr_goes hc.old h
  held := by
    rintro S p pid J w ⟨rfl, ct, bd, hc, hl⟩
    exact jrheld_any hc
  lost := by
    rintro S p pid J w ⟨rfl, ct, bd, hc, hl⟩
    exact jrlost_any hc
  drop := by
    rintro S p pid J w ⟨rfl, ct, bd, hc, hl⟩
    refine (jrdrop_any hc).mono ?_
    rintro e w' ⟨he, hc2, hk⟩
    exact ⟨jrS p, he, ⟨rfl, 0, ⟨#[]⟩, hc2, .inl ⟨rfl, rfl, rfl⟩⟩, hk.foot rfl, Grew.refl _ _⟩
  nFeed := fun q w _ => jrn_feed q w
  nBytes := fun s w _ => jrn_bytes s w
  nHeld := jrn_held
  nLost := jrn_lost
  nDrop := jrn_drop
end Go.Proofs.YtifbomppgflkfaaDoor
