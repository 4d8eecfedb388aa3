/-
  What package joiner's read answers. The memory that was there stays, but for the joiner's own block.
-/
import Derived.Test.YtifbomppgflkfaaDoorJnS
namespace Go.Proofs.YtifbomppgflkfaaDoor
open Go.RowKit Gf Pk Jn
set_option maxRecDepth 100000
set_option linter.unusedVariables false
/-- What read answers. -/
def JrPost (w : World) (b : Nat) (pid ct : Int) (bd : ByteArray) (q : JS × List (List UInt8) × Int) (e : Ending) (w' : World) : Prop :=
  ∃ v, e = .returned (.tuple #[v, .int .i64 q.2.2]) ∧ OwnE rowT w' w.heap.size v q.2.1 ∧ CsAt b (jrC pid (st q.1.hold) q.1.fol ct bd q.1.lost) w' ∧ Only b w w'
theorem JrPost.of {w W : World} {b : Nat} {pid ct : Int} {bd h : ByteArray} {fl : Bool} {lo : Int} {q : JS × List (List UInt8) × Int} {J : JS} {out : List (List UInt8)} {e : Int} {v : Value} (h1 : q = (J, out, e)) (h2 : h = st J.hold) (h3 : fl = J.fol) (h4 : lo = J.lost)
    (ho : OwnE rowT W w.heap.size v out) (hj : CsAt b (jrC pid h fl ct bd lo) W) (k : Only b w W) : JrPost w b pid ct bd q (.returned (.tuple #[v, .int .i64 e])) W := by subst h1 h2 h3 h4; exact ⟨v, rfl, ho, hj, k⟩
theorem feedB_err (J : JS) (s : Bool) (b : List UInt8) (e : Int) : feedB J s b e = ((feedB J s b 0).1, (feedB J s b 0).2.1, if (feedB J s b 0).2.2 = 0 then e else (feedB J s b 0).2.2) := by
  cases s with
  | false =>
    cases hf : J.fol with
    | false => rw [feedB_off hf, feedB_off hf]; simp
    | true =>
      rw [feedB_on hf b e, feedB_on hf b 0]
      cases ho : (tk (J.hold ++ b)).ok <;> simp
  | true =>
    by_cases hl : b.length - 1 < (cf b 0).toNat
    · rw [feedB_long hl, feedB_long hl]; simp
    · cases hf : J.fol with
      | false =>
        rw [feedB_new hf hl e, feedB_new hf hl 0]
        cases ho : (tk (b.drop (1 + (cf b 0).toNat))).ok <;> simp
      | true =>
        rw [feedB_both hf hl e, feedB_both hf hl 0]
        cases h1 : (tk (J.hold ++ (b.drop 1).take (cf b 0).toNat)).ok <;> cases h2 : (tk (b.drop (1 + (cf b 0).toNat))).ok <;> simp
set_option maxHeartbeats 1600000 in
theorem jrread_n {b : Nat} {pid ct : Int} {bd : ByteArray} {J : JS} {w : World} (HC : CsAt b (jrC pid (st J.hold) J.fol ct bd J.lost) w) (p : Pkt) (hz : J.hold.length ≤ 5000) (hp : p.body.size ≤ 1000) (hs : p.start = false) :
    Calls Tryd.prog 24 #[.pointer (some ⟨b, 0, none⟩), pkV p] w (JrPost w b pid ct bd (feedB J p.start (ls p.body) 0)) := by
  rw [hs]
  obtain ⟨X, hX⟩ : ∃ X, w.heap.size = X := ⟨_, rfl⟩
  obtain ⟨wA, hA⟩ : ∃ wX, w.alloc (.cells #[.int .i64 p.pid, .bool p.start, .int .i64 p.count, .bool p.bad, .string p.body] 32) = wX := ⟨_, rfl⟩
  have HPA := Lib.hid (show CsAt X (pkC p) wA by rw [← hX, ← hA]; exact CsAt.made w #[.int .i64 p.pid, .bool p.start, .int .i64 p.count, .bool p.bad, .string p.body] _ (by simp))
  have hkA : Keeps w wA := by rw [← hA]; exact (Keeps.refl w).alloc _
  have HJA := Lib.hid (HC.keeps hkA)
  have HOA := Lib.hid (show Only b w wA from Only.below hkA)
  have HBW := Lib.hid HC.old
  have HBX := Lib.hid (show b ≠ X by have := HC.old; omega)
  have HSZ := Lib.hid (show w.heap.size ≤ wA.heap.size from Below.size hkA)
  clear hkA HC
  obtain ⟨hold, fol, last, lost⟩ := J
  simp only at HJA hz
  obtain ⟨pid', start, count, bad, body⟩ := p
  simp only at hA hp hs
  subst hs
  have p1 := HPA.out.cell 1 rfl
  have p4 := HPA.out.cell 4 rfl
  cases fol with
  | false =>
    have HF := Lib.hid (feedB_off (J := ⟨hold, false, last, lost⟩) rfl (ls body) 0)
    have HT := Lib.hid (jrtake_off HJA.out body)
    go_enter Tryd.func24, Tryd.ntmps24
    go_wp2_with (go_at_call 34; refine HT.out.mono ?_; rintro _ w2 ⟨rfl, rfl⟩)
    go_ret2
    exact JrPost.of HF.out rfl rfl rfl (OwnE.nil _ _) HJA.out HOA.out
  | true =>
    have HF := feedB_on (J := ⟨hold, true, last, lost⟩) rfl (ls body) 0
    have HT := jrtake_any HJA.out body (by rw [st_size]; omega) (by omega)
    rw [ls_st] at HT
    unfold takes at HF
    simp only at HF
    obtain ⟨⟨out1, hold1, fol1, ok1⟩, ht1⟩ : ∃ t, tk (hold ++ ls body) = t := ⟨_, rfl⟩
    rw [ht1] at HT HF
    replace HT := Lib.hid HT
    replace HF := Lib.hid HF
    clear ht1
    cases ok1
    all_goals (
    go_enter Tryd.func24, Tryd.ntmps24
    go_wp2_with (go_at_call 34; refine HT.out.mono ?_; rintro _ w2 ⟨v2, rfl, o2, c2, k2⟩; have HW2 := Lib.hid o2; have HC2 := Lib.hid c2; have HO2 := Lib.hid (HOA.out.trans k2); clear o2 c2 k2)
    go_ret2
    exact JrPost.of (J := ⟨hold1, fol1, last, lost⟩) HF.out rfl rfl rfl (HW2.out.lower HSZ.out) HC2.out HO2.out)
set_option maxHeartbeats 6400000 in
theorem jrread_s {b : Nat} {pid ct : Int} {bd : ByteArray} {J : JS} {w : World} (HC : CsAt b (jrC pid (st J.hold) J.fol ct bd J.lost) w) (p : Pkt) (hz : J.hold.length ≤ 5000) (hp : p.body.size ≤ 1000) (hb : p.body.size ≠ 0) (hs : p.start = true) :
    Calls Tryd.prog 24 #[.pointer (some ⟨b, 0, none⟩), pkV p] w (JrPost w b pid ct bd (feedB J p.start (ls p.body) 0)) := by
  rw [hs]
  obtain ⟨X, hX⟩ : ∃ X, w.heap.size = X := ⟨_, rfl⟩
  obtain ⟨wA, hA⟩ : ∃ wX, w.alloc (.cells #[.int .i64 p.pid, .bool p.start, .int .i64 p.count, .bool p.bad, .string p.body] 32) = wX := ⟨_, rfl⟩
  have HPA := Lib.hid (show CsAt X (pkC p) wA by rw [← hX, ← hA]; exact CsAt.made w #[.int .i64 p.pid, .bool p.start, .int .i64 p.count, .bool p.bad, .string p.body] _ (by simp))
  have hkA : Keeps w wA := by rw [← hA]; exact (Keeps.refl w).alloc _
  have HJA := Lib.hid (HC.keeps hkA)
  have HOA := Lib.hid (show Only b w wA from Only.below hkA)
  have HBW := Lib.hid HC.old
  have HBX := Lib.hid (show b ≠ X by have := HC.old; omega)
  have HSZ := Lib.hid (show w.heap.size ≤ wA.heap.size from Below.size hkA)
  clear hkA HC
  obtain ⟨hold, fol, last, lost⟩ := J
  simp only at HJA hz
  obtain ⟨pid', start, count, bad, body⟩ := p
  simp only at hA hp hs hb
  subst hs
  have p1 := HPA.out.cell 1 rfl
  have p4 := HPA.out.cell 4 rfl
  have z0 : 0 < body.size := by omega
  have i0 : (0 : Int) < (body.size : Int) := by omega
  have i1 : (1 : Int) ≤ (body.size : Int) := by omega
  have g0 := ls_get body 0 z0
  obtain ⟨c0, hc0⟩ : ∃ c, cf (ls body) 0 = c := ⟨_, rfl⟩
  rw [hc0] at g0
  have hcb := u8_bd c0
  obtain ⟨r, hr⟩ : ∃ r, c0.toNat = r := ⟨_, rfl⟩
  obtain ⟨T, hT⟩ : ∃ T, body.extract 1 body.size = T := ⟨_, rfl⟩
  have hTl : ls T = (ls body).drop 1 := by rw [← hT, ls_part, List.take_of_length_le (by rw [List.length_drop, ← ls_size]; exact Nat.le_refl _)]
  have hTz : T.size = body.size - 1 := by rw [ls_size, hTl, List.length_drop, ← ls_size]
  have hbl := ls_size body
  have wr1 := wrapI (a := (r : Int)) (by omega) (by omega)
  rw [hr] at hcb
  by_cases hlg : T.size < r
  · have HF := Lib.hid (feedB_long (J := ⟨hold, fol, last, lost⟩) (b := ls body) (by rw [hc0, hr, ← hbl, ← hTz]; exact hlg) 0)
    have t1 : (T.size : Int) < (r : Int) := by omega
    clear hbl hTl hTz hc0 hlg
    go_enter Tryd.func24, Tryd.ntmps24
    go_wp2
    go_quiet (fail)
    obtain ⟨w2, hw2⟩ : ∃ w, wA.drewN nq = w := ⟨_, rfl⟩
    have e2 : Eqv wA w2 := by rw [← hw2]; exact Eqv.drewN _ _
    rw [hw2]
    have HJ2 := Lib.hid (HJA.out.eqv e2)
    have HO2 := Lib.hid (HOA.out.trans (Only.eqv e2))
    clear hw2 e2 p1 p4
    go_wp2_with (go_at_call 28; refine (jrleave_any HJ2.out).mono ?_; rintro _ w3 ⟨⟨v3, rfl⟩, c3, o3⟩; have HC3 := Lib.hid c3; have HO3 := Lib.hid (HO2.out.trans o3); clear c3 o3)
    go_ret2
    exact JrPost.of HF.out rfl rfl rfl (OwnE.nil _ _) HC3.out HO3.out
  · have hlg2 : ¬ (ls body).length - 1 < (cf (ls body) 0).toNat := by rw [hc0, hr, ← hbl, ← hTz]; exact hlg
    have t1 : ¬ (T.size : Int) < (r : Int) := by omega
    have t2 : (r : Int) ≤ (T.size : Int) := by omega
    have t3 : ¬ (r : Int) < 0 := by omega
    obtain ⟨A1, hA1⟩ : ∃ A1, T.extract 0 r = A1 := ⟨_, rfl⟩
    have hA1l : ls A1 = ((ls body).drop 1).take r := by rw [← hA1, ls_part, hTl, List.drop_zero, Nat.sub_zero]
    have hA1z : A1.size ≤ 1000 := by rw [← hA1, ByteArray.size_extract]; omega
    obtain ⟨A2, hA2⟩ : ∃ A2, T.extract r T.size = A2 := ⟨_, rfl⟩
    have hA2l : ls A2 = (ls body).drop (1 + r) := by rw [← hA2, ls_part, hTl, List.take_of_length_le (by rw [List.length_drop, List.length_drop]; omega), List.drop_drop]
    have hA2z : A2.size ≤ 1000 := by rw [← hA2, ByteArray.size_extract]; omega
    have HT2 := Lib.hid (fun W (h : CsAt b (jrC pid ⟨#[]⟩ true ct bd lost) W) => jrtake_any h A2 (by decide) (by omega))
    rw [hA2l, show ls (⟨#[]⟩ : ByteArray) = [] from rfl, List.nil_append] at HT2
    have ho2 := tk_outs ((ls body).drop (1 + r))
    rw [List.length_drop, ← hbl] at ho2
    cases fol with
    | false =>
      have HF := feedB_new (J := ⟨hold, false, last, lost⟩) rfl hlg2 0
      rw [hc0, hr] at HF
      obtain ⟨⟨out2, hold2, fol2, ok2⟩, ht2⟩ : ∃ t, tk ((ls body).drop (1 + r)) = t := ⟨_, rfl⟩
      rw [ht2] at HT2 HF ho2
      replace HF := Lib.hid HF
      have HAL := Lib.hid (show ([] : List (List UInt8)).length + out2.length ≤ 1000000000 by simp only at ho2; rw [List.length_nil]; omega)
      clear ht2 ho2 hbl hTl hTz hc0 hlg hlg2 hA1l hA2l
      have HT1 := Lib.hid (fun W (h : CsAt b (jrC pid (st hold) false ct bd lost) W) => jrtake_off h A1)
      have HW5 := Lib.hid (fun (W : World) (_ : True) (_ : True) => OwnE.nil (T := rowT) W w.heap.size)
      cases ok2
      all_goals (
      go_enter Tryd.func24, Tryd.ntmps24
      go_wp2
      go_quiet (fail)
      obtain ⟨w2, hw2⟩ : ∃ w, wA.drewN nq = w := ⟨_, rfl⟩
      have e2 : Eqv wA w2 := by rw [← hw2]; exact Eqv.drewN _ _
      rw [hw2]
      have HJ2 := Lib.hid (HJA.out.eqv e2)
      have HO2 := Lib.hid (HOA.out.trans (Only.eqv e2))
      have HS2 := Lib.hid (show w.heap.size ≤ w2.heap.size by rw [e2.heap]; exact HSZ.out)
      clear hw2 e2 p1 p4
      go_wp2_with (first | (go_at_call 34; (with_reducible refine (HT1.out _ HJ2.out).mono ?_); rintro _ w3 ⟨rfl, rfl⟩) | (go_at_call 28; refine (jrleave_any HJ2.out).mono ?_; rintro _ w4 ⟨⟨v4, rfl⟩, c4, o4⟩; have q4 := c4.cell 2 rfl; have g4 := c4.fz 2 (by show 2 < 6; decide); have HC4 := Lib.hid c4; have HO4 := Lib.hid (HO2.out.trans o4); clear c4 o4) | (go_at_call 34; (refine (HT2.out _ (HC4.out.set 2 (by show 2 < 6; decide) (.bool true))).mono ?_); rintro _ w6 ⟨v6, rfl, o6, c6, k6⟩; have HO6 := Lib.hid ((HO4.out.trans (Only.setCell w4 ⟨b, 2, none⟩ (.bool true))).trans k6); have HOW := Lib.hid (HW5.out w6 trivial trivial); have hb6 : w.heap.size ≤ w6.heap.size := HO6.out.size; obtain ⟨a6, cap6, rfl, is6, _⟩ := o6.is; have HI6 := Lib.hid is6; have HC6 := Lib.hid c6; have hal6 := HAL.out; clear is6 o6 c6 k6) | (at_builtin; refine wp_catT rfl _ _ rfl HOW.out rfl rfl HI6.out hal6 hb6 ?_; intro v8 w8 o8 g8; have HO8 := Lib.hid (HO6.out.catted (Nat.le_refl _) HOW.out g8); have HC8 := Lib.hid (HC6.out.catted HBW.out HOW.out g8); have HW8 := Lib.hid o8; clear o8 g8))
      go_ret2
      exact JrPost.of (J := ⟨hold2, fol2, last, lost⟩) HF.out rfl rfl rfl HW8.out HC8.out HO8.out)
    | true =>
      have HF := feedB_both (J := ⟨hold, true, last, lost⟩) rfl hlg2 0
      rw [hc0, hr] at HF
      simp only at HF
      have HT1 := fun W (h : CsAt b (jrC pid (st hold) true ct bd lost) W) => jrtake_any h A1 (by rw [st_size]; omega) (by omega)
      rw [ls_st, hA1l] at HT1
      have ho1 := tk_outs (hold ++ ((ls body).drop 1).take r)
      rw [List.length_append, List.length_take] at ho1
      obtain ⟨⟨out2, hold2, fol2, ok2⟩, ht2⟩ : ∃ t, tk ((ls body).drop (1 + r)) = t := ⟨_, rfl⟩
      obtain ⟨⟨out1, hold1, fol1, ok1⟩, ht1⟩ : ∃ t, tk (hold ++ ((ls body).drop 1).take r) = t := ⟨_, rfl⟩
      rw [ht2] at HT2 ho2
      rw [ht1] at HT1 ho1
      rw [ht1, ht2] at HF
      have HAL := Lib.hid (show out1.length + out2.length ≤ 1000000000 by simp only at ho1 ho2; omega)
      replace HF := Lib.hid HF
      replace HT1 := Lib.hid HT1
      clear ht1 ht2 ho1 ho2 hbl hTl hTz hc0 hlg hlg2 hA1l hA2l
      have HW5 := Lib.hid (fun (w4 w6 : World) (v3 : Value) (h : OwnE rowT w4 w.heap.size v3 out1) (k : Only b (w4.setCell ⟨b, 2, none⟩ (.bool true)) w6) => show OwnE rowT w6 w.heap.size v3 out1 from
        h.only ((show Only b w4 _ from Only.setCell w4 ⟨b, 2, none⟩ (.bool true)).trans k) (fun e => by have := h.block _ e; have := HBW.out; omega))
      cases ok1 <;> cases ok2
      all_goals (
        go_enter Tryd.func24, Tryd.ntmps24
        go_wp2
        go_quiet (fail)
        obtain ⟨w2, hw2⟩ : ∃ w, wA.drewN nq = w := ⟨_, rfl⟩
        have e2 : Eqv wA w2 := by rw [← hw2]; exact Eqv.drewN _ _
        rw [hw2]
        have HJ2 := Lib.hid (HJA.out.eqv e2)
        have HO2 := Lib.hid (HOA.out.trans (Only.eqv e2))
        have HS2 := Lib.hid (show w.heap.size ≤ w2.heap.size by rw [e2.heap]; exact HSZ.out)
        clear hw2 e2 p1 p4
        go_wp2_with (first | (go_at_call 34; (with_reducible refine (HT1.out _ HJ2.out).mono ?_); rintro _ w3 ⟨v3, rfl, o3, c3, k3⟩; have HC3 := Lib.hid c3; have HO3 := Lib.hid (HO2.out.trans k3); have HW3 := Lib.hid (o3.lower HS2.out); clear o3 c3 k3) | (go_at_call 28; refine (jrleave_any HC3.out).mono ?_; rintro _ w4 ⟨⟨v4, rfl⟩, c4, o4⟩; have q4 := c4.cell 2 rfl; have g4 := c4.fz 2 (by show 2 < 6; decide); have HW4 := Lib.hid (HW3.out.only o4 (fun e => by have := HW3.out.block _ e; have := HBW.out; omega)); have HC4 := Lib.hid c4; have HO4 := Lib.hid (HO3.out.trans o4); clear c4 o4) | (go_at_call 34; (refine (HT2.out _ (HC4.out.set 2 (by show 2 < 6; decide) (.bool true))).mono ?_); rintro _ w6 ⟨v6, rfl, o6, c6, k6⟩; have HO6 := Lib.hid ((HO4.out.trans (Only.setCell w4 ⟨b, 2, none⟩ (.bool true))).trans k6); have HOW := Lib.hid (HW5.out _ _ _ HW4.out k6); have hb6 : w.heap.size ≤ w6.heap.size := HO6.out.size; obtain ⟨a6, cap6, rfl, is6, _⟩ := o6.is; have HI6 := Lib.hid is6; have HC6 := Lib.hid c6; have hal6 := HAL.out; clear is6 o6 c6 k6) | (at_builtin; refine wp_catT rfl _ _ rfl HOW.out rfl rfl HI6.out hal6 hb6 ?_; intro v8 w8 o8 g8; have HO8 := Lib.hid (HO6.out.catted (Nat.le_refl _) HOW.out g8); have HC8 := Lib.hid (HC6.out.catted HBW.out HOW.out g8); have HW8 := Lib.hid o8; clear o8 g8))
        go_ret2
        exact JrPost.of (J := ⟨hold2, fol2, last, lost⟩) HF.out rfl rfl rfl HW8.out HC8.out HO8.out)
end Go.Proofs.YtifbomppgflkfaaDoor
