/-
  What the document's joiner's Feed answers. The memory that was there stays, but for the joiner's own block.
-/
import Derived.Test.YtifbomppgflkfaaDoorJnA
import Derived.Test.YtifbomppgflkfaaDoorPkRef
namespace Go.Proofs.YtifbomppgflkfaaDoor
open Go.RowKit Gf Pk Jn
set_option maxRecDepth 100000
set_option linter.unusedVariables false
theorem feedB_off {J : JS} (h : J.fol = false) (b : List UInt8) (e : Int) : feedB J false b e = (J, [], e) := by unfold feedB; rw [if_pos rfl, if_pos h]
theorem feedB_on {J : JS} (h : J.fol = true) (b : List UInt8) (e : Int) : feedB J false b e = (takes J b, (tk (J.hold ++ b)).out, if (tk (J.hold ++ b)).ok then e else 12) := by unfold feedB; rw [if_pos rfl, if_neg (by rw [h]; decide)]
theorem feedB_long {J : JS} {b : List UInt8} (h : b.length - 1 < (cf b 0).toNat) (e : Int) : feedB J true b e = (⟨[], false, J.last, J.lost⟩, [], 12) := by unfold feedB; rw [if_neg (by decide), if_pos h]
theorem feedB_new {J : JS} (hf : J.fol = false) {b : List UInt8} (h : ¬ b.length - 1 < (cf b 0).toNat) (e : Int) : feedB J true b e =
    (⟨(tk (b.drop (1 + (cf b 0).toNat))).hold, (tk (b.drop (1 + (cf b 0).toNat))).fol, J.last, J.lost⟩, (tk (b.drop (1 + (cf b 0).toNat))).out, if (tk (b.drop (1 + (cf b 0).toNat))).ok then e else 12) := by
  unfold feedB
  rw [if_neg (by decide), if_neg h, hf]
  simp
theorem feedB_both {J : JS} (hf : J.fol = true) {b : List UInt8} (h : ¬ b.length - 1 < (cf b 0).toNat) (e : Int) : feedB J true b e =
    (⟨(tk (b.drop (1 + (cf b 0).toNat))).hold, (tk (b.drop (1 + (cf b 0).toNat))).fol, J.last, J.lost⟩, (tk (J.hold ++ (b.drop 1).take (cf b 0).toNat)).out ++ (tk (b.drop (1 + (cf b 0).toNat))).out,
      if (tk (J.hold ++ (b.drop 1).take (cf b 0).toNat)).ok = true ∧ (tk (b.drop (1 + (cf b 0).toNat))).ok = true then e else 12) := by
  unfold feedB
  rw [if_neg (by decide), if_neg h, hf]
  simp
/-- The document's joiner in block b. -/
def RjAt (b : Nat) (pid : Int) (J : JS) (W : World) : Prop :=
  ∃ sn ct bd, CsAt b (rjC pid (st J.hold) J.fol sn ct bd J.lost) W ∧ (J.last = none ∧ sn = false ∨ ∃ q, J.last = some q ∧ sn = true ∧ ct = q.1 ∧ ls bd = q.2 ∧ 0 ≤ ct ∧ ct ≤ 15)
theorem RjAt.old {b : Nat} {pid : Int} {J : JS} {W : World} (h : RjAt b pid J W) : b < W.heap.size := by obtain ⟨_, _, _, hc, _⟩ := h; exact hc.old
theorem RjAt.block {b : Nat} {pid : Int} {J : JS} {W W' : World} (h : RjAt b pid J W) (k : W'.heap[b]? = W.heap[b]?) : RjAt b pid J W' := by obtain ⟨sn, ct, bd, hc, hl⟩ := h; exact ⟨sn, ct, bd, hc.block k, hl⟩
theorem RjAt.keeps {b : Nat} {pid : Int} {J : JS} {W W' : World} (h : RjAt b pid J W) (k : Keeps W W') : RjAt b pid J W' := h.block (Below.block k b h.old)
/-- What Feed answers. -/
def RjPost (w : World) (b : Nat) (pid : Int) (q : JS × List (List UInt8) × Int) (e : Ending) (w' : World) : Prop :=
  ∃ v, e = .returned (.tuple #[v, .int .i64 q.2.2]) ∧ OwnE rowT w' w.heap.size v q.2.1 ∧ RjAt b pid q.1 w' ∧ Only b w w'
theorem RjPost.of {w W : World} {b : Nat} {pid : Int} {q : JS × List (List UInt8) × Int} {J : JS} {out : List (List UInt8)} {e : Int} {v : Value} (h : q = (J, out, e)) (ho : OwnE rowT W w.heap.size v out) (hj : RjAt b pid J W) (k : Only b w W) :
    RjPost w b pid q (.returned (.tuple #[v, .int .i64 e])) W := by subst h; exact ⟨v, rfl, ho, hj, k⟩
theorem Only.catted {b n : Nat} {w w2 w3 : World} {v : Value} {l : List (List UInt8)} (h : Only b w w2) (hn : w.heap.size ≤ n) (ho : OwnE rowT w2 n v l) (g : w2.grownBy w3 v.ownBlock) : Only b w w3 := by
  have hs := h.size
  exact ⟨g.os.trans h.os, g.tape.trans h.tape, g.output.trans h.output, Nat.le_trans hs g.size, fun k hk hx => (g.block k (by omega) fun e => by have := ho.block _ e.symm; omega).trans (h.block k hk hx)⟩
theorem CsAt.catted {b n : Nat} {w2 w3 : World} {v : Value} {l : List (List UInt8)} {cs : List Value} (h : CsAt b cs w2) (hb : b < n) (ho : OwnE rowT w2 n v l) (g : w2.grownBy w3 v.ownBlock) : CsAt b cs w3 :=
  h.block (g.block b h.old fun e => by have := ho.block _ e.symm; omega)
theorem run_catT (a : Option Addr) (len cap : Nat) (hlc : len ≤ cap) (ax : Option Addr) (c : Nat) (ty : TypeId) (w : World) : (Builtin.append_ #[33, 33] ty #[.slice a len cap, .slice ax 0 c]).run Tryd.prog w = .ok (.slice a len cap) w := by
  have hst : ∀ (p : Addr) (w : World), (storeCells p []).run Tryd.prog w = .ok () w := fun _ _ => rfl
  cases ax <;> cases a <;> simp [hlc, hst, Builtin.append_, run_underlying Tryd.underlying33, Builtin.lenOf, Builtin.firstCells, Tryd.sizeOf9, loadCells, loadCellsFrom]
/-- 'append(v, x...)' of rows of texts; x may be empty. -/
theorem wp_catT {ops : Array Oper} {rest : List Oper} {o : Oper} {a : Act} {Q : Exit → Act → World → Prop} {wr : World} (hgd : o.guard = none) (s x : Operand)
    (ho : o.op = .call { callee := .builtin .append, args := #[s, x], argTypes := #[33, 33] }) {base : Nat} {v : Value} {l L : List (List UInt8)} (hown : OwnE rowT wr base v l)
    {ax : Option Addr} {n c : Nat} (hs : a.eval s = v) (hx : a.eval x = .slice ax n c) (hI : IsE rowT wr ax n L) (hl : l.length + L.length ≤ 1000000000) (hb : base ≤ wr.heap.size)
    (h : ∀ v' w', OwnE rowT w' base v' (l ++ L) → wr.grownBy w' v.ownBlock → wpList Tryd.prog ops Q rest (a.put o.dst v') w') :
    wpList Tryd.prog ops Q (o :: rest) a wr := by
  by_cases h0 : L = []
  · subst h0
    obtain rfl : n = 0 := hI.1
    obtain ⟨va, vc, hv, _, hlc⟩ := hown.is
    refine wpList_plain hgd fun _ hK => ?_
    have e : (execOp a.eval o).run Tryd.prog wr = .ok (.value v) wr := by
      rw [hv] at hs ⊢
      unfold execOp
      simp [ho, resolve, invoke, builtin, hs, hx, run_catT _ _ _ hlc, Result.andThen]
    unfold Oper.wp
    rw [e, Oper.upon_value]
    exact hK _ _ (h _ _ (by rw [List.append_nil]; exact hown) (World.grownBy.refl _ _))
  · exact wp_catE (T := rowT) hgd s x ho hown hs hx hI h0 hl hb fun v' w' h1 h2 _ => h v' w' h1 h2

set_option maxHeartbeats 800000 in
theorem rjfeed_ck {b : Nat} {pid : Int} {J : JS} {w : World} (H : RjAt b pid J w) (p : Pkt) (hz : J.hold.length ≤ 5000) (hp : p.body.size ≤ 1000) (hlo : 0 ≤ J.lost ∧ J.lost ≤ 1000000) (hc : ckP p ≠ 0) :
    Calls Tryd.prog 11 #[.pointer (some ⟨b, 0, none⟩), pkV p] w (RjPost w b pid (feed pid J p)) := by
  obtain ⟨sn, ct, bd, HC, HL⟩ := H
  obtain ⟨X, hX⟩ : ∃ X, w.heap.size = X := ⟨_, rfl⟩
  obtain ⟨wA, hA⟩ : ∃ wX, w.alloc (.cells #[.int .i64 p.pid, .bool p.start, .int .i64 p.count, .bool p.bad, .string p.body] 37) = wX := ⟨_, rfl⟩
  have HPA := Lib.hid (show CsAt X (pkC p) wA by rw [← hX, ← hA]; exact CsAt.made w #[.int .i64 p.pid, .bool p.start, .int .i64 p.count, .bool p.bad, .string p.body] _ (by simp))
  have hkA : Keeps w wA := by rw [← hA]; exact (Keeps.refl w).alloc _
  have HJA := Lib.hid (HC.keeps hkA)
  have HOA := Lib.hid (show Only b w wA from Only.below hkA)
  have HBW := Lib.hid HC.old
  have HCK := Lib.hid (rpkcheck_any wA p wA (Keeps.refl wA))
  unfold PkkPost at HCK
  have hbX : b ≠ X := by have := HC.old; omega
  have HBX := Lib.hid hbX
  clear hkA HC hbX
  have HF := Lib.hid (show feed pid J p = (J, [], ckP p) by unfold feed; rw [if_pos hc])
  have hcb : (ckP p != 0) = true := by simpa using hc
  have HL := Lib.hid HL
  obtain ⟨r, hr⟩ : ∃ r, ckP p = r := ⟨_, rfl⟩
  rw [hr] at HCK HF hcb
  clear hc hr
  obtain ⟨pid', start, count, bad, body⟩ := p
  simp only at hA hp
  go_enter Tryd.func11, Tryd.ntmps11
  go_wp2_with (first | (refine wp_ldQ (b := X) (off := 0) HPA.out.r rfl _ rfl rfl ?_) | (go_at_call 25; refine HCK.out.mono ?_; rintro _ w1 ⟨rfl, k1⟩; have HP1 := Lib.hid (HPA.out.keeps k1); have HJ1 := Lib.hid (HJA.out.keeps k1); have HO1 := Lib.hid (HOA.out.trans (Only.below k1)); clear k1))
  go_ret2
  exact RjPost.of HF.out (OwnE.nil _ _) ⟨sn, ct, bd, HJ1.out, HL.out⟩ HO1.out

set_option maxHeartbeats 800000 in
theorem rjfeed_kind {b : Nat} {pid : Int} {J : JS} {w : World} (H : RjAt b pid J w) (p : Pkt) (hz : J.hold.length ≤ 5000) (hp : p.body.size ≤ 1000) (hlo : 0 ≤ J.lost ∧ J.lost ≤ 1000000) (hc : ckP p = 0) (hk : p.pid ≠ pid) :
    Calls Tryd.prog 11 #[.pointer (some ⟨b, 0, none⟩), pkV p] w (RjPost w b pid (feed pid J p)) := by
  obtain ⟨sn, ct, bd, HC, HL⟩ := H
  obtain ⟨X, hX⟩ : ∃ X, w.heap.size = X := ⟨_, rfl⟩
  obtain ⟨wA, hA⟩ : ∃ wX, w.alloc (.cells #[.int .i64 p.pid, .bool p.start, .int .i64 p.count, .bool p.bad, .string p.body] 37) = wX := ⟨_, rfl⟩
  have HPA := Lib.hid (show CsAt X (pkC p) wA by rw [← hX, ← hA]; exact CsAt.made w #[.int .i64 p.pid, .bool p.start, .int .i64 p.count, .bool p.bad, .string p.body] _ (by simp))
  have hkA : Keeps w wA := by rw [← hA]; exact (Keeps.refl w).alloc _
  have HJA := Lib.hid (HC.keeps hkA)
  have HOA := Lib.hid (show Only b w wA from Only.below hkA)
  have HBW := Lib.hid HC.old
  have HCK := Lib.hid (rpkcheck_any wA p wA (Keeps.refl wA))
  unfold PkkPost at HCK
  have hbX : b ≠ X := by have := HC.old; omega
  have HBX := Lib.hid hbX
  clear hkA HC hbX
  have HF := Lib.hid (show feed pid J p = (J, [], 14) by unfold feed; rw [if_neg (by rw [hc]; exact fun x => x rfl), if_pos hk])
  have HL := Lib.hid HL
  rw [hc] at HCK
  clear hc
  obtain ⟨pid', start, count, bad, body⟩ := p
  simp only at hA hp hk
  have hkb : (pid' == pid) = false := by rw [beq_eq_false_iff_ne]; exact hk
  go_enter Tryd.func11, Tryd.ntmps11
  go_wp2_with (first | (refine wp_ldQ (b := X) (off := 0) HPA.out.r rfl _ rfl rfl ?_) | (go_at_call 25; refine HCK.out.mono ?_; rintro _ w1 ⟨rfl, k1⟩; have HP1 := Lib.hid (HPA.out.keeps k1); have HJ1 := Lib.hid (HJA.out.keeps k1); have HO1 := Lib.hid (HOA.out.trans (Only.below k1)); clear k1))
  have p0 := HP1.out.cell 0 rfl
  have j0 := HJ1.out.cell 0 rfl
  go_quiet (fail)
  obtain ⟨w2, hw2⟩ : ∃ w, w1.drewN nq = w := ⟨_, rfl⟩
  have e2 : Eqv w1 w2 := by rw [← hw2]; exact Eqv.drewN _ _
  rw [hw2]
  have HP2 := Lib.hid (HP1.out.eqv e2)
  have HJ2 := Lib.hid (HJ1.out.eqv e2)
  have HO2 := Lib.hid (HO1.out.trans (Only.eqv e2))
  clear hw2 e2
  go_wp2
  go_ret2
  exact RjPost.of HF.out (OwnE.nil _ _) ⟨sn, ct, bd, HJ2.out, HL.out⟩ HO2.out

set_option maxHeartbeats 800000 in
theorem rjfeed_none {b : Nat} {pid : Int} {J : JS} {w : World} (H : RjAt b pid J w) (p : Pkt) (hz : J.hold.length ≤ 5000) (hp : p.body.size ≤ 1000) (hlo : 0 ≤ J.lost ∧ J.lost ≤ 1000000) (hc : ckP p = 0) (hk : p.pid = pid) (hb : p.body.size = 0) :
    Calls Tryd.prog 11 #[.pointer (some ⟨b, 0, none⟩), pkV p] w (RjPost w b pid (feed pid J p)) := by
  obtain ⟨sn, ct, bd, HC, HL⟩ := H
  obtain ⟨X, hX⟩ : ∃ X, w.heap.size = X := ⟨_, rfl⟩
  obtain ⟨wA, hA⟩ : ∃ wX, w.alloc (.cells #[.int .i64 p.pid, .bool p.start, .int .i64 p.count, .bool p.bad, .string p.body] 37) = wX := ⟨_, rfl⟩
  have HPA := Lib.hid (show CsAt X (pkC p) wA by rw [← hX, ← hA]; exact CsAt.made w #[.int .i64 p.pid, .bool p.start, .int .i64 p.count, .bool p.bad, .string p.body] _ (by simp))
  have hkA : Keeps w wA := by rw [← hA]; exact (Keeps.refl w).alloc _
  have HJA := Lib.hid (HC.keeps hkA)
  have HOA := Lib.hid (show Only b w wA from Only.below hkA)
  have HBW := Lib.hid HC.old
  have HCK := Lib.hid (rpkcheck_any wA p wA (Keeps.refl wA))
  unfold PkkPost at HCK
  have hbX : b ≠ X := by have := HC.old; omega
  have HBX := Lib.hid hbX
  clear hkA HC hbX
  have HF := Lib.hid (show feed pid J p = (J, [], 0) by unfold feed; rw [if_neg (by rw [hc]; exact fun x => x rfl), if_neg (fun x => x hk), if_pos (.inl hb)])
  have HL := Lib.hid HL
  rw [hc] at HCK
  clear hc
  obtain ⟨pid', start, count, bad, body⟩ := p
  simp only at hA hp hk hb
  subst hk
  have ht : body.toList = [] := by rw [ls_toList]; exact List.length_eq_zero_iff.1 (by rw [← ls_size]; exact hb)
  go_enter Tryd.func11, Tryd.ntmps11
  go_wp2_with (first | (refine wp_ldQ (b := X) (off := 0) HPA.out.r rfl _ rfl rfl ?_) | (go_at_call 25; refine HCK.out.mono ?_; rintro _ w1 ⟨rfl, k1⟩; have HP1 := Lib.hid (HPA.out.keeps k1); have HJ1 := Lib.hid (HJA.out.keeps k1); have HO1 := Lib.hid (HOA.out.trans (Only.below k1)); clear k1))
  have p0 := HP1.out.cell 0 rfl
  have j0 := HJ1.out.cell 0 rfl
  go_quiet (fail)
  obtain ⟨w2, hw2⟩ : ∃ w, w1.drewN nq = w := ⟨_, rfl⟩
  have e2 : Eqv w1 w2 := by rw [← hw2]; exact Eqv.drewN _ _
  rw [hw2]
  have HP2 := Lib.hid (HP1.out.eqv e2)
  have HJ2 := Lib.hid (HJ1.out.eqv e2)
  have HO2 := Lib.hid (HO1.out.trans (Only.eqv e2))
  clear hw2 e2
  clear p0 j0
  have p2 := HP2.out.cell 2 rfl
  have p4 := HP2.out.cell 4 rfl
  have j3 := HJ2.out.cell 3 rfl
  have j4 := HJ2.out.cell 4 rfl
  have j5 := HJ2.out.cell 5 rfl
  go_wp2
  go_quiet (fail)
  obtain ⟨w3, hw3⟩ : ∃ w, w2.drewN nq = w := ⟨_, rfl⟩
  have e3 : Eqv w2 w3 := by rw [← hw3]; exact Eqv.drewN _ _
  rw [hw3]
  have HP3 := Lib.hid (HP2.out.eqv e3)
  have HJ3 := Lib.hid (HJ2.out.eqv e3)
  have HO3 := Lib.hid (HO2.out.trans (Only.eqv e3))
  clear hw3 e3
  clear p2 p4 j3 j4 j5
  go_wp2
  go_ret2
  exact RjPost.of HF.out (OwnE.nil _ _) ⟨sn, ct, bd, HJ3.out, HL.out⟩ HO3.out

set_option maxHeartbeats 800000 in
theorem rjfeed_again {b : Nat} {pid : Int} {J : JS} {w : World} (H : RjAt b pid J w) (p : Pkt) (hz : J.hold.length ≤ 5000) (hp : p.body.size ≤ 1000) (hlo : 0 ≤ J.lost ∧ J.lost ≤ 1000000) (hc : ckP p = 0) (hk : p.pid = pid) (hb : p.body.size ≠ 0) (ha : again J p = true) :
    Calls Tryd.prog 11 #[.pointer (some ⟨b, 0, none⟩), pkV p] w (RjPost w b pid (feed pid J p)) := by
  obtain ⟨sn, ct, bd, HC, HL⟩ := H
  obtain ⟨X, hX⟩ : ∃ X, w.heap.size = X := ⟨_, rfl⟩
  obtain ⟨wA, hA⟩ : ∃ wX, w.alloc (.cells #[.int .i64 p.pid, .bool p.start, .int .i64 p.count, .bool p.bad, .string p.body] 37) = wX := ⟨_, rfl⟩
  have HPA := Lib.hid (show CsAt X (pkC p) wA by rw [← hX, ← hA]; exact CsAt.made w #[.int .i64 p.pid, .bool p.start, .int .i64 p.count, .bool p.bad, .string p.body] _ (by simp))
  have hkA : Keeps w wA := by rw [← hA]; exact (Keeps.refl w).alloc _
  have HJA := Lib.hid (HC.keeps hkA)
  have HOA := Lib.hid (show Only b w wA from Only.below hkA)
  have HBW := Lib.hid HC.old
  have HCK := Lib.hid (rpkcheck_any wA p wA (Keeps.refl wA))
  unfold PkkPost at HCK
  have hbX : b ≠ X := by have := HC.old; omega
  have HBX := Lib.hid hbX
  clear hkA HC hbX
  have HF := Lib.hid (show feed pid J p = (J, [], 0) by unfold feed; rw [if_neg (by rw [hc]; exact fun x => x rfl), if_neg (fun x => x hk), if_pos (.inr ha)])
  obtain ⟨q, hq, rfl, rfl, hbd, hct⟩ : ∃ q, J.last = some q ∧ sn = true ∧ ct = q.1 ∧ ls bd = q.2 ∧ 0 ≤ ct ∧ ct ≤ 15 := by
    rcases HL with ⟨h, _⟩ | h
    · unfold again at ha; rw [h] at ha; cases ha
    · exact h
  have HLX := Lib.hid hq
  unfold again at ha
  rw [hq] at ha
  obtain ⟨a1, a2⟩ := of_decide_eq_true ha
  have hbb : p.body = bd := by rw [← st_ls p.body, a2, ← hbd, st_ls]
  have HBD := Lib.hid hbd
  have HCT := Lib.hid hct
  rw [hc] at HCK
  obtain ⟨c0, b0⟩ := q
  simp only at a1 HJA HCT
  clear hc ha hq hbd hct a2
  obtain ⟨pid', start, count, bad, body⟩ := p
  simp only at hA hp hk hb a1 hbb
  subst hk a1 hbb
  have ht : (body.toList == []) = false := by
    rw [beq_eq_false_iff_ne, ls_toList]; intro e
    have h3 : body.size = 0 := by rw [ls_size, e]; rfl
    exact hb h3
  go_enter Tryd.func11, Tryd.ntmps11
  go_wp2_with (first | (refine wp_ldQ (b := X) (off := 0) HPA.out.r rfl _ rfl rfl ?_) | (go_at_call 25; refine HCK.out.mono ?_; rintro _ w1 ⟨rfl, k1⟩; have HP1 := Lib.hid (HPA.out.keeps k1); have HJ1 := Lib.hid (HJA.out.keeps k1); have HO1 := Lib.hid (HOA.out.trans (Only.below k1)); clear k1))
  have p0 := HP1.out.cell 0 rfl
  have j0 := HJ1.out.cell 0 rfl
  go_quiet (fail)
  obtain ⟨w2, hw2⟩ : ∃ w, w1.drewN nq = w := ⟨_, rfl⟩
  have e2 : Eqv w1 w2 := by rw [← hw2]; exact Eqv.drewN _ _
  rw [hw2]
  have HP2 := Lib.hid (HP1.out.eqv e2)
  have HJ2 := Lib.hid (HJ1.out.eqv e2)
  have HO2 := Lib.hid (HO1.out.trans (Only.eqv e2))
  clear hw2 e2
  clear p0 j0
  have p2 := HP2.out.cell 2 rfl
  have p4 := HP2.out.cell 4 rfl
  have j3 := HJ2.out.cell 3 rfl
  have j4 := HJ2.out.cell 4 rfl
  have j5 := HJ2.out.cell 5 rfl
  go_wp2
  go_quiet (fail)
  obtain ⟨w3, hw3⟩ : ∃ w, w2.drewN nq = w := ⟨_, rfl⟩
  have e3 : Eqv w2 w3 := by rw [← hw3]; exact Eqv.drewN _ _
  rw [hw3]
  have HP3 := Lib.hid (HP2.out.eqv e3)
  have HJ3 := Lib.hid (HJ2.out.eqv e3)
  have HO3 := Lib.hid (HO2.out.trans (Only.eqv e3))
  clear hw3 e3
  clear p2 p4 j3 j4 j5
  go_wp2
  go_ret2
  exact RjPost.of HF.out (OwnE.nil _ _) ⟨true, count, body, HJ3.out, .inr ⟨_, HLX.out, rfl, rfl, HBD.out, HCT.out⟩⟩ HO3.out

set_option maxHeartbeats 800000 in
theorem rjfeed_bad_n {b : Nat} {pid : Int} {J : JS} {w : World} (H : RjAt b pid J w) (p : Pkt) (hz : J.hold.length ≤ 5000) (hp : p.body.size ≤ 1000) (hlo : 0 ≤ J.lost ∧ J.lost ≤ 1000000) (hc : ckP p = 0) (hk : p.pid = pid) (hb : p.body.size ≠ 0) (ha : again J p = false) (hbad : p.bad = true) (hl : J.last = none) :
    Calls Tryd.prog 11 #[.pointer (some ⟨b, 0, none⟩), pkV p] w (RjPost w b pid (feed pid J p)) := by
  obtain ⟨sn, ct, bd, HC, HL⟩ := H
  obtain ⟨X, hX⟩ : ∃ X, w.heap.size = X := ⟨_, rfl⟩
  obtain ⟨wA, hA⟩ : ∃ wX, w.alloc (.cells #[.int .i64 p.pid, .bool p.start, .int .i64 p.count, .bool p.bad, .string p.body] 37) = wX := ⟨_, rfl⟩
  have HPA := Lib.hid (show CsAt X (pkC p) wA by rw [← hX, ← hA]; exact CsAt.made w #[.int .i64 p.pid, .bool p.start, .int .i64 p.count, .bool p.bad, .string p.body] _ (by simp))
  have hkA : Keeps w wA := by rw [← hA]; exact (Keeps.refl w).alloc _
  have HJA := Lib.hid (HC.keeps hkA)
  have HOA := Lib.hid (show Only b w wA from Only.below hkA)
  have HBW := Lib.hid HC.old
  have HCK := Lib.hid (rpkcheck_any wA p wA (Keeps.refl wA))
  unfold PkkPost at HCK
  have hbX : b ≠ X := by have := HC.old; omega
  have HBX := Lib.hid hbX
  clear hkA HC hbX
  have HF := Lib.hid (show feed pid J p = (⟨[], false, none, J.lost + 1⟩, [], 21) by
    unfold feed; rw [if_neg (by rw [hc]; exact fun x => x rfl), if_neg (fun x => x hk), if_neg (fun x => x.elim hb (fun y => by rw [ha] at y; cases y)), if_pos hbad])
  obtain rfl : sn = false := by
    rcases HL with ⟨_, h⟩ | ⟨q, h, _⟩
    · exact h
    · rw [hl] at h; cases h
  clear HL
  rw [hc] at HCK
  clear hc ha hl
  obtain ⟨pid', start, count, bad, body⟩ := p
  simp only at hA hp hk hb hbad
  subst hk hbad
  have ht : (body.toList == []) = false := by
    rw [beq_eq_false_iff_ne, ls_toList]; intro e
    have h3 : body.size = 0 := by rw [ls_size, e]; rfl
    exact hb h3
  obtain ⟨lost, hlost⟩ : ∃ n, J.lost = n := ⟨_, rfl⟩
  rw [hlost] at hlo HJA HF
  have wr2 := wrapI (a := lost + 1) (by omega) (by omega)
  have hbX := HBX.out
  go_enter Tryd.func11, Tryd.ntmps11
  go_wp2_with (first | (refine wp_ldQ (b := X) (off := 0) HPA.out.r rfl _ rfl rfl ?_) | (go_at_call 25; refine HCK.out.mono ?_; rintro _ w1 ⟨rfl, k1⟩; have HP1 := Lib.hid (HPA.out.keeps k1); have HJ1 := Lib.hid (HJA.out.keeps k1); have HO1 := Lib.hid (HOA.out.trans (Only.below k1)); clear k1))
  have p0 := HP1.out.cell 0 rfl
  have j0 := HJ1.out.cell 0 rfl
  go_quiet (fail)
  obtain ⟨w2, hw2⟩ : ∃ w, w1.drewN nq = w := ⟨_, rfl⟩
  have e2 : Eqv w1 w2 := by rw [← hw2]; exact Eqv.drewN _ _
  rw [hw2]
  have HP2 := Lib.hid (HP1.out.eqv e2)
  have HJ2 := Lib.hid (HJ1.out.eqv e2)
  have HO2 := Lib.hid (HO1.out.trans (Only.eqv e2))
  clear hw2 e2
  clear p0 j0
  have p2 := HP2.out.cell 2 rfl
  have p4 := HP2.out.cell 4 rfl
  have j3 := HJ2.out.cell 3 rfl
  have j4 := HJ2.out.cell 4 rfl
  have j5 := HJ2.out.cell 5 rfl
  go_wp2
  go_quiet (fail)
  obtain ⟨w3, hw3⟩ : ∃ w, w2.drewN nq = w := ⟨_, rfl⟩
  have e3 : Eqv w2 w3 := by rw [← hw3]; exact Eqv.drewN _ _
  rw [hw3]
  have HP3 := Lib.hid (HP2.out.eqv e3)
  have HJ3 := Lib.hid (HJ2.out.eqv e3)
  have HO3 := Lib.hid (HO2.out.trans (Only.eqv e3))
  clear hw3 e3
  clear p2 p4 j3 j4 j5
  have p3 := HP3.out.cell 3 rfl
  go_wp2_with ((go_at_call 26; refine (rjlose_any HJ3.out).mono ?_; rintro _ w4 ⟨⟨v4, rfl⟩, c4, o4⟩; have HJ4 := Lib.hid c4; have HO4 := Lib.hid (HO3.out.trans o4); have HP4 := Lib.hid (HP3.out.only (Ne.symm HBX.out) o4); clear c4 o4; have j1 := HJ4.out.cell 1 rfl; have f1 := HJ4.out.fz 1 (by show 1 < 7; decide); have j2 := HJ4.out.cell 2 rfl; have f2 := HJ4.out.fz 2 (by show 2 < 7; decide); have j3 := HJ4.out.cell 3 rfl; have f3 := HJ4.out.fz 3 (by show 3 < 7; decide); have j4 := HJ4.out.cell 4 rfl; have f4 := HJ4.out.fz 4 (by show 4 < 7; decide); have j5 := HJ4.out.cell 5 rfl; have f5 := HJ4.out.fz 5 (by show 5 < 7; decide); have j6 := HJ4.out.cell 6 rfl; have f6 := HJ4.out.fz 6 (by show 6 < 7; decide); have p1 := HP4.out.cell 1 rfl; have p2 := HP4.out.cell 2 rfl; have p4 := HP4.out.cell 4 rfl))
  go_ret2
  exact RjPost.of HF.out (OwnE.nil _ _) ⟨false, _, _, (HJ4.out.set 3 (by show 3 < 7; decide) (.bool false)).set 6 (by show 6 < 7; decide) (.int .i64 (lost + 1)), .inl ⟨rfl, rfl⟩⟩ ((HO4.out.trans (Only.setCell _ ⟨b, 3, none⟩ _)).trans (Only.setCell _ ⟨b, 6, none⟩ _))

set_option maxHeartbeats 800000 in
theorem rjfeed_bad_s {b : Nat} {pid : Int} {J : JS} {w : World} (H : RjAt b pid J w) (p : Pkt) (hz : J.hold.length ≤ 5000) (hp : p.body.size ≤ 1000) (hlo : 0 ≤ J.lost ∧ J.lost ≤ 1000000) (hc : ckP p = 0) (hk : p.pid = pid) (hb : p.body.size ≠ 0) (ha : again J p = false) (hbad : p.bad = true) (c0 : Int) (b0 : List UInt8) (hl : J.last = some (c0, b0)) (hd : p.count = c0 ∧ ls p.body ≠ b0) :
    Calls Tryd.prog 11 #[.pointer (some ⟨b, 0, none⟩), pkV p] w (RjPost w b pid (feed pid J p)) := by
  obtain ⟨sn, ct, bd, HC, HL⟩ := H
  obtain ⟨X, hX⟩ : ∃ X, w.heap.size = X := ⟨_, rfl⟩
  obtain ⟨wA, hA⟩ : ∃ wX, w.alloc (.cells #[.int .i64 p.pid, .bool p.start, .int .i64 p.count, .bool p.bad, .string p.body] 37) = wX := ⟨_, rfl⟩
  have HPA := Lib.hid (show CsAt X (pkC p) wA by rw [← hX, ← hA]; exact CsAt.made w #[.int .i64 p.pid, .bool p.start, .int .i64 p.count, .bool p.bad, .string p.body] _ (by simp))
  have hkA : Keeps w wA := by rw [← hA]; exact (Keeps.refl w).alloc _
  have HJA := Lib.hid (HC.keeps hkA)
  have HOA := Lib.hid (show Only b w wA from Only.below hkA)
  have HBW := Lib.hid HC.old
  have HCK := Lib.hid (rpkcheck_any wA p wA (Keeps.refl wA))
  unfold PkkPost at HCK
  have hbX : b ≠ X := by have := HC.old; omega
  have HBX := Lib.hid hbX
  clear hkA HC hbX
  have HF := Lib.hid (show feed pid J p = (⟨[], false, none, J.lost + 1⟩, [], 21) by
    unfold feed; rw [if_neg (by rw [hc]; exact fun x => x rfl), if_neg (fun x => x hk), if_neg (fun x => x.elim hb (fun y => by rw [ha] at y; cases y)), if_pos hbad])
  obtain ⟨rfl, rfl, hbd, hct⟩ : sn = true ∧ ct = c0 ∧ ls bd = b0 ∧ 0 ≤ ct ∧ ct ≤ 15 := by
    rcases HL with ⟨h, _⟩ | ⟨q, h, h1, h2, h3, h4⟩
    · rw [hl] at h; cases h
    · rw [hl] at h; cases h; exact ⟨h1, h2, h3, h4⟩
  clear HL
  rw [hc] at HCK
  clear hc ha hl
  obtain ⟨pid', start, count, bad, body⟩ := p
  simp only at hA hp hk hb hbad hd
  subst hk hbad
  have ht : (body.toList == []) = false := by
    rw [beq_eq_false_iff_ne, ls_toList]; intro e
    have h3 : body.size = 0 := by rw [ls_size, e]; rfl
    exact hb h3
  obtain ⟨hd1, hd2⟩ := hd
  subst hd1
  have hbb : (body.toList == bd.toList) = false := by
    rw [beq_eq_false_iff_ne, ls_toList, ls_toList, hbd]; exact hd2
  obtain ⟨lost, hlost⟩ : ∃ n, J.lost = n := ⟨_, rfl⟩
  rw [hlost] at hlo HJA HF
  have wr2 := wrapI (a := lost + 1) (by omega) (by omega)
  have hbX := HBX.out
  go_enter Tryd.func11, Tryd.ntmps11
  go_wp2_with (first | (refine wp_ldQ (b := X) (off := 0) HPA.out.r rfl _ rfl rfl ?_) | (go_at_call 25; refine HCK.out.mono ?_; rintro _ w1 ⟨rfl, k1⟩; have HP1 := Lib.hid (HPA.out.keeps k1); have HJ1 := Lib.hid (HJA.out.keeps k1); have HO1 := Lib.hid (HOA.out.trans (Only.below k1)); clear k1))
  have p0 := HP1.out.cell 0 rfl
  have j0 := HJ1.out.cell 0 rfl
  go_quiet (fail)
  obtain ⟨w2, hw2⟩ : ∃ w, w1.drewN nq = w := ⟨_, rfl⟩
  have e2 : Eqv w1 w2 := by rw [← hw2]; exact Eqv.drewN _ _
  rw [hw2]
  have HP2 := Lib.hid (HP1.out.eqv e2)
  have HJ2 := Lib.hid (HJ1.out.eqv e2)
  have HO2 := Lib.hid (HO1.out.trans (Only.eqv e2))
  clear hw2 e2
  clear p0 j0
  have p2 := HP2.out.cell 2 rfl
  have p4 := HP2.out.cell 4 rfl
  have j3 := HJ2.out.cell 3 rfl
  have j4 := HJ2.out.cell 4 rfl
  have j5 := HJ2.out.cell 5 rfl
  go_wp2
  go_quiet (fail)
  obtain ⟨w3, hw3⟩ : ∃ w, w2.drewN nq = w := ⟨_, rfl⟩
  have e3 : Eqv w2 w3 := by rw [← hw3]; exact Eqv.drewN _ _
  rw [hw3]
  have HP3 := Lib.hid (HP2.out.eqv e3)
  have HJ3 := Lib.hid (HJ2.out.eqv e3)
  have HO3 := Lib.hid (HO2.out.trans (Only.eqv e3))
  clear hw3 e3
  clear p2 p4 j3 j4 j5
  have p3 := HP3.out.cell 3 rfl
  go_wp2_with ((go_at_call 26; refine (rjlose_any HJ3.out).mono ?_; rintro _ w4 ⟨⟨v4, rfl⟩, c4, o4⟩; have HJ4 := Lib.hid c4; have HO4 := Lib.hid (HO3.out.trans o4); have HP4 := Lib.hid (HP3.out.only (Ne.symm HBX.out) o4); clear c4 o4; have j1 := HJ4.out.cell 1 rfl; have f1 := HJ4.out.fz 1 (by show 1 < 7; decide); have j2 := HJ4.out.cell 2 rfl; have f2 := HJ4.out.fz 2 (by show 2 < 7; decide); have j3 := HJ4.out.cell 3 rfl; have f3 := HJ4.out.fz 3 (by show 3 < 7; decide); have j4 := HJ4.out.cell 4 rfl; have f4 := HJ4.out.fz 4 (by show 4 < 7; decide); have j5 := HJ4.out.cell 5 rfl; have f5 := HJ4.out.fz 5 (by show 5 < 7; decide); have j6 := HJ4.out.cell 6 rfl; have f6 := HJ4.out.fz 6 (by show 6 < 7; decide); have p1 := HP4.out.cell 1 rfl; have p2 := HP4.out.cell 2 rfl; have p4 := HP4.out.cell 4 rfl))
  go_ret2
  exact RjPost.of HF.out (OwnE.nil _ _) ⟨false, _, _, (HJ4.out.set 3 (by show 3 < 7; decide) (.bool false)).set 6 (by show 6 < 7; decide) (.int .i64 (lost + 1)), .inl ⟨rfl, rfl⟩⟩ ((HO4.out.trans (Only.setCell _ ⟨b, 3, none⟩ _)).trans (Only.setCell _ ⟨b, 6, none⟩ _))

set_option maxHeartbeats 800000 in
theorem rjfeed_bad_o {b : Nat} {pid : Int} {J : JS} {w : World} (H : RjAt b pid J w) (p : Pkt) (hz : J.hold.length ≤ 5000) (hp : p.body.size ≤ 1000) (hlo : 0 ≤ J.lost ∧ J.lost ≤ 1000000) (hc : ckP p = 0) (hk : p.pid = pid) (hb : p.body.size ≠ 0) (ha : again J p = false) (hbad : p.bad = true) (c0 : Int) (b0 : List UInt8) (hl : J.last = some (c0, b0)) (hd : p.count ≠ c0) :
    Calls Tryd.prog 11 #[.pointer (some ⟨b, 0, none⟩), pkV p] w (RjPost w b pid (feed pid J p)) := by
  obtain ⟨sn, ct, bd, HC, HL⟩ := H
  obtain ⟨X, hX⟩ : ∃ X, w.heap.size = X := ⟨_, rfl⟩
  obtain ⟨wA, hA⟩ : ∃ wX, w.alloc (.cells #[.int .i64 p.pid, .bool p.start, .int .i64 p.count, .bool p.bad, .string p.body] 37) = wX := ⟨_, rfl⟩
  have HPA := Lib.hid (show CsAt X (pkC p) wA by rw [← hX, ← hA]; exact CsAt.made w #[.int .i64 p.pid, .bool p.start, .int .i64 p.count, .bool p.bad, .string p.body] _ (by simp))
  have hkA : Keeps w wA := by rw [← hA]; exact (Keeps.refl w).alloc _
  have HJA := Lib.hid (HC.keeps hkA)
  have HOA := Lib.hid (show Only b w wA from Only.below hkA)
  have HBW := Lib.hid HC.old
  have HCK := Lib.hid (rpkcheck_any wA p wA (Keeps.refl wA))
  unfold PkkPost at HCK
  have hbX : b ≠ X := by have := HC.old; omega
  have HBX := Lib.hid hbX
  clear hkA HC hbX
  have HF := Lib.hid (show feed pid J p = (⟨[], false, none, J.lost + 1⟩, [], 21) by
    unfold feed; rw [if_neg (by rw [hc]; exact fun x => x rfl), if_neg (fun x => x hk), if_neg (fun x => x.elim hb (fun y => by rw [ha] at y; cases y)), if_pos hbad])
  obtain ⟨rfl, rfl, hbd, hct⟩ : sn = true ∧ ct = c0 ∧ ls bd = b0 ∧ 0 ≤ ct ∧ ct ≤ 15 := by
    rcases HL with ⟨h, _⟩ | ⟨q, h, h1, h2, h3, h4⟩
    · rw [hl] at h; cases h
    · rw [hl] at h; cases h; exact ⟨h1, h2, h3, h4⟩
  clear HL
  rw [hc] at HCK
  clear hc ha hl
  obtain ⟨pid', start, count, bad, body⟩ := p
  simp only at hA hp hk hb hbad hd
  subst hk hbad
  have ht : (body.toList == []) = false := by
    rw [beq_eq_false_iff_ne, ls_toList]; intro e
    have h3 : body.size = 0 := by rw [ls_size, e]; rfl
    exact hb h3
  have hcc : (count == ct) = false := by rw [beq_eq_false_iff_ne]; exact hd
  obtain ⟨lost, hlost⟩ : ∃ n, J.lost = n := ⟨_, rfl⟩
  rw [hlost] at hlo HJA HF
  have wr2 := wrapI (a := lost + 1) (by omega) (by omega)
  have hbX := HBX.out
  go_enter Tryd.func11, Tryd.ntmps11
  go_wp2_with (first | (refine wp_ldQ (b := X) (off := 0) HPA.out.r rfl _ rfl rfl ?_) | (go_at_call 25; refine HCK.out.mono ?_; rintro _ w1 ⟨rfl, k1⟩; have HP1 := Lib.hid (HPA.out.keeps k1); have HJ1 := Lib.hid (HJA.out.keeps k1); have HO1 := Lib.hid (HOA.out.trans (Only.below k1)); clear k1))
  have p0 := HP1.out.cell 0 rfl
  have j0 := HJ1.out.cell 0 rfl
  go_quiet (fail)
  obtain ⟨w2, hw2⟩ : ∃ w, w1.drewN nq = w := ⟨_, rfl⟩
  have e2 : Eqv w1 w2 := by rw [← hw2]; exact Eqv.drewN _ _
  rw [hw2]
  have HP2 := Lib.hid (HP1.out.eqv e2)
  have HJ2 := Lib.hid (HJ1.out.eqv e2)
  have HO2 := Lib.hid (HO1.out.trans (Only.eqv e2))
  clear hw2 e2
  clear p0 j0
  have p2 := HP2.out.cell 2 rfl
  have p4 := HP2.out.cell 4 rfl
  have j3 := HJ2.out.cell 3 rfl
  have j4 := HJ2.out.cell 4 rfl
  have j5 := HJ2.out.cell 5 rfl
  go_wp2
  go_quiet (fail)
  obtain ⟨w3, hw3⟩ : ∃ w, w2.drewN nq = w := ⟨_, rfl⟩
  have e3 : Eqv w2 w3 := by rw [← hw3]; exact Eqv.drewN _ _
  rw [hw3]
  have HP3 := Lib.hid (HP2.out.eqv e3)
  have HJ3 := Lib.hid (HJ2.out.eqv e3)
  have HO3 := Lib.hid (HO2.out.trans (Only.eqv e3))
  clear hw3 e3
  clear p2 p4 j3 j4 j5
  have p3 := HP3.out.cell 3 rfl
  go_wp2_with ((go_at_call 26; refine (rjlose_any HJ3.out).mono ?_; rintro _ w4 ⟨⟨v4, rfl⟩, c4, o4⟩; have HJ4 := Lib.hid c4; have HO4 := Lib.hid (HO3.out.trans o4); have HP4 := Lib.hid (HP3.out.only (Ne.symm HBX.out) o4); clear c4 o4; have j1 := HJ4.out.cell 1 rfl; have f1 := HJ4.out.fz 1 (by show 1 < 7; decide); have j2 := HJ4.out.cell 2 rfl; have f2 := HJ4.out.fz 2 (by show 2 < 7; decide); have j3 := HJ4.out.cell 3 rfl; have f3 := HJ4.out.fz 3 (by show 3 < 7; decide); have j4 := HJ4.out.cell 4 rfl; have f4 := HJ4.out.fz 4 (by show 4 < 7; decide); have j5 := HJ4.out.cell 5 rfl; have f5 := HJ4.out.fz 5 (by show 5 < 7; decide); have j6 := HJ4.out.cell 6 rfl; have f6 := HJ4.out.fz 6 (by show 6 < 7; decide); have p1 := HP4.out.cell 1 rfl; have p2 := HP4.out.cell 2 rfl; have p4 := HP4.out.cell 4 rfl))
  go_ret2
  exact RjPost.of HF.out (OwnE.nil _ _) ⟨false, _, _, (HJ4.out.set 3 (by show 3 < 7; decide) (.bool false)).set 6 (by show 6 < 7; decide) (.int .i64 (lost + 1)), .inl ⟨rfl, rfl⟩⟩ ((HO4.out.trans (Only.setCell _ ⟨b, 3, none⟩ _)).trans (Only.setCell _ ⟨b, 6, none⟩ _))

theorem feed_go {pid : Int} {J : JS} {p : Pkt} (hc : ckP p = 0) (hk : p.pid = pid) (hb : p.body.size ≠ 0) (ha : again J p = false) (hbad : p.bad = false) : feed pid J p = feedB (lookJ J p) p.start (ls p.body) (gapE J p) := by
  unfold feed
  rw [if_neg (by rw [hc]; exact fun x => x rfl), if_neg (fun x => x hk), if_neg (fun x => x.elim hb (fun y => by rw [ha] at y; cases y)), if_neg (by rw [hbad]; decide)]
theorem seen_gap {J : JS} {p : Pkt} (h : gap J p = true) : lookJ J p = ⟨[], false, some (p.count, ls p.body), J.lost + 1⟩ ∧ gapE J p = 21 := by unfold lookJ gapE; rw [if_pos h, if_pos h]; exact ⟨rfl, rfl⟩
theorem seen_no {J : JS} {p : Pkt} (h : gap J p = false) : lookJ J p = ⟨J.hold, J.fol, some (p.count, ls p.body), J.lost⟩ ∧ gapE J p = 0 := by unfold lookJ gapE; rw [if_neg (by rw [h]; decide), if_neg (by rw [h]; decide)]; exact ⟨rfl, rfl⟩

theorem tkF_few_out : ∀ (f : Nat) (l : List UInt8), l.length ≤ f → (tkF f l).out.length ≤ l.length
  | 0, l, h => by
    have : l = [] := List.length_eq_zero_iff.1 (by omega)
    subst this; exact Nat.le_refl _
  | f + 1, l, h => by
    by_cases h0 : l = []
    · subst h0; rw [tkF_nil]; exact Nat.le_refl _
    by_cases h1 : cf l 0 = 255
    · rw [tkF_end h0 h1]; exact Nat.zero_le _
    by_cases h2 : l.length < 3
    · rw [tkF_few h0 h1 h2]; exact Nat.zero_le _
    by_cases h3 : (Sct.need l).2 = 0
    · have hn := need_ge h3
      by_cases h4 : l.length < (Sct.need l).1.toNat
      · rw [tkF_wait h1 h2 h3 h4]; exact Nat.zero_le _
      · rw [tkF_sec h1 h2 h3 h4]
        have := tkF_few_out f (l.drop (Sct.need l).1.toNat) (by rw [List.length_drop]; omega)
        rw [List.length_drop] at this
        simp only [List.length_cons]; omega
    · rw [tkF_bad h1 h2 h3]; exact Nat.zero_le _
theorem tk_few_out (l : List UInt8) : (tk l).out.length ≤ l.length := tkF_few_out _ l (Nat.le_refl _)

set_option maxHeartbeats 12800000 in
theorem rjfeed_n {b : Nat} {pid : Int} {J : JS} {w : World} (H : RjAt b pid J w) (p : Pkt) (hz : J.hold.length ≤ 5000) (hp : p.body.size ≤ 1000) (hlo : 0 ≤ J.lost ∧ J.lost ≤ 1000000) (hc : ckP p = 0) (hk : p.pid = pid) (hb : p.body.size ≠ 0) (ha : again J p = false) (hbad : p.bad = false) (hcn : 0 ≤ p.count ∧ p.count ≤ 15) (hl : J.last = none) :
    Calls Tryd.prog 11 #[.pointer (some ⟨b, 0, none⟩), pkV p] w (RjPost w b pid (feed pid J p)) := by
  obtain ⟨sn, ct, bd, HC, HL⟩ := H
  obtain ⟨X, hX⟩ : ∃ X, w.heap.size = X := ⟨_, rfl⟩
  obtain ⟨wA, hA⟩ : ∃ wX, w.alloc (.cells #[.int .i64 p.pid, .bool p.start, .int .i64 p.count, .bool p.bad, .string p.body] 37) = wX := ⟨_, rfl⟩
  have HPA := Lib.hid (show CsAt X (pkC p) wA by rw [← hX, ← hA]; exact CsAt.made w #[.int .i64 p.pid, .bool p.start, .int .i64 p.count, .bool p.bad, .string p.body] _ (by simp))
  have hkA : Keeps w wA := by rw [← hA]; exact (Keeps.refl w).alloc _
  have HJA := Lib.hid (HC.keeps hkA)
  have HOA := Lib.hid (show Only b w wA from Only.below hkA)
  have HBW := Lib.hid HC.old
  have HCK := Lib.hid (rpkcheck_any wA p wA (Keeps.refl wA))
  unfold PkkPost at HCK
  have hbX : b ≠ X := by have := HC.old; omega
  have HBX := Lib.hid hbX
  clear hkA HC hbX
  obtain rfl : sn = false := by
    rcases HL with ⟨_, h⟩ | ⟨q, h, _⟩
    · exact h
    · rw [hl] at h; cases h
  clear HL
  have hgap := show gap J p = false by unfold gap; rw [hl]
  have HFG := feed_go hc hk hb ha hbad
  rw [(seen_no hgap).1, (seen_no hgap).2] at HFG
  rw [hc] at HCK
  obtain ⟨hold, hhold⟩ : ∃ n, J.hold = n := ⟨_, rfl⟩
  obtain ⟨fol, hfol⟩ : ∃ n, J.fol = n := ⟨_, rfl⟩
  obtain ⟨lost, hlost⟩ : ∃ n, J.lost = n := ⟨_, rfl⟩
  rw [hlost] at hlo
  rw [hhold] at hz
  simp only [hhold, hfol, hlost] at HJA HFG
  clear hc ha hl hgap hhold hfol hlost
  obtain ⟨pid', start, count, bad, body⟩ := p
  simp only at hA hp hk hb hbad HFG
  subst hk hbad
  have ht : (body.toList == []) = false := by
    rw [beq_eq_false_iff_ne, ls_toList]; intro e
    have h3 : body.size = 0 := by rw [ls_size, e]; rfl
    exact hb h3
  have hbX := HBX.out
  have HHB := Lib.hid hb
  have HHP := Lib.hid hp
  have HCT := Lib.hid hcn
  clear hb
  cases start
  · cases fol
    · have HF := Lib.hid (HFG.trans (feedB_off rfl _ _))
      clear HFG
      go_enter Tryd.func11, Tryd.ntmps11
      go_wp2_with (first | (refine wp_ldQ (b := X) (off := 0) HPA.out.r rfl _ rfl rfl ?_) | (go_at_call 25; refine HCK.out.mono ?_; rintro _ w1 ⟨rfl, k1⟩; have HP1 := Lib.hid (HPA.out.keeps k1); have HJ1 := Lib.hid (HJA.out.keeps k1); have HO1 := Lib.hid (HOA.out.trans (Only.below k1)); clear k1))
      have p0 := HP1.out.cell 0 rfl
      have j0 := HJ1.out.cell 0 rfl
      go_quiet (fail)
      obtain ⟨w2, hw2⟩ : ∃ w, w1.drewN nq = w := ⟨_, rfl⟩
      have e2 : Eqv w1 w2 := by rw [← hw2]; exact Eqv.drewN _ _
      rw [hw2]
      have HP2 := Lib.hid (HP1.out.eqv e2)
      have HJ2 := Lib.hid (HJ1.out.eqv e2)
      have HO2 := Lib.hid (HO1.out.trans (Only.eqv e2))
      clear hw2 e2
      clear p0 j0
      have p2 := HP2.out.cell 2 rfl
      have p4 := HP2.out.cell 4 rfl
      have j3 := HJ2.out.cell 3 rfl
      have j4 := HJ2.out.cell 4 rfl
      have j5 := HJ2.out.cell 5 rfl
      go_wp2
      go_quiet (fail)
      obtain ⟨w3, hw3⟩ : ∃ w, w2.drewN nq = w := ⟨_, rfl⟩
      have e3 : Eqv w2 w3 := by rw [← hw3]; exact Eqv.drewN _ _
      rw [hw3]
      have HP3 := Lib.hid (HP2.out.eqv e3)
      have HJ3 := Lib.hid (HJ2.out.eqv e3)
      have HO3 := Lib.hid (HO2.out.trans (Only.eqv e3))
      clear hw3 e3
      clear p2 p4 j3 j4 j5
      have p3 := HP3.out.cell 3 rfl
      have j3 := HJ3.out.cell 3 rfl
      go_wp2
      go_quiet (fail)
      obtain ⟨w4, hw4⟩ : ∃ w, w3.drewN nq = w := ⟨_, rfl⟩
      have e4 : Eqv w3 w4 := by rw [← hw4]; exact Eqv.drewN _ _
      rw [hw4]
      have HP4 := Lib.hid (HP3.out.eqv e4)
      have HJ4 := Lib.hid (HJ3.out.eqv e4)
      have HO4 := Lib.hid (HO3.out.trans (Only.eqv e4))
      clear hw4 e4
      clear p3 j3
      have j1 := HJ4.out.cell 1 rfl
      have f1 := HJ4.out.fz 1 (by show 1 < 7; decide)
      have j2 := HJ4.out.cell 2 rfl
      have f2 := HJ4.out.fz 2 (by show 2 < 7; decide)
      have j3 := HJ4.out.cell 3 rfl
      have f3 := HJ4.out.fz 3 (by show 3 < 7; decide)
      have j4 := HJ4.out.cell 4 rfl
      have f4 := HJ4.out.fz 4 (by show 4 < 7; decide)
      have j5 := HJ4.out.cell 5 rfl
      have f5 := HJ4.out.fz 5 (by show 5 < 7; decide)
      have j6 := HJ4.out.cell 6 rfl
      have f6 := HJ4.out.fz 6 (by show 6 < 7; decide)
      have p1 := HP4.out.cell 1 rfl
      have p2 := HP4.out.cell 2 rfl
      have p4 := HP4.out.cell 4 rfl
      go_wp2
      go_ret2
      exact RjPost.of HF.out (OwnE.nil _ _) ⟨true, count, body, ((HJ4.out.set 3 (by show 3 < 7; decide) (.bool true)).set 4 (by show 4 < 7; decide) (.int .i64 count)).set 5 (by show 5 < 7; decide) (.string body), .inr ⟨_, rfl, rfl, rfl, rfl, HCT.out⟩⟩ (((HO4.out.trans (Only.setCell _ ⟨b, 3, none⟩ _)).trans (Only.setCell _ ⟨b, 4, none⟩ _)).trans (Only.setCell _ ⟨b, 5, none⟩ _))
    · have HF := HFG.trans (feedB_on rfl _ _)
      clear HFG
      have HTK := Lib.hid (fun W (h : CsAt b (rjC pid' (st hold) true true count body lost) W) => rjtake_any h body (by rw [st_size]; omega) (by omega))
      rw [ls_st] at HTK
      unfold takes at HF
      obtain ⟨⟨out1, hold1, fol1, ok1⟩, ht1⟩ : ∃ t, tk (hold ++ ls body) = t := ⟨_, rfl⟩
      simp only [ht1] at HTK HF
      unfold TkPost at HTK
      simp only at HTK
      clear ht1
      cases ok1
      · replace HF := Lib.hid HF
        go_enter Tryd.func11, Tryd.ntmps11
        go_wp2_with (first | (refine wp_ldQ (b := X) (off := 0) HPA.out.r rfl _ rfl rfl ?_) | (go_at_call 25; refine HCK.out.mono ?_; rintro _ w1 ⟨rfl, k1⟩; have HP1 := Lib.hid (HPA.out.keeps k1); have HJ1 := Lib.hid (HJA.out.keeps k1); have HO1 := Lib.hid (HOA.out.trans (Only.below k1)); clear k1))
        have p0 := HP1.out.cell 0 rfl
        have j0 := HJ1.out.cell 0 rfl
        go_quiet (fail)
        obtain ⟨w2, hw2⟩ : ∃ w, w1.drewN nq = w := ⟨_, rfl⟩
        have e2 : Eqv w1 w2 := by rw [← hw2]; exact Eqv.drewN _ _
        rw [hw2]
        have HP2 := Lib.hid (HP1.out.eqv e2)
        have HJ2 := Lib.hid (HJ1.out.eqv e2)
        have HO2 := Lib.hid (HO1.out.trans (Only.eqv e2))
        clear hw2 e2
        clear p0 j0
        have p2 := HP2.out.cell 2 rfl
        have p4 := HP2.out.cell 4 rfl
        have j3 := HJ2.out.cell 3 rfl
        have j4 := HJ2.out.cell 4 rfl
        have j5 := HJ2.out.cell 5 rfl
        go_wp2
        go_quiet (fail)
        obtain ⟨w3, hw3⟩ : ∃ w, w2.drewN nq = w := ⟨_, rfl⟩
        have e3 : Eqv w2 w3 := by rw [← hw3]; exact Eqv.drewN _ _
        rw [hw3]
        have HP3 := Lib.hid (HP2.out.eqv e3)
        have HJ3 := Lib.hid (HJ2.out.eqv e3)
        have HO3 := Lib.hid (HO2.out.trans (Only.eqv e3))
        clear hw3 e3
        clear p2 p4 j3 j4 j5
        have p3 := HP3.out.cell 3 rfl
        have j3 := HJ3.out.cell 3 rfl
        go_wp2
        go_quiet (fail)
        obtain ⟨w4, hw4⟩ : ∃ w, w3.drewN nq = w := ⟨_, rfl⟩
        have e4 : Eqv w3 w4 := by rw [← hw4]; exact Eqv.drewN _ _
        rw [hw4]
        have HP4 := Lib.hid (HP3.out.eqv e4)
        have HJ4 := Lib.hid (HJ3.out.eqv e4)
        have HO4 := Lib.hid (HO3.out.trans (Only.eqv e4))
        clear hw4 e4
        clear p3 j3
        have j1 := HJ4.out.cell 1 rfl
        have f1 := HJ4.out.fz 1 (by show 1 < 7; decide)
        have j2 := HJ4.out.cell 2 rfl
        have f2 := HJ4.out.fz 2 (by show 2 < 7; decide)
        have j3 := HJ4.out.cell 3 rfl
        have f3 := HJ4.out.fz 3 (by show 3 < 7; decide)
        have j4 := HJ4.out.cell 4 rfl
        have f4 := HJ4.out.fz 4 (by show 4 < 7; decide)
        have j5 := HJ4.out.cell 5 rfl
        have f5 := HJ4.out.fz 5 (by show 5 < 7; decide)
        have j6 := HJ4.out.cell 6 rfl
        have f6 := HJ4.out.fz 6 (by show 6 < 7; decide)
        have p1 := HP4.out.cell 1 rfl
        have p2 := HP4.out.cell 2 rfl
        have p4 := HP4.out.cell 4 rfl
        go_wp2_with (first | (go_at_call 27; (refine (HTK.out _ (((HJ4.out.set 3 (by show 3 < 7; decide) (.bool true)).set 4 (by show 4 < 7; decide) (.int .i64 count)).set 5 (by show 5 < 7; decide) (.string body))).mono ?_); rintro _ w6 ⟨v6, rfl, o6, c6, k6⟩; have HO6 := Lib.hid (show Only b w w6 from (((HO4.out.trans (Only.setCell _ ⟨b, 3, none⟩ _)).trans (Only.setCell _ ⟨b, 4, none⟩ _)).trans (Only.setCell _ ⟨b, 5, none⟩ _)).trans k6); have HOW := Lib.hid (o6.lower ((((HO4.out.trans (Only.setCell _ ⟨b, 3, none⟩ _)).trans (Only.setCell _ ⟨b, 4, none⟩ _)).trans (Only.setCell _ ⟨b, 5, none⟩ _)).size)); clear o6 k6))
        go_ret2
        exact RjPost.of HF.out HOW.out ⟨true, count, body, c6, .inr ⟨_, rfl, rfl, rfl, rfl, HCT.out⟩⟩ HO6.out
      · replace HF := Lib.hid HF
        go_enter Tryd.func11, Tryd.ntmps11
        go_wp2_with (first | (refine wp_ldQ (b := X) (off := 0) HPA.out.r rfl _ rfl rfl ?_) | (go_at_call 25; refine HCK.out.mono ?_; rintro _ w1 ⟨rfl, k1⟩; have HP1 := Lib.hid (HPA.out.keeps k1); have HJ1 := Lib.hid (HJA.out.keeps k1); have HO1 := Lib.hid (HOA.out.trans (Only.below k1)); clear k1))
        have p0 := HP1.out.cell 0 rfl
        have j0 := HJ1.out.cell 0 rfl
        go_quiet (fail)
        obtain ⟨w2, hw2⟩ : ∃ w, w1.drewN nq = w := ⟨_, rfl⟩
        have e2 : Eqv w1 w2 := by rw [← hw2]; exact Eqv.drewN _ _
        rw [hw2]
        have HP2 := Lib.hid (HP1.out.eqv e2)
        have HJ2 := Lib.hid (HJ1.out.eqv e2)
        have HO2 := Lib.hid (HO1.out.trans (Only.eqv e2))
        clear hw2 e2
        clear p0 j0
        have p2 := HP2.out.cell 2 rfl
        have p4 := HP2.out.cell 4 rfl
        have j3 := HJ2.out.cell 3 rfl
        have j4 := HJ2.out.cell 4 rfl
        have j5 := HJ2.out.cell 5 rfl
        go_wp2
        go_quiet (fail)
        obtain ⟨w3, hw3⟩ : ∃ w, w2.drewN nq = w := ⟨_, rfl⟩
        have e3 : Eqv w2 w3 := by rw [← hw3]; exact Eqv.drewN _ _
        rw [hw3]
        have HP3 := Lib.hid (HP2.out.eqv e3)
        have HJ3 := Lib.hid (HJ2.out.eqv e3)
        have HO3 := Lib.hid (HO2.out.trans (Only.eqv e3))
        clear hw3 e3
        clear p2 p4 j3 j4 j5
        have p3 := HP3.out.cell 3 rfl
        have j3 := HJ3.out.cell 3 rfl
        go_wp2
        go_quiet (fail)
        obtain ⟨w4, hw4⟩ : ∃ w, w3.drewN nq = w := ⟨_, rfl⟩
        have e4 : Eqv w3 w4 := by rw [← hw4]; exact Eqv.drewN _ _
        rw [hw4]
        have HP4 := Lib.hid (HP3.out.eqv e4)
        have HJ4 := Lib.hid (HJ3.out.eqv e4)
        have HO4 := Lib.hid (HO3.out.trans (Only.eqv e4))
        clear hw4 e4
        clear p3 j3
        have j1 := HJ4.out.cell 1 rfl
        have f1 := HJ4.out.fz 1 (by show 1 < 7; decide)
        have j2 := HJ4.out.cell 2 rfl
        have f2 := HJ4.out.fz 2 (by show 2 < 7; decide)
        have j3 := HJ4.out.cell 3 rfl
        have f3 := HJ4.out.fz 3 (by show 3 < 7; decide)
        have j4 := HJ4.out.cell 4 rfl
        have f4 := HJ4.out.fz 4 (by show 4 < 7; decide)
        have j5 := HJ4.out.cell 5 rfl
        have f5 := HJ4.out.fz 5 (by show 5 < 7; decide)
        have j6 := HJ4.out.cell 6 rfl
        have f6 := HJ4.out.fz 6 (by show 6 < 7; decide)
        have p1 := HP4.out.cell 1 rfl
        have p2 := HP4.out.cell 2 rfl
        have p4 := HP4.out.cell 4 rfl
        go_wp2_with (first | (go_at_call 27; (refine (HTK.out _ (((HJ4.out.set 3 (by show 3 < 7; decide) (.bool true)).set 4 (by show 4 < 7; decide) (.int .i64 count)).set 5 (by show 5 < 7; decide) (.string body))).mono ?_); rintro _ w6 ⟨v6, rfl, o6, c6, k6⟩; have HO6 := Lib.hid (show Only b w w6 from (((HO4.out.trans (Only.setCell _ ⟨b, 3, none⟩ _)).trans (Only.setCell _ ⟨b, 4, none⟩ _)).trans (Only.setCell _ ⟨b, 5, none⟩ _)).trans k6); have HOW := Lib.hid (o6.lower ((((HO4.out.trans (Only.setCell _ ⟨b, 3, none⟩ _)).trans (Only.setCell _ ⟨b, 4, none⟩ _)).trans (Only.setCell _ ⟨b, 5, none⟩ _)).size)); clear o6 k6))
        go_ret2
        exact RjPost.of HF.out HOW.out ⟨true, count, body, c6, .inr ⟨_, rfl, rfl, rfl, rfl, HCT.out⟩⟩ HO6.out
  · have hl := ls_size body
    have z0 : 0 < body.size := by have := HHB.out; omega
    have i0 : (0 : Int) < (body.size : Int) := by omega
    have g0 := ls_get body 0 z0
    obtain ⟨cb, hcb⟩ : ∃ c, cf (ls body) 0 = c := ⟨_, rfl⟩
    rw [hcb] at g0
    have h256 := cb.toNat_lt
    obtain ⟨r, hr⟩ : ∃ r, cb.toNat = r := ⟨_, rfl⟩
    have hrI : ((cb.toNat : Nat) : Int) = (r : Int) := by rw [hr]
    have wr3 := wrapI (a := (r : Int)) (by omega) (by omega)
    obtain ⟨Rs, hRs⟩ : ∃ R, body.extract 1 body.size = R := ⟨_, rfl⟩
    have hRl : ls Rs = (ls body).drop 1 := by rw [← hRs, ← st_ls (body.extract 1 body.size), ls_part, ls_st]; exact List.take_of_length_le (by rw [List.length_drop]; omega)
    have hRz : Rs.size = body.size - 1 := by rw [ls_size, hRl, List.length_drop]; omega
    have i1 : (1 : Int) ≤ (body.size : Int) := by omega
    by_cases hlong : body.size - 1 < r
    · have HF := Lib.hid (HFG.trans (feedB_long (by rw [hcb, hr, ← hl]; exact hlong) _))
      have i2 : (Rs.size : Int) < (r : Int) := by omega
      clear hl hcb hr hRl hRz hlong HFG
      go_enter Tryd.func11, Tryd.ntmps11
      go_wp2_with (first | (refine wp_ldQ (b := X) (off := 0) HPA.out.r rfl _ rfl rfl ?_) | (go_at_call 25; refine HCK.out.mono ?_; rintro _ w1 ⟨rfl, k1⟩; have HP1 := Lib.hid (HPA.out.keeps k1); have HJ1 := Lib.hid (HJA.out.keeps k1); have HO1 := Lib.hid (HOA.out.trans (Only.below k1)); clear k1))
      have p0 := HP1.out.cell 0 rfl
      have j0 := HJ1.out.cell 0 rfl
      go_quiet (fail)
      obtain ⟨w2, hw2⟩ : ∃ w, w1.drewN nq = w := ⟨_, rfl⟩
      have e2 : Eqv w1 w2 := by rw [← hw2]; exact Eqv.drewN _ _
      rw [hw2]
      have HP2 := Lib.hid (HP1.out.eqv e2)
      have HJ2 := Lib.hid (HJ1.out.eqv e2)
      have HO2 := Lib.hid (HO1.out.trans (Only.eqv e2))
      clear hw2 e2
      clear p0 j0
      have p2 := HP2.out.cell 2 rfl
      have p4 := HP2.out.cell 4 rfl
      have j3 := HJ2.out.cell 3 rfl
      have j4 := HJ2.out.cell 4 rfl
      have j5 := HJ2.out.cell 5 rfl
      go_wp2
      go_quiet (fail)
      obtain ⟨w3, hw3⟩ : ∃ w, w2.drewN nq = w := ⟨_, rfl⟩
      have e3 : Eqv w2 w3 := by rw [← hw3]; exact Eqv.drewN _ _
      rw [hw3]
      have HP3 := Lib.hid (HP2.out.eqv e3)
      have HJ3 := Lib.hid (HJ2.out.eqv e3)
      have HO3 := Lib.hid (HO2.out.trans (Only.eqv e3))
      clear hw3 e3
      clear p2 p4 j3 j4 j5
      have p3 := HP3.out.cell 3 rfl
      have j3 := HJ3.out.cell 3 rfl
      go_wp2
      go_quiet (fail)
      obtain ⟨w4, hw4⟩ : ∃ w, w3.drewN nq = w := ⟨_, rfl⟩
      have e4 : Eqv w3 w4 := by rw [← hw4]; exact Eqv.drewN _ _
      rw [hw4]
      have HP4 := Lib.hid (HP3.out.eqv e4)
      have HJ4 := Lib.hid (HJ3.out.eqv e4)
      have HO4 := Lib.hid (HO3.out.trans (Only.eqv e4))
      clear hw4 e4
      clear p3 j3
      have j1 := HJ4.out.cell 1 rfl
      have f1 := HJ4.out.fz 1 (by show 1 < 7; decide)
      have j2 := HJ4.out.cell 2 rfl
      have f2 := HJ4.out.fz 2 (by show 2 < 7; decide)
      have j3 := HJ4.out.cell 3 rfl
      have f3 := HJ4.out.fz 3 (by show 3 < 7; decide)
      have j4 := HJ4.out.cell 4 rfl
      have f4 := HJ4.out.fz 4 (by show 4 < 7; decide)
      have j5 := HJ4.out.cell 5 rfl
      have f5 := HJ4.out.fz 5 (by show 5 < 7; decide)
      have j6 := HJ4.out.cell 6 rfl
      have f6 := HJ4.out.fz 6 (by show 6 < 7; decide)
      have p1 := HP4.out.cell 1 rfl
      have p2 := HP4.out.cell 2 rfl
      have p4 := HP4.out.cell 4 rfl
      go_wp2_with (first | (go_at_call 26; refine (rjlose_any (((HJ4.out.set 3 (by show 3 < 7; decide) (.bool true)).set 4 (by show 4 < 7; decide) (.int .i64 count)).set 5 (by show 5 < 7; decide) (.string body))).mono ?_; rintro _ w9 ⟨⟨v9, rfl⟩, c9, k9⟩; have HO9 := Lib.hid (show Only b w w9 from (((HO4.out.trans (Only.setCell _ ⟨b, 3, none⟩ _)).trans (Only.setCell _ ⟨b, 4, none⟩ _)).trans (Only.setCell _ ⟨b, 5, none⟩ _)).trans k9); clear k9))
      go_ret2
      exact RjPost.of HF.out (OwnE.nil _ _) ⟨true, count, body, c9, .inr ⟨_, rfl, rfl, rfl, rfl, HCT.out⟩⟩ HO9.out
    · have i2 : ¬ (Rs.size : Int) < (r : Int) := by omega
      have i3 : (r : Int) ≤ (Rs.size : Int) := by omega
      have i4 : ¬ (r : Int) < 0 := by omega
      obtain ⟨A1, hA1⟩ : ∃ R, Rs.extract 0 r = R := ⟨_, rfl⟩
      obtain ⟨A2, hA2⟩ : ∃ R, Rs.extract r Rs.size = R := ⟨_, rfl⟩
      have hA1l : ls A1 = ((ls body).drop 1).take r := by rw [← hA1, ls_part, hRl, List.drop_zero, Nat.sub_zero]
      have hA2l : ls A2 = (ls body).drop (1 + r) := by rw [← hA2, ls_part, hRl, List.drop_drop]; exact List.take_of_length_le (by rw [List.length_drop]; omega)
      have hA1z : A1.size ≤ 1000 := by rw [ls_size, hA1l, List.length_take, List.length_drop]; omega
      have hA2z : A2.size ≤ 1000 := by rw [ls_size, hA2l, List.length_drop]; omega
      have hlg : ¬ (ls body).length - 1 < (cf (ls body) 0).toNat := by rw [hcb, hr, ← hl]; exact hlong
      have HT2 := Lib.hid (fun W (h : CsAt b (rjC pid' ⟨#[]⟩ true true count body (lost)) W) => rjtake_any h A2 (by decide) (by omega))
      rw [show ls (⟨#[]⟩ : ByteArray) = [] from rfl, List.nil_append, hA2l] at HT2
      obtain ⟨⟨out2, hold2, fol2, ok2⟩, ht2⟩ : ∃ t, tk ((ls body).drop (1 + r)) = t := ⟨_, rfl⟩
      simp only [ht2] at HT2
      unfold TkPost at HT2
      simp only at HT2
      cases fol
      · skip
        have HF := HFG.trans (feedB_new rfl hlg _)
        rw [hcb, hr] at HF
        simp only [ht2] at HF
        have HAL := Lib.hid (show ([] : List (List UInt8)).length + out2.length ≤ 1000000000 by
          have := tk_few_out ((ls body).drop (1 + r))
          rw [ht2, List.length_drop] at this
          simp only at this
          simp only [List.length_nil]; omega)
        clear hl hcb hr hRl hRz hlong hlg HFG hA1l hA2l ht2
        cases ok2
        · replace HF := Lib.hid HF
          go_enter Tryd.func11, Tryd.ntmps11
          go_wp2_with (first | (refine wp_ldQ (b := X) (off := 0) HPA.out.r rfl _ rfl rfl ?_) | (go_at_call 25; refine HCK.out.mono ?_; rintro _ w1 ⟨rfl, k1⟩; have HP1 := Lib.hid (HPA.out.keeps k1); have HJ1 := Lib.hid (HJA.out.keeps k1); have HO1 := Lib.hid (HOA.out.trans (Only.below k1)); clear k1))
          have p0 := HP1.out.cell 0 rfl
          have j0 := HJ1.out.cell 0 rfl
          go_quiet (fail)
          obtain ⟨w2, hw2⟩ : ∃ w, w1.drewN nq = w := ⟨_, rfl⟩
          have e2 : Eqv w1 w2 := by rw [← hw2]; exact Eqv.drewN _ _
          rw [hw2]
          have HP2 := Lib.hid (HP1.out.eqv e2)
          have HJ2 := Lib.hid (HJ1.out.eqv e2)
          have HO2 := Lib.hid (HO1.out.trans (Only.eqv e2))
          clear hw2 e2
          clear p0 j0
          have p2 := HP2.out.cell 2 rfl
          have p4 := HP2.out.cell 4 rfl
          have j3 := HJ2.out.cell 3 rfl
          have j4 := HJ2.out.cell 4 rfl
          have j5 := HJ2.out.cell 5 rfl
          go_wp2
          go_quiet (fail)
          obtain ⟨w3, hw3⟩ : ∃ w, w2.drewN nq = w := ⟨_, rfl⟩
          have e3 : Eqv w2 w3 := by rw [← hw3]; exact Eqv.drewN _ _
          rw [hw3]
          have HP3 := Lib.hid (HP2.out.eqv e3)
          have HJ3 := Lib.hid (HJ2.out.eqv e3)
          have HO3 := Lib.hid (HO2.out.trans (Only.eqv e3))
          clear hw3 e3
          clear p2 p4 j3 j4 j5
          have p3 := HP3.out.cell 3 rfl
          have j3 := HJ3.out.cell 3 rfl
          go_wp2
          go_quiet (fail)
          obtain ⟨w4, hw4⟩ : ∃ w, w3.drewN nq = w := ⟨_, rfl⟩
          have e4 : Eqv w3 w4 := by rw [← hw4]; exact Eqv.drewN _ _
          rw [hw4]
          have HP4 := Lib.hid (HP3.out.eqv e4)
          have HJ4 := Lib.hid (HJ3.out.eqv e4)
          have HO4 := Lib.hid (HO3.out.trans (Only.eqv e4))
          clear hw4 e4
          clear p3 j3
          have j1 := HJ4.out.cell 1 rfl
          have f1 := HJ4.out.fz 1 (by show 1 < 7; decide)
          have j2 := HJ4.out.cell 2 rfl
          have f2 := HJ4.out.fz 2 (by show 2 < 7; decide)
          have j3 := HJ4.out.cell 3 rfl
          have f3 := HJ4.out.fz 3 (by show 3 < 7; decide)
          have j4 := HJ4.out.cell 4 rfl
          have f4 := HJ4.out.fz 4 (by show 4 < 7; decide)
          have j5 := HJ4.out.cell 5 rfl
          have f5 := HJ4.out.fz 5 (by show 5 < 7; decide)
          have j6 := HJ4.out.cell 6 rfl
          have f6 := HJ4.out.fz 6 (by show 6 < 7; decide)
          have p1 := HP4.out.cell 1 rfl
          have p2 := HP4.out.cell 2 rfl
          have p4 := HP4.out.cell 4 rfl
          go_wp2_with (first | (go_at_call 27; (refine (HT2.out _ (((((HJ4.out.set 3 (by show 3 < 7; decide) (.bool true)).set 4 (by show 4 < 7; decide) (.int .i64 count)).set 5 (by show 5 < 7; decide) (.string body)).set 1 (by show 1 < 7; decide) (.string ⟨#[]⟩)).set 2 (by show 2 < 7; decide) (.bool true))).mono ?_); rintro _ w7 ⟨v7, rfl, o7, c7, k7⟩; have HO7 := Lib.hid (show Only b w w7 from (((((HO4.out.trans (Only.setCell _ ⟨b, 3, none⟩ _)).trans (Only.setCell _ ⟨b, 4, none⟩ _)).trans (Only.setCell _ ⟨b, 5, none⟩ _)).trans (Only.setCell _ ⟨b, 1, none⟩ _)).trans (Only.setCell _ ⟨b, 2, none⟩ _)).trans k7); have HOW := Lib.hid (OwnE.nil (T := rowT) w7 w.heap.size); have hb7 : w.heap.size ≤ w7.heap.size := HO7.out.size; obtain ⟨a7, cap7, rfl, is7, _⟩ := o7.is; have HI7 := Lib.hid is7; have HC7 := Lib.hid c7; have hal7 := HAL.out; clear is7 o7 c7 k7) | (at_builtin; refine wp_catT rfl _ _ rfl HOW.out rfl rfl HI7.out hal7 hb7 ?_; intro v8 w8 o8 g8; have HO8 := Lib.hid (HO7.out.catted (Nat.le_refl _) HOW.out g8); have HC8 := Lib.hid (HC7.out.catted HBW.out HOW.out g8); have HW8 := Lib.hid o8; clear o8 g8))
          go_ret2
          exact RjPost.of HF.out HW8.out ⟨true, count, body, HC8.out, .inr ⟨_, rfl, rfl, rfl, rfl, HCT.out⟩⟩ HO8.out
        · replace HF := Lib.hid HF
          go_enter Tryd.func11, Tryd.ntmps11
          go_wp2_with (first | (refine wp_ldQ (b := X) (off := 0) HPA.out.r rfl _ rfl rfl ?_) | (go_at_call 25; refine HCK.out.mono ?_; rintro _ w1 ⟨rfl, k1⟩; have HP1 := Lib.hid (HPA.out.keeps k1); have HJ1 := Lib.hid (HJA.out.keeps k1); have HO1 := Lib.hid (HOA.out.trans (Only.below k1)); clear k1))
          have p0 := HP1.out.cell 0 rfl
          have j0 := HJ1.out.cell 0 rfl
          go_quiet (fail)
          obtain ⟨w2, hw2⟩ : ∃ w, w1.drewN nq = w := ⟨_, rfl⟩
          have e2 : Eqv w1 w2 := by rw [← hw2]; exact Eqv.drewN _ _
          rw [hw2]
          have HP2 := Lib.hid (HP1.out.eqv e2)
          have HJ2 := Lib.hid (HJ1.out.eqv e2)
          have HO2 := Lib.hid (HO1.out.trans (Only.eqv e2))
          clear hw2 e2
          clear p0 j0
          have p2 := HP2.out.cell 2 rfl
          have p4 := HP2.out.cell 4 rfl
          have j3 := HJ2.out.cell 3 rfl
          have j4 := HJ2.out.cell 4 rfl
          have j5 := HJ2.out.cell 5 rfl
          go_wp2
          go_quiet (fail)
          obtain ⟨w3, hw3⟩ : ∃ w, w2.drewN nq = w := ⟨_, rfl⟩
          have e3 : Eqv w2 w3 := by rw [← hw3]; exact Eqv.drewN _ _
          rw [hw3]
          have HP3 := Lib.hid (HP2.out.eqv e3)
          have HJ3 := Lib.hid (HJ2.out.eqv e3)
          have HO3 := Lib.hid (HO2.out.trans (Only.eqv e3))
          clear hw3 e3
          clear p2 p4 j3 j4 j5
          have p3 := HP3.out.cell 3 rfl
          have j3 := HJ3.out.cell 3 rfl
          go_wp2
          go_quiet (fail)
          obtain ⟨w4, hw4⟩ : ∃ w, w3.drewN nq = w := ⟨_, rfl⟩
          have e4 : Eqv w3 w4 := by rw [← hw4]; exact Eqv.drewN _ _
          rw [hw4]
          have HP4 := Lib.hid (HP3.out.eqv e4)
          have HJ4 := Lib.hid (HJ3.out.eqv e4)
          have HO4 := Lib.hid (HO3.out.trans (Only.eqv e4))
          clear hw4 e4
          clear p3 j3
          have j1 := HJ4.out.cell 1 rfl
          have f1 := HJ4.out.fz 1 (by show 1 < 7; decide)
          have j2 := HJ4.out.cell 2 rfl
          have f2 := HJ4.out.fz 2 (by show 2 < 7; decide)
          have j3 := HJ4.out.cell 3 rfl
          have f3 := HJ4.out.fz 3 (by show 3 < 7; decide)
          have j4 := HJ4.out.cell 4 rfl
          have f4 := HJ4.out.fz 4 (by show 4 < 7; decide)
          have j5 := HJ4.out.cell 5 rfl
          have f5 := HJ4.out.fz 5 (by show 5 < 7; decide)
          have j6 := HJ4.out.cell 6 rfl
          have f6 := HJ4.out.fz 6 (by show 6 < 7; decide)
          have p1 := HP4.out.cell 1 rfl
          have p2 := HP4.out.cell 2 rfl
          have p4 := HP4.out.cell 4 rfl
          go_wp2_with (first | (go_at_call 27; (refine (HT2.out _ (((((HJ4.out.set 3 (by show 3 < 7; decide) (.bool true)).set 4 (by show 4 < 7; decide) (.int .i64 count)).set 5 (by show 5 < 7; decide) (.string body)).set 1 (by show 1 < 7; decide) (.string ⟨#[]⟩)).set 2 (by show 2 < 7; decide) (.bool true))).mono ?_); rintro _ w7 ⟨v7, rfl, o7, c7, k7⟩; have HO7 := Lib.hid (show Only b w w7 from (((((HO4.out.trans (Only.setCell _ ⟨b, 3, none⟩ _)).trans (Only.setCell _ ⟨b, 4, none⟩ _)).trans (Only.setCell _ ⟨b, 5, none⟩ _)).trans (Only.setCell _ ⟨b, 1, none⟩ _)).trans (Only.setCell _ ⟨b, 2, none⟩ _)).trans k7); have HOW := Lib.hid (OwnE.nil (T := rowT) w7 w.heap.size); have hb7 : w.heap.size ≤ w7.heap.size := HO7.out.size; obtain ⟨a7, cap7, rfl, is7, _⟩ := o7.is; have HI7 := Lib.hid is7; have HC7 := Lib.hid c7; have hal7 := HAL.out; clear is7 o7 c7 k7) | (at_builtin; refine wp_catT rfl _ _ rfl HOW.out rfl rfl HI7.out hal7 hb7 ?_; intro v8 w8 o8 g8; have HO8 := Lib.hid (HO7.out.catted (Nat.le_refl _) HOW.out g8); have HC8 := Lib.hid (HC7.out.catted HBW.out HOW.out g8); have HW8 := Lib.hid o8; clear o8 g8))
          go_ret2
          exact RjPost.of HF.out HW8.out ⟨true, count, body, HC8.out, .inr ⟨_, rfl, rfl, rfl, rfl, HCT.out⟩⟩ HO8.out
      · have HF := HFG.trans (feedB_both rfl hlg _)
        rw [hcb, hr] at HF
        have HTK := Lib.hid (fun W (h : CsAt b (rjC pid' (st hold) true true count body lost) W) => rjtake_any h A1 (by rw [st_size]; omega) (by omega))
        rw [ls_st, hA1l] at HTK
        obtain ⟨⟨out1, hold1, fol1, ok1⟩, ht1⟩ : ∃ t, tk (hold ++ ((ls body).drop 1).take r) = t := ⟨_, rfl⟩
        simp only [ht1, ht2] at HTK HF
        unfold TkPost at HTK
        simp only at HTK
        have HAL := Lib.hid (show out1.length + out2.length ≤ 1000000000 by
          have h1 := tk_few_out ((ls body).drop (1 + r))
          have h2 := tk_few_out (hold ++ ((ls body).drop 1).take r)
          rw [ht2, List.length_drop] at h1
          rw [ht1, List.length_append, List.length_take, List.length_drop] at h2
          simp only at h1 h2
          omega)
        clear hl hcb hr hRl hRz hlong hlg HFG hA1l hA2l ht2 ht1
        cases ok1 <;> cases ok2
        · replace HF := Lib.hid HF
          go_enter Tryd.func11, Tryd.ntmps11
          go_wp2_with (first | (refine wp_ldQ (b := X) (off := 0) HPA.out.r rfl _ rfl rfl ?_) | (go_at_call 25; refine HCK.out.mono ?_; rintro _ w1 ⟨rfl, k1⟩; have HP1 := Lib.hid (HPA.out.keeps k1); have HJ1 := Lib.hid (HJA.out.keeps k1); have HO1 := Lib.hid (HOA.out.trans (Only.below k1)); clear k1))
          have p0 := HP1.out.cell 0 rfl
          have j0 := HJ1.out.cell 0 rfl
          go_quiet (fail)
          obtain ⟨w2, hw2⟩ : ∃ w, w1.drewN nq = w := ⟨_, rfl⟩
          have e2 : Eqv w1 w2 := by rw [← hw2]; exact Eqv.drewN _ _
          rw [hw2]
          have HP2 := Lib.hid (HP1.out.eqv e2)
          have HJ2 := Lib.hid (HJ1.out.eqv e2)
          have HO2 := Lib.hid (HO1.out.trans (Only.eqv e2))
          clear hw2 e2
          clear p0 j0
          have p2 := HP2.out.cell 2 rfl
          have p4 := HP2.out.cell 4 rfl
          have j3 := HJ2.out.cell 3 rfl
          have j4 := HJ2.out.cell 4 rfl
          have j5 := HJ2.out.cell 5 rfl
          go_wp2
          go_quiet (fail)
          obtain ⟨w3, hw3⟩ : ∃ w, w2.drewN nq = w := ⟨_, rfl⟩
          have e3 : Eqv w2 w3 := by rw [← hw3]; exact Eqv.drewN _ _
          rw [hw3]
          have HP3 := Lib.hid (HP2.out.eqv e3)
          have HJ3 := Lib.hid (HJ2.out.eqv e3)
          have HO3 := Lib.hid (HO2.out.trans (Only.eqv e3))
          clear hw3 e3
          clear p2 p4 j3 j4 j5
          have p3 := HP3.out.cell 3 rfl
          have j3 := HJ3.out.cell 3 rfl
          go_wp2
          go_quiet (fail)
          obtain ⟨w4, hw4⟩ : ∃ w, w3.drewN nq = w := ⟨_, rfl⟩
          have e4 : Eqv w3 w4 := by rw [← hw4]; exact Eqv.drewN _ _
          rw [hw4]
          have HP4 := Lib.hid (HP3.out.eqv e4)
          have HJ4 := Lib.hid (HJ3.out.eqv e4)
          have HO4 := Lib.hid (HO3.out.trans (Only.eqv e4))
          clear hw4 e4
          clear p3 j3
          have j1 := HJ4.out.cell 1 rfl
          have f1 := HJ4.out.fz 1 (by show 1 < 7; decide)
          have j2 := HJ4.out.cell 2 rfl
          have f2 := HJ4.out.fz 2 (by show 2 < 7; decide)
          have j3 := HJ4.out.cell 3 rfl
          have f3 := HJ4.out.fz 3 (by show 3 < 7; decide)
          have j4 := HJ4.out.cell 4 rfl
          have f4 := HJ4.out.fz 4 (by show 4 < 7; decide)
          have j5 := HJ4.out.cell 5 rfl
          have f5 := HJ4.out.fz 5 (by show 5 < 7; decide)
          have j6 := HJ4.out.cell 6 rfl
          have f6 := HJ4.out.fz 6 (by show 6 < 7; decide)
          have p1 := HP4.out.cell 1 rfl
          have p2 := HP4.out.cell 2 rfl
          have p4 := HP4.out.cell 4 rfl
          have HCH := Lib.hid (show CsAt b (rjC pid' (st hold) true true count body lost) _ from ((HJ4.out.set 3 (by show 3 < 7; decide) (.bool true)).set 4 (by show 4 < 7; decide) (.int .i64 count)).set 5 (by show 5 < 7; decide) (.string body))
          go_wp2_with (first | (go_at_call 27; (with_reducible refine (HTK.out _ (HCH.out)).mono ?_); rintro _ w6 ⟨v6, rfl, o6, c6, k6⟩; have HO6 := Lib.hid (show Only b w w6 from (((HO4.out.trans (Only.setCell _ ⟨b, 3, none⟩ _)).trans (Only.setCell _ ⟨b, 4, none⟩ _)).trans (Only.setCell _ ⟨b, 5, none⟩ _)).trans k6); have HW6 := Lib.hid (o6.lower ((((HO4.out.trans (Only.setCell _ ⟨b, 3, none⟩ _)).trans (Only.setCell _ ⟨b, 4, none⟩ _)).trans (Only.setCell _ ⟨b, 5, none⟩ _)).size)); have HNB := Lib.hid (show v6.ownBlock ≠ some b from fun e => by have h1 := HW6.out.block _ e; have h2 := HBW.out; omega); have HC6 := Lib.hid c6; have HCH2 := Lib.hid (show CsAt b (rjC pid' ⟨#[]⟩ true true count body lost) _ from (c6.set 1 (by show 1 < 7; decide) (.string ⟨#[]⟩)).set 2 (by show 2 < 7; decide) (.bool true)); have hn1 := HC6.out.cell 1 rfl; have hn2 := HC6.out.cell 2 rfl; have fn1 := HC6.out.fz 1 (by show 1 < 7; decide); have fn2 := HC6.out.fz 2 (by show 2 < 7; decide); clear o6 c6 k6) | (go_at_call 27; (with_reducible refine (HT2.out _ (HCH2.out)).mono ?_); rintro _ w7 ⟨v7, rfl, o7, c7, k7⟩; have HO7 := Lib.hid (show Only b w w7 from ((HO6.out.trans (Only.setCell _ ⟨b, 1, none⟩ _)).trans (Only.setCell _ ⟨b, 2, none⟩ _)).trans k7); have HOW := Lib.hid (((HW6.out.only (show Only b _ _ from Only.setCell _ ⟨b, 1, none⟩ _) HNB.out).only (show Only b _ _ from Only.setCell _ ⟨b, 2, none⟩ _) HNB.out).only k7 HNB.out); have hb7 : w.heap.size ≤ w7.heap.size := HO7.out.size; obtain ⟨a7, cap7, rfl, is7, _⟩ := o7.is; have HI7 := Lib.hid is7; have HC7 := Lib.hid c7; have hal7 := HAL.out; clear is7 o7 c7 k7) | (at_builtin; refine wp_catT rfl _ _ rfl HOW.out rfl rfl HI7.out hal7 hb7 ?_; intro v8 w8 o8 g8; have HO8 := Lib.hid (HO7.out.catted (Nat.le_refl _) HOW.out g8); have HC8 := Lib.hid (HC7.out.catted HBW.out HOW.out g8); have HW8 := Lib.hid o8; clear o8 g8))
          go_ret2
          exact RjPost.of HF.out HW8.out ⟨true, count, body, HC8.out, .inr ⟨_, rfl, rfl, rfl, rfl, HCT.out⟩⟩ HO8.out
        · replace HF := Lib.hid HF
          go_enter Tryd.func11, Tryd.ntmps11
          go_wp2_with (first | (refine wp_ldQ (b := X) (off := 0) HPA.out.r rfl _ rfl rfl ?_) | (go_at_call 25; refine HCK.out.mono ?_; rintro _ w1 ⟨rfl, k1⟩; have HP1 := Lib.hid (HPA.out.keeps k1); have HJ1 := Lib.hid (HJA.out.keeps k1); have HO1 := Lib.hid (HOA.out.trans (Only.below k1)); clear k1))
          have p0 := HP1.out.cell 0 rfl
          have j0 := HJ1.out.cell 0 rfl
          go_quiet (fail)
          obtain ⟨w2, hw2⟩ : ∃ w, w1.drewN nq = w := ⟨_, rfl⟩
          have e2 : Eqv w1 w2 := by rw [← hw2]; exact Eqv.drewN _ _
          rw [hw2]
          have HP2 := Lib.hid (HP1.out.eqv e2)
          have HJ2 := Lib.hid (HJ1.out.eqv e2)
          have HO2 := Lib.hid (HO1.out.trans (Only.eqv e2))
          clear hw2 e2
          clear p0 j0
          have p2 := HP2.out.cell 2 rfl
          have p4 := HP2.out.cell 4 rfl
          have j3 := HJ2.out.cell 3 rfl
          have j4 := HJ2.out.cell 4 rfl
          have j5 := HJ2.out.cell 5 rfl
          go_wp2
          go_quiet (fail)
          obtain ⟨w3, hw3⟩ : ∃ w, w2.drewN nq = w := ⟨_, rfl⟩
          have e3 : Eqv w2 w3 := by rw [← hw3]; exact Eqv.drewN _ _
          rw [hw3]
          have HP3 := Lib.hid (HP2.out.eqv e3)
          have HJ3 := Lib.hid (HJ2.out.eqv e3)
          have HO3 := Lib.hid (HO2.out.trans (Only.eqv e3))
          clear hw3 e3
          clear p2 p4 j3 j4 j5
          have p3 := HP3.out.cell 3 rfl
          have j3 := HJ3.out.cell 3 rfl
          go_wp2
          go_quiet (fail)
          obtain ⟨w4, hw4⟩ : ∃ w, w3.drewN nq = w := ⟨_, rfl⟩
          have e4 : Eqv w3 w4 := by rw [← hw4]; exact Eqv.drewN _ _
          rw [hw4]
          have HP4 := Lib.hid (HP3.out.eqv e4)
          have HJ4 := Lib.hid (HJ3.out.eqv e4)
          have HO4 := Lib.hid (HO3.out.trans (Only.eqv e4))
          clear hw4 e4
          clear p3 j3
          have j1 := HJ4.out.cell 1 rfl
          have f1 := HJ4.out.fz 1 (by show 1 < 7; decide)
          have j2 := HJ4.out.cell 2 rfl
          have f2 := HJ4.out.fz 2 (by show 2 < 7; decide)
          have j3 := HJ4.out.cell 3 rfl
          have f3 := HJ4.out.fz 3 (by show 3 < 7; decide)
          have j4 := HJ4.out.cell 4 rfl
          have f4 := HJ4.out.fz 4 (by show 4 < 7; decide)
          have j5 := HJ4.out.cell 5 rfl
          have f5 := HJ4.out.fz 5 (by show 5 < 7; decide)
          have j6 := HJ4.out.cell 6 rfl
          have f6 := HJ4.out.fz 6 (by show 6 < 7; decide)
          have p1 := HP4.out.cell 1 rfl
          have p2 := HP4.out.cell 2 rfl
          have p4 := HP4.out.cell 4 rfl
          have HCH := Lib.hid (show CsAt b (rjC pid' (st hold) true true count body lost) _ from ((HJ4.out.set 3 (by show 3 < 7; decide) (.bool true)).set 4 (by show 4 < 7; decide) (.int .i64 count)).set 5 (by show 5 < 7; decide) (.string body))
          go_wp2_with (first | (go_at_call 27; (with_reducible refine (HTK.out _ (HCH.out)).mono ?_); rintro _ w6 ⟨v6, rfl, o6, c6, k6⟩; have HO6 := Lib.hid (show Only b w w6 from (((HO4.out.trans (Only.setCell _ ⟨b, 3, none⟩ _)).trans (Only.setCell _ ⟨b, 4, none⟩ _)).trans (Only.setCell _ ⟨b, 5, none⟩ _)).trans k6); have HW6 := Lib.hid (o6.lower ((((HO4.out.trans (Only.setCell _ ⟨b, 3, none⟩ _)).trans (Only.setCell _ ⟨b, 4, none⟩ _)).trans (Only.setCell _ ⟨b, 5, none⟩ _)).size)); have HNB := Lib.hid (show v6.ownBlock ≠ some b from fun e => by have h1 := HW6.out.block _ e; have h2 := HBW.out; omega); have HC6 := Lib.hid c6; have HCH2 := Lib.hid (show CsAt b (rjC pid' ⟨#[]⟩ true true count body lost) _ from (c6.set 1 (by show 1 < 7; decide) (.string ⟨#[]⟩)).set 2 (by show 2 < 7; decide) (.bool true)); have hn1 := HC6.out.cell 1 rfl; have hn2 := HC6.out.cell 2 rfl; have fn1 := HC6.out.fz 1 (by show 1 < 7; decide); have fn2 := HC6.out.fz 2 (by show 2 < 7; decide); clear o6 c6 k6) | (go_at_call 27; (with_reducible refine (HT2.out _ (HCH2.out)).mono ?_); rintro _ w7 ⟨v7, rfl, o7, c7, k7⟩; have HO7 := Lib.hid (show Only b w w7 from ((HO6.out.trans (Only.setCell _ ⟨b, 1, none⟩ _)).trans (Only.setCell _ ⟨b, 2, none⟩ _)).trans k7); have HOW := Lib.hid (((HW6.out.only (show Only b _ _ from Only.setCell _ ⟨b, 1, none⟩ _) HNB.out).only (show Only b _ _ from Only.setCell _ ⟨b, 2, none⟩ _) HNB.out).only k7 HNB.out); have hb7 : w.heap.size ≤ w7.heap.size := HO7.out.size; obtain ⟨a7, cap7, rfl, is7, _⟩ := o7.is; have HI7 := Lib.hid is7; have HC7 := Lib.hid c7; have hal7 := HAL.out; clear is7 o7 c7 k7) | (at_builtin; refine wp_catT rfl _ _ rfl HOW.out rfl rfl HI7.out hal7 hb7 ?_; intro v8 w8 o8 g8; have HO8 := Lib.hid (HO7.out.catted (Nat.le_refl _) HOW.out g8); have HC8 := Lib.hid (HC7.out.catted HBW.out HOW.out g8); have HW8 := Lib.hid o8; clear o8 g8))
          go_ret2
          exact RjPost.of HF.out HW8.out ⟨true, count, body, HC8.out, .inr ⟨_, rfl, rfl, rfl, rfl, HCT.out⟩⟩ HO8.out
        · replace HF := Lib.hid HF
          go_enter Tryd.func11, Tryd.ntmps11
          go_wp2_with (first | (refine wp_ldQ (b := X) (off := 0) HPA.out.r rfl _ rfl rfl ?_) | (go_at_call 25; refine HCK.out.mono ?_; rintro _ w1 ⟨rfl, k1⟩; have HP1 := Lib.hid (HPA.out.keeps k1); have HJ1 := Lib.hid (HJA.out.keeps k1); have HO1 := Lib.hid (HOA.out.trans (Only.below k1)); clear k1))
          have p0 := HP1.out.cell 0 rfl
          have j0 := HJ1.out.cell 0 rfl
          go_quiet (fail)
          obtain ⟨w2, hw2⟩ : ∃ w, w1.drewN nq = w := ⟨_, rfl⟩
          have e2 : Eqv w1 w2 := by rw [← hw2]; exact Eqv.drewN _ _
          rw [hw2]
          have HP2 := Lib.hid (HP1.out.eqv e2)
          have HJ2 := Lib.hid (HJ1.out.eqv e2)
          have HO2 := Lib.hid (HO1.out.trans (Only.eqv e2))
          clear hw2 e2
          clear p0 j0
          have p2 := HP2.out.cell 2 rfl
          have p4 := HP2.out.cell 4 rfl
          have j3 := HJ2.out.cell 3 rfl
          have j4 := HJ2.out.cell 4 rfl
          have j5 := HJ2.out.cell 5 rfl
          go_wp2
          go_quiet (fail)
          obtain ⟨w3, hw3⟩ : ∃ w, w2.drewN nq = w := ⟨_, rfl⟩
          have e3 : Eqv w2 w3 := by rw [← hw3]; exact Eqv.drewN _ _
          rw [hw3]
          have HP3 := Lib.hid (HP2.out.eqv e3)
          have HJ3 := Lib.hid (HJ2.out.eqv e3)
          have HO3 := Lib.hid (HO2.out.trans (Only.eqv e3))
          clear hw3 e3
          clear p2 p4 j3 j4 j5
          have p3 := HP3.out.cell 3 rfl
          have j3 := HJ3.out.cell 3 rfl
          go_wp2
          go_quiet (fail)
          obtain ⟨w4, hw4⟩ : ∃ w, w3.drewN nq = w := ⟨_, rfl⟩
          have e4 : Eqv w3 w4 := by rw [← hw4]; exact Eqv.drewN _ _
          rw [hw4]
          have HP4 := Lib.hid (HP3.out.eqv e4)
          have HJ4 := Lib.hid (HJ3.out.eqv e4)
          have HO4 := Lib.hid (HO3.out.trans (Only.eqv e4))
          clear hw4 e4
          clear p3 j3
          have j1 := HJ4.out.cell 1 rfl
          have f1 := HJ4.out.fz 1 (by show 1 < 7; decide)
          have j2 := HJ4.out.cell 2 rfl
          have f2 := HJ4.out.fz 2 (by show 2 < 7; decide)
          have j3 := HJ4.out.cell 3 rfl
          have f3 := HJ4.out.fz 3 (by show 3 < 7; decide)
          have j4 := HJ4.out.cell 4 rfl
          have f4 := HJ4.out.fz 4 (by show 4 < 7; decide)
          have j5 := HJ4.out.cell 5 rfl
          have f5 := HJ4.out.fz 5 (by show 5 < 7; decide)
          have j6 := HJ4.out.cell 6 rfl
          have f6 := HJ4.out.fz 6 (by show 6 < 7; decide)
          have p1 := HP4.out.cell 1 rfl
          have p2 := HP4.out.cell 2 rfl
          have p4 := HP4.out.cell 4 rfl
          have HCH := Lib.hid (show CsAt b (rjC pid' (st hold) true true count body lost) _ from ((HJ4.out.set 3 (by show 3 < 7; decide) (.bool true)).set 4 (by show 4 < 7; decide) (.int .i64 count)).set 5 (by show 5 < 7; decide) (.string body))
          go_wp2_with (first | (go_at_call 27; (with_reducible refine (HTK.out _ (HCH.out)).mono ?_); rintro _ w6 ⟨v6, rfl, o6, c6, k6⟩; have HO6 := Lib.hid (show Only b w w6 from (((HO4.out.trans (Only.setCell _ ⟨b, 3, none⟩ _)).trans (Only.setCell _ ⟨b, 4, none⟩ _)).trans (Only.setCell _ ⟨b, 5, none⟩ _)).trans k6); have HW6 := Lib.hid (o6.lower ((((HO4.out.trans (Only.setCell _ ⟨b, 3, none⟩ _)).trans (Only.setCell _ ⟨b, 4, none⟩ _)).trans (Only.setCell _ ⟨b, 5, none⟩ _)).size)); have HNB := Lib.hid (show v6.ownBlock ≠ some b from fun e => by have h1 := HW6.out.block _ e; have h2 := HBW.out; omega); have HC6 := Lib.hid c6; have HCH2 := Lib.hid (show CsAt b (rjC pid' ⟨#[]⟩ true true count body lost) _ from (c6.set 1 (by show 1 < 7; decide) (.string ⟨#[]⟩)).set 2 (by show 2 < 7; decide) (.bool true)); have hn1 := HC6.out.cell 1 rfl; have hn2 := HC6.out.cell 2 rfl; have fn1 := HC6.out.fz 1 (by show 1 < 7; decide); have fn2 := HC6.out.fz 2 (by show 2 < 7; decide); clear o6 c6 k6) | (go_at_call 27; (with_reducible refine (HT2.out _ (HCH2.out)).mono ?_); rintro _ w7 ⟨v7, rfl, o7, c7, k7⟩; have HO7 := Lib.hid (show Only b w w7 from ((HO6.out.trans (Only.setCell _ ⟨b, 1, none⟩ _)).trans (Only.setCell _ ⟨b, 2, none⟩ _)).trans k7); have HOW := Lib.hid (((HW6.out.only (show Only b _ _ from Only.setCell _ ⟨b, 1, none⟩ _) HNB.out).only (show Only b _ _ from Only.setCell _ ⟨b, 2, none⟩ _) HNB.out).only k7 HNB.out); have hb7 : w.heap.size ≤ w7.heap.size := HO7.out.size; obtain ⟨a7, cap7, rfl, is7, _⟩ := o7.is; have HI7 := Lib.hid is7; have HC7 := Lib.hid c7; have hal7 := HAL.out; clear is7 o7 c7 k7) | (at_builtin; refine wp_catT rfl _ _ rfl HOW.out rfl rfl HI7.out hal7 hb7 ?_; intro v8 w8 o8 g8; have HO8 := Lib.hid (HO7.out.catted (Nat.le_refl _) HOW.out g8); have HC8 := Lib.hid (HC7.out.catted HBW.out HOW.out g8); have HW8 := Lib.hid o8; clear o8 g8))
          go_ret2
          exact RjPost.of HF.out HW8.out ⟨true, count, body, HC8.out, .inr ⟨_, rfl, rfl, rfl, rfl, HCT.out⟩⟩ HO8.out
        · replace HF := Lib.hid HF
          go_enter Tryd.func11, Tryd.ntmps11
          go_wp2_with (first | (refine wp_ldQ (b := X) (off := 0) HPA.out.r rfl _ rfl rfl ?_) | (go_at_call 25; refine HCK.out.mono ?_; rintro _ w1 ⟨rfl, k1⟩; have HP1 := Lib.hid (HPA.out.keeps k1); have HJ1 := Lib.hid (HJA.out.keeps k1); have HO1 := Lib.hid (HOA.out.trans (Only.below k1)); clear k1))
          have p0 := HP1.out.cell 0 rfl
          have j0 := HJ1.out.cell 0 rfl
          go_quiet (fail)
          obtain ⟨w2, hw2⟩ : ∃ w, w1.drewN nq = w := ⟨_, rfl⟩
          have e2 : Eqv w1 w2 := by rw [← hw2]; exact Eqv.drewN _ _
          rw [hw2]
          have HP2 := Lib.hid (HP1.out.eqv e2)
          have HJ2 := Lib.hid (HJ1.out.eqv e2)
          have HO2 := Lib.hid (HO1.out.trans (Only.eqv e2))
          clear hw2 e2
          clear p0 j0
          have p2 := HP2.out.cell 2 rfl
          have p4 := HP2.out.cell 4 rfl
          have j3 := HJ2.out.cell 3 rfl
          have j4 := HJ2.out.cell 4 rfl
          have j5 := HJ2.out.cell 5 rfl
          go_wp2
          go_quiet (fail)
          obtain ⟨w3, hw3⟩ : ∃ w, w2.drewN nq = w := ⟨_, rfl⟩
          have e3 : Eqv w2 w3 := by rw [← hw3]; exact Eqv.drewN _ _
          rw [hw3]
          have HP3 := Lib.hid (HP2.out.eqv e3)
          have HJ3 := Lib.hid (HJ2.out.eqv e3)
          have HO3 := Lib.hid (HO2.out.trans (Only.eqv e3))
          clear hw3 e3
          clear p2 p4 j3 j4 j5
          have p3 := HP3.out.cell 3 rfl
          have j3 := HJ3.out.cell 3 rfl
          go_wp2
          go_quiet (fail)
          obtain ⟨w4, hw4⟩ : ∃ w, w3.drewN nq = w := ⟨_, rfl⟩
          have e4 : Eqv w3 w4 := by rw [← hw4]; exact Eqv.drewN _ _
          rw [hw4]
          have HP4 := Lib.hid (HP3.out.eqv e4)
          have HJ4 := Lib.hid (HJ3.out.eqv e4)
          have HO4 := Lib.hid (HO3.out.trans (Only.eqv e4))
          clear hw4 e4
          clear p3 j3
          have j1 := HJ4.out.cell 1 rfl
          have f1 := HJ4.out.fz 1 (by show 1 < 7; decide)
          have j2 := HJ4.out.cell 2 rfl
          have f2 := HJ4.out.fz 2 (by show 2 < 7; decide)
          have j3 := HJ4.out.cell 3 rfl
          have f3 := HJ4.out.fz 3 (by show 3 < 7; decide)
          have j4 := HJ4.out.cell 4 rfl
          have f4 := HJ4.out.fz 4 (by show 4 < 7; decide)
          have j5 := HJ4.out.cell 5 rfl
          have f5 := HJ4.out.fz 5 (by show 5 < 7; decide)
          have j6 := HJ4.out.cell 6 rfl
          have f6 := HJ4.out.fz 6 (by show 6 < 7; decide)
          have p1 := HP4.out.cell 1 rfl
          have p2 := HP4.out.cell 2 rfl
          have p4 := HP4.out.cell 4 rfl
          have HCH := Lib.hid (show CsAt b (rjC pid' (st hold) true true count body lost) _ from ((HJ4.out.set 3 (by show 3 < 7; decide) (.bool true)).set 4 (by show 4 < 7; decide) (.int .i64 count)).set 5 (by show 5 < 7; decide) (.string body))
          go_wp2_with (first | (go_at_call 27; (with_reducible refine (HTK.out _ (HCH.out)).mono ?_); rintro _ w6 ⟨v6, rfl, o6, c6, k6⟩; have HO6 := Lib.hid (show Only b w w6 from (((HO4.out.trans (Only.setCell _ ⟨b, 3, none⟩ _)).trans (Only.setCell _ ⟨b, 4, none⟩ _)).trans (Only.setCell _ ⟨b, 5, none⟩ _)).trans k6); have HW6 := Lib.hid (o6.lower ((((HO4.out.trans (Only.setCell _ ⟨b, 3, none⟩ _)).trans (Only.setCell _ ⟨b, 4, none⟩ _)).trans (Only.setCell _ ⟨b, 5, none⟩ _)).size)); have HNB := Lib.hid (show v6.ownBlock ≠ some b from fun e => by have h1 := HW6.out.block _ e; have h2 := HBW.out; omega); have HC6 := Lib.hid c6; have HCH2 := Lib.hid (show CsAt b (rjC pid' ⟨#[]⟩ true true count body lost) _ from (c6.set 1 (by show 1 < 7; decide) (.string ⟨#[]⟩)).set 2 (by show 2 < 7; decide) (.bool true)); have hn1 := HC6.out.cell 1 rfl; have hn2 := HC6.out.cell 2 rfl; have fn1 := HC6.out.fz 1 (by show 1 < 7; decide); have fn2 := HC6.out.fz 2 (by show 2 < 7; decide); clear o6 c6 k6) | (go_at_call 27; (with_reducible refine (HT2.out _ (HCH2.out)).mono ?_); rintro _ w7 ⟨v7, rfl, o7, c7, k7⟩; have HO7 := Lib.hid (show Only b w w7 from ((HO6.out.trans (Only.setCell _ ⟨b, 1, none⟩ _)).trans (Only.setCell _ ⟨b, 2, none⟩ _)).trans k7); have HOW := Lib.hid (((HW6.out.only (show Only b _ _ from Only.setCell _ ⟨b, 1, none⟩ _) HNB.out).only (show Only b _ _ from Only.setCell _ ⟨b, 2, none⟩ _) HNB.out).only k7 HNB.out); have hb7 : w.heap.size ≤ w7.heap.size := HO7.out.size; obtain ⟨a7, cap7, rfl, is7, _⟩ := o7.is; have HI7 := Lib.hid is7; have HC7 := Lib.hid c7; have hal7 := HAL.out; clear is7 o7 c7 k7) | (at_builtin; refine wp_catT rfl _ _ rfl HOW.out rfl rfl HI7.out hal7 hb7 ?_; intro v8 w8 o8 g8; have HO8 := Lib.hid (HO7.out.catted (Nat.le_refl _) HOW.out g8); have HC8 := Lib.hid (HC7.out.catted HBW.out HOW.out g8); have HW8 := Lib.hid o8; clear o8 g8))
          go_ret2
          exact RjPost.of HF.out HW8.out ⟨true, count, body, HC8.out, .inr ⟨_, rfl, rfl, rfl, rfl, HCT.out⟩⟩ HO8.out

set_option maxHeartbeats 12800000 in
theorem rjfeed_s {b : Nat} {pid : Int} {J : JS} {w : World} (H : RjAt b pid J w) (p : Pkt) (hz : J.hold.length ≤ 5000) (hp : p.body.size ≤ 1000) (hlo : 0 ≤ J.lost ∧ J.lost ≤ 1000000) (hc : ckP p = 0) (hk : p.pid = pid) (hb : p.body.size ≠ 0) (ha : again J p = false) (hbad : p.bad = false) (hcn : 0 ≤ p.count ∧ p.count ≤ 15) (c0 : Int) (b0 : List UInt8) (hl : J.last = some (c0, b0)) (hd : p.count = c0 ∧ ls p.body ≠ b0) :
    Calls Tryd.prog 11 #[.pointer (some ⟨b, 0, none⟩), pkV p] w (RjPost w b pid (feed pid J p)) := by
  obtain ⟨sn, ct, bd, HC, HL⟩ := H
  obtain ⟨X, hX⟩ : ∃ X, w.heap.size = X := ⟨_, rfl⟩
  obtain ⟨wA, hA⟩ : ∃ wX, w.alloc (.cells #[.int .i64 p.pid, .bool p.start, .int .i64 p.count, .bool p.bad, .string p.body] 37) = wX := ⟨_, rfl⟩
  have HPA := Lib.hid (show CsAt X (pkC p) wA by rw [← hX, ← hA]; exact CsAt.made w #[.int .i64 p.pid, .bool p.start, .int .i64 p.count, .bool p.bad, .string p.body] _ (by simp))
  have hkA : Keeps w wA := by rw [← hA]; exact (Keeps.refl w).alloc _
  have HJA := Lib.hid (HC.keeps hkA)
  have HOA := Lib.hid (show Only b w wA from Only.below hkA)
  have HBW := Lib.hid HC.old
  have HCK := Lib.hid (rpkcheck_any wA p wA (Keeps.refl wA))
  unfold PkkPost at HCK
  have hbX : b ≠ X := by have := HC.old; omega
  have HBX := Lib.hid hbX
  clear hkA HC hbX
  obtain ⟨rfl, rfl, hbd, hct⟩ : sn = true ∧ ct = c0 ∧ ls bd = b0 ∧ 0 ≤ ct ∧ ct ≤ 15 := by
    rcases HL with ⟨h, _⟩ | ⟨q, h, h1, h2, h3, h4⟩
    · rw [hl] at h; cases h
    · rw [hl] at h; cases h; exact ⟨h1, h2, h3, h4⟩
  clear HL
  have hgap := show gap J p = true by unfold gap; rw [hl]; exact decide_eq_true (by rw [hd.1]; have := hct; show ¬ ct = _; omega)
  have HFG := feed_go hc hk hb ha hbad
  rw [(seen_gap hgap).1, (seen_gap hgap).2] at HFG
  rw [hc] at HCK
  obtain ⟨hold, hhold⟩ : ∃ n, J.hold = n := ⟨_, rfl⟩
  obtain ⟨fol, hfol⟩ : ∃ n, J.fol = n := ⟨_, rfl⟩
  obtain ⟨lost, hlost⟩ : ∃ n, J.lost = n := ⟨_, rfl⟩
  rw [hlost] at hlo
  rw [hhold] at hz
  simp only [hhold, hfol, hlost] at HJA HFG
  clear hc ha hl hgap hhold hfol hlost
  obtain ⟨pid', start, count, bad, body⟩ := p
  simp only at hA hp hk hb hbad HFG hd
  subst hk hbad
  have ht : (body.toList == []) = false := by
    rw [beq_eq_false_iff_ne, ls_toList]; intro e
    have h3 : body.size = 0 := by rw [ls_size, e]; rfl
    exact hb h3
  obtain ⟨hd1, hd2⟩ := hd
  subst hd1
  have hbb : (body.toList == bd.toList) = false := by
    rw [beq_eq_false_iff_ne, ls_toList, ls_toList, hbd]; exact hd2
  have wr1 := wrapI (a := count + 1) (by omega) (by omega)
  obtain ⟨m, hm⟩ : ∃ m, (count + 1) % 16 = m := ⟨_, rfl⟩
  have hmod : (count + 1).tmod 16 = m := by rw [Int.tmod_eq_emod_of_nonneg (by omega)]; exact hm
  have wr2 := wrapI (a := lost + 1) (by omega) (by omega)
  have hcm : (count == m) = false := by rw [beq_eq_false_iff_ne]; omega
  have hbX := HBX.out
  have HHB := Lib.hid hb
  have HHP := Lib.hid hp
  have HCT := Lib.hid (show 0 ≤ count ∧ count ≤ 15 by omega)
  clear hb
  cases start
  · have HF := Lib.hid (HFG.trans (feedB_off rfl _ _))
    clear HFG
    go_enter Tryd.func11, Tryd.ntmps11
    go_wp2_with (first | (refine wp_ldQ (b := X) (off := 0) HPA.out.r rfl _ rfl rfl ?_) | (go_at_call 25; refine HCK.out.mono ?_; rintro _ w1 ⟨rfl, k1⟩; have HP1 := Lib.hid (HPA.out.keeps k1); have HJ1 := Lib.hid (HJA.out.keeps k1); have HO1 := Lib.hid (HOA.out.trans (Only.below k1)); clear k1))
    have p0 := HP1.out.cell 0 rfl
    have j0 := HJ1.out.cell 0 rfl
    go_quiet (fail)
    obtain ⟨w2, hw2⟩ : ∃ w, w1.drewN nq = w := ⟨_, rfl⟩
    have e2 : Eqv w1 w2 := by rw [← hw2]; exact Eqv.drewN _ _
    rw [hw2]
    have HP2 := Lib.hid (HP1.out.eqv e2)
    have HJ2 := Lib.hid (HJ1.out.eqv e2)
    have HO2 := Lib.hid (HO1.out.trans (Only.eqv e2))
    clear hw2 e2
    clear p0 j0
    have p2 := HP2.out.cell 2 rfl
    have p4 := HP2.out.cell 4 rfl
    have j3 := HJ2.out.cell 3 rfl
    have j4 := HJ2.out.cell 4 rfl
    have j5 := HJ2.out.cell 5 rfl
    go_wp2
    go_quiet (fail)
    obtain ⟨w3, hw3⟩ : ∃ w, w2.drewN nq = w := ⟨_, rfl⟩
    have e3 : Eqv w2 w3 := by rw [← hw3]; exact Eqv.drewN _ _
    rw [hw3]
    have HP3 := Lib.hid (HP2.out.eqv e3)
    have HJ3 := Lib.hid (HJ2.out.eqv e3)
    have HO3 := Lib.hid (HO2.out.trans (Only.eqv e3))
    clear hw3 e3
    clear p2 p4 j3 j4 j5
    have p3 := HP3.out.cell 3 rfl
    have j3 := HJ3.out.cell 3 rfl
    have j4 := HJ3.out.cell 4 rfl
    have p2 := HP3.out.cell 2 rfl
    go_wp2
    go_quiet (fail)
    obtain ⟨w4, hw4⟩ : ∃ w, w3.drewN nq = w := ⟨_, rfl⟩
    have e4 : Eqv w3 w4 := by rw [← hw4]; exact Eqv.drewN _ _
    rw [hw4]
    have HP4 := Lib.hid (HP3.out.eqv e4)
    have HJ4 := Lib.hid (HJ3.out.eqv e4)
    have HO4 := Lib.hid (HO3.out.trans (Only.eqv e4))
    clear hw4 e4
    clear p3 j3 j4 p2
    go_wp2_with (first | (go_at_call 26; refine (rjlose_any HJ4.out).mono ?_; rintro _ w5 ⟨⟨v5, rfl⟩, c5, o5⟩; have HJ5 := Lib.hid c5; have HO5 := Lib.hid (HO4.out.trans o5); have HP5 := Lib.hid (HP4.out.only (Ne.symm HBX.out) o5); clear c5 o5; have j1 := HJ5.out.cell 1 rfl; have f1 := HJ5.out.fz 1 (by show 1 < 7; decide); have j2 := HJ5.out.cell 2 rfl; have f2 := HJ5.out.fz 2 (by show 2 < 7; decide); have j3 := HJ5.out.cell 3 rfl; have f3 := HJ5.out.fz 3 (by show 3 < 7; decide); have j4 := HJ5.out.cell 4 rfl; have f4 := HJ5.out.fz 4 (by show 4 < 7; decide); have j5 := HJ5.out.cell 5 rfl; have f5 := HJ5.out.fz 5 (by show 5 < 7; decide); have j6 := HJ5.out.cell 6 rfl; have f6 := HJ5.out.fz 6 (by show 6 < 7; decide); have p1 := HP5.out.cell 1 rfl; have p2 := HP5.out.cell 2 rfl; have p4 := HP5.out.cell 4 rfl))
    go_ret2
    exact RjPost.of HF.out (OwnE.nil _ _) ⟨true, count, body, (((HJ5.out.set 6 (by show 6 < 7; decide) (.int .i64 (lost + 1))).set 3 (by show 3 < 7; decide) (.bool true)).set 4 (by show 4 < 7; decide) (.int .i64 count)).set 5 (by show 5 < 7; decide) (.string body), .inr ⟨_, rfl, rfl, rfl, rfl, HCT.out⟩⟩ ((((HO5.out.trans (Only.setCell _ ⟨b, 6, none⟩ _)).trans (Only.setCell _ ⟨b, 3, none⟩ _)).trans (Only.setCell _ ⟨b, 4, none⟩ _)).trans (Only.setCell _ ⟨b, 5, none⟩ _))
  · have hl := ls_size body
    have z0 : 0 < body.size := by have := HHB.out; omega
    have i0 : (0 : Int) < (body.size : Int) := by omega
    have g0 := ls_get body 0 z0
    obtain ⟨cb, hcb⟩ : ∃ c, cf (ls body) 0 = c := ⟨_, rfl⟩
    rw [hcb] at g0
    have h256 := cb.toNat_lt
    obtain ⟨r, hr⟩ : ∃ r, cb.toNat = r := ⟨_, rfl⟩
    have hrI : ((cb.toNat : Nat) : Int) = (r : Int) := by rw [hr]
    have wr3 := wrapI (a := (r : Int)) (by omega) (by omega)
    obtain ⟨Rs, hRs⟩ : ∃ R, body.extract 1 body.size = R := ⟨_, rfl⟩
    have hRl : ls Rs = (ls body).drop 1 := by rw [← hRs, ← st_ls (body.extract 1 body.size), ls_part, ls_st]; exact List.take_of_length_le (by rw [List.length_drop]; omega)
    have hRz : Rs.size = body.size - 1 := by rw [ls_size, hRl, List.length_drop]; omega
    have i1 : (1 : Int) ≤ (body.size : Int) := by omega
    by_cases hlong : body.size - 1 < r
    · have HF := Lib.hid (HFG.trans (feedB_long (by rw [hcb, hr, ← hl]; exact hlong) _))
      have i2 : (Rs.size : Int) < (r : Int) := by omega
      clear hl hcb hr hRl hRz hlong HFG
      go_enter Tryd.func11, Tryd.ntmps11
      go_wp2_with (first | (refine wp_ldQ (b := X) (off := 0) HPA.out.r rfl _ rfl rfl ?_) | (go_at_call 25; refine HCK.out.mono ?_; rintro _ w1 ⟨rfl, k1⟩; have HP1 := Lib.hid (HPA.out.keeps k1); have HJ1 := Lib.hid (HJA.out.keeps k1); have HO1 := Lib.hid (HOA.out.trans (Only.below k1)); clear k1))
      have p0 := HP1.out.cell 0 rfl
      have j0 := HJ1.out.cell 0 rfl
      go_quiet (fail)
      obtain ⟨w2, hw2⟩ : ∃ w, w1.drewN nq = w := ⟨_, rfl⟩
      have e2 : Eqv w1 w2 := by rw [← hw2]; exact Eqv.drewN _ _
      rw [hw2]
      have HP2 := Lib.hid (HP1.out.eqv e2)
      have HJ2 := Lib.hid (HJ1.out.eqv e2)
      have HO2 := Lib.hid (HO1.out.trans (Only.eqv e2))
      clear hw2 e2
      clear p0 j0
      have p2 := HP2.out.cell 2 rfl
      have p4 := HP2.out.cell 4 rfl
      have j3 := HJ2.out.cell 3 rfl
      have j4 := HJ2.out.cell 4 rfl
      have j5 := HJ2.out.cell 5 rfl
      go_wp2
      go_quiet (fail)
      obtain ⟨w3, hw3⟩ : ∃ w, w2.drewN nq = w := ⟨_, rfl⟩
      have e3 : Eqv w2 w3 := by rw [← hw3]; exact Eqv.drewN _ _
      rw [hw3]
      have HP3 := Lib.hid (HP2.out.eqv e3)
      have HJ3 := Lib.hid (HJ2.out.eqv e3)
      have HO3 := Lib.hid (HO2.out.trans (Only.eqv e3))
      clear hw3 e3
      clear p2 p4 j3 j4 j5
      have p3 := HP3.out.cell 3 rfl
      have j3 := HJ3.out.cell 3 rfl
      have j4 := HJ3.out.cell 4 rfl
      have p2 := HP3.out.cell 2 rfl
      go_wp2
      go_quiet (fail)
      obtain ⟨w4, hw4⟩ : ∃ w, w3.drewN nq = w := ⟨_, rfl⟩
      have e4 : Eqv w3 w4 := by rw [← hw4]; exact Eqv.drewN _ _
      rw [hw4]
      have HP4 := Lib.hid (HP3.out.eqv e4)
      have HJ4 := Lib.hid (HJ3.out.eqv e4)
      have HO4 := Lib.hid (HO3.out.trans (Only.eqv e4))
      clear hw4 e4
      clear p3 j3 j4 p2
      go_wp2_with (first | (go_at_call 26; refine (rjlose_any HJ4.out).mono ?_; rintro _ w5 ⟨⟨v5, rfl⟩, c5, o5⟩; have HJ5 := Lib.hid c5; have HO5 := Lib.hid (HO4.out.trans o5); have HP5 := Lib.hid (HP4.out.only (Ne.symm HBX.out) o5); clear c5 o5; have j1 := HJ5.out.cell 1 rfl; have f1 := HJ5.out.fz 1 (by show 1 < 7; decide); have j2 := HJ5.out.cell 2 rfl; have f2 := HJ5.out.fz 2 (by show 2 < 7; decide); have j3 := HJ5.out.cell 3 rfl; have f3 := HJ5.out.fz 3 (by show 3 < 7; decide); have j4 := HJ5.out.cell 4 rfl; have f4 := HJ5.out.fz 4 (by show 4 < 7; decide); have j5 := HJ5.out.cell 5 rfl; have f5 := HJ5.out.fz 5 (by show 5 < 7; decide); have j6 := HJ5.out.cell 6 rfl; have f6 := HJ5.out.fz 6 (by show 6 < 7; decide); have p1 := HP5.out.cell 1 rfl; have p2 := HP5.out.cell 2 rfl; have p4 := HP5.out.cell 4 rfl) | (go_at_call 26; refine (rjlose_any ((((HJ5.out.set 6 (by show 6 < 7; decide) (.int .i64 (lost + 1))).set 3 (by show 3 < 7; decide) (.bool true)).set 4 (by show 4 < 7; decide) (.int .i64 count)).set 5 (by show 5 < 7; decide) (.string body))).mono ?_; rintro _ w9 ⟨⟨v9, rfl⟩, c9, k9⟩; have HO9 := Lib.hid (show Only b w w9 from ((((HO5.out.trans (Only.setCell _ ⟨b, 6, none⟩ _)).trans (Only.setCell _ ⟨b, 3, none⟩ _)).trans (Only.setCell _ ⟨b, 4, none⟩ _)).trans (Only.setCell _ ⟨b, 5, none⟩ _)).trans k9); clear k9))
      go_ret2
      exact RjPost.of HF.out (OwnE.nil _ _) ⟨true, count, body, c9, .inr ⟨_, rfl, rfl, rfl, rfl, HCT.out⟩⟩ HO9.out
    · have i2 : ¬ (Rs.size : Int) < (r : Int) := by omega
      have i3 : (r : Int) ≤ (Rs.size : Int) := by omega
      have i4 : ¬ (r : Int) < 0 := by omega
      obtain ⟨A1, hA1⟩ : ∃ R, Rs.extract 0 r = R := ⟨_, rfl⟩
      obtain ⟨A2, hA2⟩ : ∃ R, Rs.extract r Rs.size = R := ⟨_, rfl⟩
      have hA1l : ls A1 = ((ls body).drop 1).take r := by rw [← hA1, ls_part, hRl, List.drop_zero, Nat.sub_zero]
      have hA2l : ls A2 = (ls body).drop (1 + r) := by rw [← hA2, ls_part, hRl, List.drop_drop]; exact List.take_of_length_le (by rw [List.length_drop]; omega)
      have hA1z : A1.size ≤ 1000 := by rw [ls_size, hA1l, List.length_take, List.length_drop]; omega
      have hA2z : A2.size ≤ 1000 := by rw [ls_size, hA2l, List.length_drop]; omega
      have hlg : ¬ (ls body).length - 1 < (cf (ls body) 0).toNat := by rw [hcb, hr, ← hl]; exact hlong
      have HT2 := Lib.hid (fun W (h : CsAt b (rjC pid' ⟨#[]⟩ true true count body (lost + 1)) W) => rjtake_any h A2 (by decide) (by omega))
      rw [show ls (⟨#[]⟩ : ByteArray) = [] from rfl, List.nil_append, hA2l] at HT2
      obtain ⟨⟨out2, hold2, fol2, ok2⟩, ht2⟩ : ∃ t, tk ((ls body).drop (1 + r)) = t := ⟨_, rfl⟩
      simp only [ht2] at HT2
      unfold TkPost at HT2
      simp only at HT2
      have HF := HFG.trans (feedB_new rfl hlg _)
      rw [hcb, hr] at HF
      simp only [ht2] at HF
      have HAL := Lib.hid (show ([] : List (List UInt8)).length + out2.length ≤ 1000000000 by
        have := tk_few_out ((ls body).drop (1 + r))
        rw [ht2, List.length_drop] at this
        simp only at this
        simp only [List.length_nil]; omega)
      clear hl hcb hr hRl hRz hlong hlg HFG hA1l hA2l ht2
      cases ok2
      · replace HF := Lib.hid HF
        go_enter Tryd.func11, Tryd.ntmps11
        go_wp2_with (first | (refine wp_ldQ (b := X) (off := 0) HPA.out.r rfl _ rfl rfl ?_) | (go_at_call 25; refine HCK.out.mono ?_; rintro _ w1 ⟨rfl, k1⟩; have HP1 := Lib.hid (HPA.out.keeps k1); have HJ1 := Lib.hid (HJA.out.keeps k1); have HO1 := Lib.hid (HOA.out.trans (Only.below k1)); clear k1))
        have p0 := HP1.out.cell 0 rfl
        have j0 := HJ1.out.cell 0 rfl
        go_quiet (fail)
        obtain ⟨w2, hw2⟩ : ∃ w, w1.drewN nq = w := ⟨_, rfl⟩
        have e2 : Eqv w1 w2 := by rw [← hw2]; exact Eqv.drewN _ _
        rw [hw2]
        have HP2 := Lib.hid (HP1.out.eqv e2)
        have HJ2 := Lib.hid (HJ1.out.eqv e2)
        have HO2 := Lib.hid (HO1.out.trans (Only.eqv e2))
        clear hw2 e2
        clear p0 j0
        have p2 := HP2.out.cell 2 rfl
        have p4 := HP2.out.cell 4 rfl
        have j3 := HJ2.out.cell 3 rfl
        have j4 := HJ2.out.cell 4 rfl
        have j5 := HJ2.out.cell 5 rfl
        go_wp2
        go_quiet (fail)
        obtain ⟨w3, hw3⟩ : ∃ w, w2.drewN nq = w := ⟨_, rfl⟩
        have e3 : Eqv w2 w3 := by rw [← hw3]; exact Eqv.drewN _ _
        rw [hw3]
        have HP3 := Lib.hid (HP2.out.eqv e3)
        have HJ3 := Lib.hid (HJ2.out.eqv e3)
        have HO3 := Lib.hid (HO2.out.trans (Only.eqv e3))
        clear hw3 e3
        clear p2 p4 j3 j4 j5
        have p3 := HP3.out.cell 3 rfl
        have j3 := HJ3.out.cell 3 rfl
        have j4 := HJ3.out.cell 4 rfl
        have p2 := HP3.out.cell 2 rfl
        go_wp2
        go_quiet (fail)
        obtain ⟨w4, hw4⟩ : ∃ w, w3.drewN nq = w := ⟨_, rfl⟩
        have e4 : Eqv w3 w4 := by rw [← hw4]; exact Eqv.drewN _ _
        rw [hw4]
        have HP4 := Lib.hid (HP3.out.eqv e4)
        have HJ4 := Lib.hid (HJ3.out.eqv e4)
        have HO4 := Lib.hid (HO3.out.trans (Only.eqv e4))
        clear hw4 e4
        clear p3 j3 j4 p2
        go_wp2_with (first | (go_at_call 26; refine (rjlose_any HJ4.out).mono ?_; rintro _ w5 ⟨⟨v5, rfl⟩, c5, o5⟩; have HJ5 := Lib.hid c5; have HO5 := Lib.hid (HO4.out.trans o5); have HP5 := Lib.hid (HP4.out.only (Ne.symm HBX.out) o5); clear c5 o5; have j1 := HJ5.out.cell 1 rfl; have f1 := HJ5.out.fz 1 (by show 1 < 7; decide); have j2 := HJ5.out.cell 2 rfl; have f2 := HJ5.out.fz 2 (by show 2 < 7; decide); have j3 := HJ5.out.cell 3 rfl; have f3 := HJ5.out.fz 3 (by show 3 < 7; decide); have j4 := HJ5.out.cell 4 rfl; have f4 := HJ5.out.fz 4 (by show 4 < 7; decide); have j5 := HJ5.out.cell 5 rfl; have f5 := HJ5.out.fz 5 (by show 5 < 7; decide); have j6 := HJ5.out.cell 6 rfl; have f6 := HJ5.out.fz 6 (by show 6 < 7; decide); have p1 := HP5.out.cell 1 rfl; have p2 := HP5.out.cell 2 rfl; have p4 := HP5.out.cell 4 rfl) | (go_at_call 27; (refine (HT2.out _ ((((((HJ5.out.set 6 (by show 6 < 7; decide) (.int .i64 (lost + 1))).set 3 (by show 3 < 7; decide) (.bool true)).set 4 (by show 4 < 7; decide) (.int .i64 count)).set 5 (by show 5 < 7; decide) (.string body)).set 1 (by show 1 < 7; decide) (.string ⟨#[]⟩)).set 2 (by show 2 < 7; decide) (.bool true))).mono ?_); rintro _ w7 ⟨v7, rfl, o7, c7, k7⟩; have HO7 := Lib.hid (show Only b w w7 from ((((((HO5.out.trans (Only.setCell _ ⟨b, 6, none⟩ _)).trans (Only.setCell _ ⟨b, 3, none⟩ _)).trans (Only.setCell _ ⟨b, 4, none⟩ _)).trans (Only.setCell _ ⟨b, 5, none⟩ _)).trans (Only.setCell _ ⟨b, 1, none⟩ _)).trans (Only.setCell _ ⟨b, 2, none⟩ _)).trans k7); have HOW := Lib.hid (OwnE.nil (T := rowT) w7 w.heap.size); have hb7 : w.heap.size ≤ w7.heap.size := HO7.out.size; obtain ⟨a7, cap7, rfl, is7, _⟩ := o7.is; have HI7 := Lib.hid is7; have HC7 := Lib.hid c7; have hal7 := HAL.out; clear is7 o7 c7 k7) | (at_builtin; refine wp_catT rfl _ _ rfl HOW.out rfl rfl HI7.out hal7 hb7 ?_; intro v8 w8 o8 g8; have HO8 := Lib.hid (HO7.out.catted (Nat.le_refl _) HOW.out g8); have HC8 := Lib.hid (HC7.out.catted HBW.out HOW.out g8); have HW8 := Lib.hid o8; clear o8 g8))
        go_ret2
        exact RjPost.of HF.out HW8.out ⟨true, count, body, HC8.out, .inr ⟨_, rfl, rfl, rfl, rfl, HCT.out⟩⟩ HO8.out
      · replace HF := Lib.hid HF
        go_enter Tryd.func11, Tryd.ntmps11
        go_wp2_with (first | (refine wp_ldQ (b := X) (off := 0) HPA.out.r rfl _ rfl rfl ?_) | (go_at_call 25; refine HCK.out.mono ?_; rintro _ w1 ⟨rfl, k1⟩; have HP1 := Lib.hid (HPA.out.keeps k1); have HJ1 := Lib.hid (HJA.out.keeps k1); have HO1 := Lib.hid (HOA.out.trans (Only.below k1)); clear k1))
        have p0 := HP1.out.cell 0 rfl
        have j0 := HJ1.out.cell 0 rfl
        go_quiet (fail)
        obtain ⟨w2, hw2⟩ : ∃ w, w1.drewN nq = w := ⟨_, rfl⟩
        have e2 : Eqv w1 w2 := by rw [← hw2]; exact Eqv.drewN _ _
        rw [hw2]
        have HP2 := Lib.hid (HP1.out.eqv e2)
        have HJ2 := Lib.hid (HJ1.out.eqv e2)
        have HO2 := Lib.hid (HO1.out.trans (Only.eqv e2))
        clear hw2 e2
        clear p0 j0
        have p2 := HP2.out.cell 2 rfl
        have p4 := HP2.out.cell 4 rfl
        have j3 := HJ2.out.cell 3 rfl
        have j4 := HJ2.out.cell 4 rfl
        have j5 := HJ2.out.cell 5 rfl
        go_wp2
        go_quiet (fail)
        obtain ⟨w3, hw3⟩ : ∃ w, w2.drewN nq = w := ⟨_, rfl⟩
        have e3 : Eqv w2 w3 := by rw [← hw3]; exact Eqv.drewN _ _
        rw [hw3]
        have HP3 := Lib.hid (HP2.out.eqv e3)
        have HJ3 := Lib.hid (HJ2.out.eqv e3)
        have HO3 := Lib.hid (HO2.out.trans (Only.eqv e3))
        clear hw3 e3
        clear p2 p4 j3 j4 j5
        have p3 := HP3.out.cell 3 rfl
        have j3 := HJ3.out.cell 3 rfl
        have j4 := HJ3.out.cell 4 rfl
        have p2 := HP3.out.cell 2 rfl
        go_wp2
        go_quiet (fail)
        obtain ⟨w4, hw4⟩ : ∃ w, w3.drewN nq = w := ⟨_, rfl⟩
        have e4 : Eqv w3 w4 := by rw [← hw4]; exact Eqv.drewN _ _
        rw [hw4]
        have HP4 := Lib.hid (HP3.out.eqv e4)
        have HJ4 := Lib.hid (HJ3.out.eqv e4)
        have HO4 := Lib.hid (HO3.out.trans (Only.eqv e4))
        clear hw4 e4
        clear p3 j3 j4 p2
        go_wp2_with (first | (go_at_call 26; refine (rjlose_any HJ4.out).mono ?_; rintro _ w5 ⟨⟨v5, rfl⟩, c5, o5⟩; have HJ5 := Lib.hid c5; have HO5 := Lib.hid (HO4.out.trans o5); have HP5 := Lib.hid (HP4.out.only (Ne.symm HBX.out) o5); clear c5 o5; have j1 := HJ5.out.cell 1 rfl; have f1 := HJ5.out.fz 1 (by show 1 < 7; decide); have j2 := HJ5.out.cell 2 rfl; have f2 := HJ5.out.fz 2 (by show 2 < 7; decide); have j3 := HJ5.out.cell 3 rfl; have f3 := HJ5.out.fz 3 (by show 3 < 7; decide); have j4 := HJ5.out.cell 4 rfl; have f4 := HJ5.out.fz 4 (by show 4 < 7; decide); have j5 := HJ5.out.cell 5 rfl; have f5 := HJ5.out.fz 5 (by show 5 < 7; decide); have j6 := HJ5.out.cell 6 rfl; have f6 := HJ5.out.fz 6 (by show 6 < 7; decide); have p1 := HP5.out.cell 1 rfl; have p2 := HP5.out.cell 2 rfl; have p4 := HP5.out.cell 4 rfl) | (go_at_call 27; (refine (HT2.out _ ((((((HJ5.out.set 6 (by show 6 < 7; decide) (.int .i64 (lost + 1))).set 3 (by show 3 < 7; decide) (.bool true)).set 4 (by show 4 < 7; decide) (.int .i64 count)).set 5 (by show 5 < 7; decide) (.string body)).set 1 (by show 1 < 7; decide) (.string ⟨#[]⟩)).set 2 (by show 2 < 7; decide) (.bool true))).mono ?_); rintro _ w7 ⟨v7, rfl, o7, c7, k7⟩; have HO7 := Lib.hid (show Only b w w7 from ((((((HO5.out.trans (Only.setCell _ ⟨b, 6, none⟩ _)).trans (Only.setCell _ ⟨b, 3, none⟩ _)).trans (Only.setCell _ ⟨b, 4, none⟩ _)).trans (Only.setCell _ ⟨b, 5, none⟩ _)).trans (Only.setCell _ ⟨b, 1, none⟩ _)).trans (Only.setCell _ ⟨b, 2, none⟩ _)).trans k7); have HOW := Lib.hid (OwnE.nil (T := rowT) w7 w.heap.size); have hb7 : w.heap.size ≤ w7.heap.size := HO7.out.size; obtain ⟨a7, cap7, rfl, is7, _⟩ := o7.is; have HI7 := Lib.hid is7; have HC7 := Lib.hid c7; have hal7 := HAL.out; clear is7 o7 c7 k7) | (at_builtin; refine wp_catT rfl _ _ rfl HOW.out rfl rfl HI7.out hal7 hb7 ?_; intro v8 w8 o8 g8; have HO8 := Lib.hid (HO7.out.catted (Nat.le_refl _) HOW.out g8); have HC8 := Lib.hid (HC7.out.catted HBW.out HOW.out g8); have HW8 := Lib.hid o8; clear o8 g8))
        go_ret2
        exact RjPost.of HF.out HW8.out ⟨true, count, body, HC8.out, .inr ⟨_, rfl, rfl, rfl, rfl, HCT.out⟩⟩ HO8.out

set_option maxHeartbeats 12800000 in
theorem rjfeed_og {b : Nat} {pid : Int} {J : JS} {w : World} (H : RjAt b pid J w) (p : Pkt) (hz : J.hold.length ≤ 5000) (hp : p.body.size ≤ 1000) (hlo : 0 ≤ J.lost ∧ J.lost ≤ 1000000) (hc : ckP p = 0) (hk : p.pid = pid) (hb : p.body.size ≠ 0) (ha : again J p = false) (hbad : p.bad = false) (hcn : 0 ≤ p.count ∧ p.count ≤ 15) (c0 : Int) (b0 : List UInt8) (hl : J.last = some (c0, b0)) (hd : p.count ≠ c0) (hg : p.count ≠ (c0 + 1) % 16) :
    Calls Tryd.prog 11 #[.pointer (some ⟨b, 0, none⟩), pkV p] w (RjPost w b pid (feed pid J p)) := by
  obtain ⟨sn, ct, bd, HC, HL⟩ := H
  obtain ⟨X, hX⟩ : ∃ X, w.heap.size = X := ⟨_, rfl⟩
  obtain ⟨wA, hA⟩ : ∃ wX, w.alloc (.cells #[.int .i64 p.pid, .bool p.start, .int .i64 p.count, .bool p.bad, .string p.body] 37) = wX := ⟨_, rfl⟩
  have HPA := Lib.hid (show CsAt X (pkC p) wA by rw [← hX, ← hA]; exact CsAt.made w #[.int .i64 p.pid, .bool p.start, .int .i64 p.count, .bool p.bad, .string p.body] _ (by simp))
  have hkA : Keeps w wA := by rw [← hA]; exact (Keeps.refl w).alloc _
  have HJA := Lib.hid (HC.keeps hkA)
  have HOA := Lib.hid (show Only b w wA from Only.below hkA)
  have HBW := Lib.hid HC.old
  have HCK := Lib.hid (rpkcheck_any wA p wA (Keeps.refl wA))
  unfold PkkPost at HCK
  have hbX : b ≠ X := by have := HC.old; omega
  have HBX := Lib.hid hbX
  clear hkA HC hbX
  obtain ⟨rfl, rfl, hbd, hct⟩ : sn = true ∧ ct = c0 ∧ ls bd = b0 ∧ 0 ≤ ct ∧ ct ≤ 15 := by
    rcases HL with ⟨h, _⟩ | ⟨q, h, h1, h2, h3, h4⟩
    · rw [hl] at h; cases h
    · rw [hl] at h; cases h; exact ⟨h1, h2, h3, h4⟩
  clear HL
  have hgap := show gap J p = true by unfold gap; rw [hl]; exact decide_eq_true hg
  have HFG := feed_go hc hk hb ha hbad
  rw [(seen_gap hgap).1, (seen_gap hgap).2] at HFG
  rw [hc] at HCK
  obtain ⟨hold, hhold⟩ : ∃ n, J.hold = n := ⟨_, rfl⟩
  obtain ⟨fol, hfol⟩ : ∃ n, J.fol = n := ⟨_, rfl⟩
  obtain ⟨lost, hlost⟩ : ∃ n, J.lost = n := ⟨_, rfl⟩
  rw [hlost] at hlo
  rw [hhold] at hz
  simp only [hhold, hfol, hlost] at HJA HFG
  clear hc ha hl hgap hhold hfol hlost
  obtain ⟨pid', start, count, bad, body⟩ := p
  simp only at hA hp hk hb hbad HFG hd hg
  subst hk hbad
  have ht : (body.toList == []) = false := by
    rw [beq_eq_false_iff_ne, ls_toList]; intro e
    have h3 : body.size = 0 := by rw [ls_size, e]; rfl
    exact hb h3
  have hcc : (count == ct) = false := by rw [beq_eq_false_iff_ne]; exact hd
  have wr1 := wrapI (a := ct + 1) (by omega) (by omega)
  obtain ⟨m, hm⟩ : ∃ m, (ct + 1) % 16 = m := ⟨_, rfl⟩
  have hmod : (ct + 1).tmod 16 = m := by rw [Int.tmod_eq_emod_of_nonneg (by omega)]; exact hm
  have wr2 := wrapI (a := lost + 1) (by omega) (by omega)
  have hcm : (count == m) = false := by rw [beq_eq_false_iff_ne, ← hm]; exact hg
  have hbX := HBX.out
  have HHB := Lib.hid hb
  have HHP := Lib.hid hp
  have HCT := Lib.hid (show 0 ≤ count ∧ count ≤ 15 by omega)
  clear hb
  cases start
  · have HF := Lib.hid (HFG.trans (feedB_off rfl _ _))
    clear HFG
    go_enter Tryd.func11, Tryd.ntmps11
    go_wp2_with (first | (refine wp_ldQ (b := X) (off := 0) HPA.out.r rfl _ rfl rfl ?_) | (go_at_call 25; refine HCK.out.mono ?_; rintro _ w1 ⟨rfl, k1⟩; have HP1 := Lib.hid (HPA.out.keeps k1); have HJ1 := Lib.hid (HJA.out.keeps k1); have HO1 := Lib.hid (HOA.out.trans (Only.below k1)); clear k1))
    have p0 := HP1.out.cell 0 rfl
    have j0 := HJ1.out.cell 0 rfl
    go_quiet (fail)
    obtain ⟨w2, hw2⟩ : ∃ w, w1.drewN nq = w := ⟨_, rfl⟩
    have e2 : Eqv w1 w2 := by rw [← hw2]; exact Eqv.drewN _ _
    rw [hw2]
    have HP2 := Lib.hid (HP1.out.eqv e2)
    have HJ2 := Lib.hid (HJ1.out.eqv e2)
    have HO2 := Lib.hid (HO1.out.trans (Only.eqv e2))
    clear hw2 e2
    clear p0 j0
    have p2 := HP2.out.cell 2 rfl
    have p4 := HP2.out.cell 4 rfl
    have j3 := HJ2.out.cell 3 rfl
    have j4 := HJ2.out.cell 4 rfl
    have j5 := HJ2.out.cell 5 rfl
    go_wp2
    go_quiet (fail)
    obtain ⟨w3, hw3⟩ : ∃ w, w2.drewN nq = w := ⟨_, rfl⟩
    have e3 : Eqv w2 w3 := by rw [← hw3]; exact Eqv.drewN _ _
    rw [hw3]
    have HP3 := Lib.hid (HP2.out.eqv e3)
    have HJ3 := Lib.hid (HJ2.out.eqv e3)
    have HO3 := Lib.hid (HO2.out.trans (Only.eqv e3))
    clear hw3 e3
    clear p2 p4 j3 j4 j5
    have p3 := HP3.out.cell 3 rfl
    have j3 := HJ3.out.cell 3 rfl
    have j4 := HJ3.out.cell 4 rfl
    have p2 := HP3.out.cell 2 rfl
    go_wp2
    go_quiet (fail)
    obtain ⟨w4, hw4⟩ : ∃ w, w3.drewN nq = w := ⟨_, rfl⟩
    have e4 : Eqv w3 w4 := by rw [← hw4]; exact Eqv.drewN _ _
    rw [hw4]
    have HP4 := Lib.hid (HP3.out.eqv e4)
    have HJ4 := Lib.hid (HJ3.out.eqv e4)
    have HO4 := Lib.hid (HO3.out.trans (Only.eqv e4))
    clear hw4 e4
    clear p3 j3 j4 p2
    go_wp2_with (first | (go_at_call 26; refine (rjlose_any HJ4.out).mono ?_; rintro _ w5 ⟨⟨v5, rfl⟩, c5, o5⟩; have HJ5 := Lib.hid c5; have HO5 := Lib.hid (HO4.out.trans o5); have HP5 := Lib.hid (HP4.out.only (Ne.symm HBX.out) o5); clear c5 o5; have j1 := HJ5.out.cell 1 rfl; have f1 := HJ5.out.fz 1 (by show 1 < 7; decide); have j2 := HJ5.out.cell 2 rfl; have f2 := HJ5.out.fz 2 (by show 2 < 7; decide); have j3 := HJ5.out.cell 3 rfl; have f3 := HJ5.out.fz 3 (by show 3 < 7; decide); have j4 := HJ5.out.cell 4 rfl; have f4 := HJ5.out.fz 4 (by show 4 < 7; decide); have j5 := HJ5.out.cell 5 rfl; have f5 := HJ5.out.fz 5 (by show 5 < 7; decide); have j6 := HJ5.out.cell 6 rfl; have f6 := HJ5.out.fz 6 (by show 6 < 7; decide); have p1 := HP5.out.cell 1 rfl; have p2 := HP5.out.cell 2 rfl; have p4 := HP5.out.cell 4 rfl))
    go_ret2
    exact RjPost.of HF.out (OwnE.nil _ _) ⟨true, count, body, (((HJ5.out.set 6 (by show 6 < 7; decide) (.int .i64 (lost + 1))).set 3 (by show 3 < 7; decide) (.bool true)).set 4 (by show 4 < 7; decide) (.int .i64 count)).set 5 (by show 5 < 7; decide) (.string body), .inr ⟨_, rfl, rfl, rfl, rfl, HCT.out⟩⟩ ((((HO5.out.trans (Only.setCell _ ⟨b, 6, none⟩ _)).trans (Only.setCell _ ⟨b, 3, none⟩ _)).trans (Only.setCell _ ⟨b, 4, none⟩ _)).trans (Only.setCell _ ⟨b, 5, none⟩ _))
  · have hl := ls_size body
    have z0 : 0 < body.size := by have := HHB.out; omega
    have i0 : (0 : Int) < (body.size : Int) := by omega
    have g0 := ls_get body 0 z0
    obtain ⟨cb, hcb⟩ : ∃ c, cf (ls body) 0 = c := ⟨_, rfl⟩
    rw [hcb] at g0
    have h256 := cb.toNat_lt
    obtain ⟨r, hr⟩ : ∃ r, cb.toNat = r := ⟨_, rfl⟩
    have hrI : ((cb.toNat : Nat) : Int) = (r : Int) := by rw [hr]
    have wr3 := wrapI (a := (r : Int)) (by omega) (by omega)
    obtain ⟨Rs, hRs⟩ : ∃ R, body.extract 1 body.size = R := ⟨_, rfl⟩
    have hRl : ls Rs = (ls body).drop 1 := by rw [← hRs, ← st_ls (body.extract 1 body.size), ls_part, ls_st]; exact List.take_of_length_le (by rw [List.length_drop]; omega)
    have hRz : Rs.size = body.size - 1 := by rw [ls_size, hRl, List.length_drop]; omega
    have i1 : (1 : Int) ≤ (body.size : Int) := by omega
    by_cases hlong : body.size - 1 < r
    · have HF := Lib.hid (HFG.trans (feedB_long (by rw [hcb, hr, ← hl]; exact hlong) _))
      have i2 : (Rs.size : Int) < (r : Int) := by omega
      clear hl hcb hr hRl hRz hlong HFG
      go_enter Tryd.func11, Tryd.ntmps11
      go_wp2_with (first | (refine wp_ldQ (b := X) (off := 0) HPA.out.r rfl _ rfl rfl ?_) | (go_at_call 25; refine HCK.out.mono ?_; rintro _ w1 ⟨rfl, k1⟩; have HP1 := Lib.hid (HPA.out.keeps k1); have HJ1 := Lib.hid (HJA.out.keeps k1); have HO1 := Lib.hid (HOA.out.trans (Only.below k1)); clear k1))
      have p0 := HP1.out.cell 0 rfl
      have j0 := HJ1.out.cell 0 rfl
      go_quiet (fail)
      obtain ⟨w2, hw2⟩ : ∃ w, w1.drewN nq = w := ⟨_, rfl⟩
      have e2 : Eqv w1 w2 := by rw [← hw2]; exact Eqv.drewN _ _
      rw [hw2]
      have HP2 := Lib.hid (HP1.out.eqv e2)
      have HJ2 := Lib.hid (HJ1.out.eqv e2)
      have HO2 := Lib.hid (HO1.out.trans (Only.eqv e2))
      clear hw2 e2
      clear p0 j0
      have p2 := HP2.out.cell 2 rfl
      have p4 := HP2.out.cell 4 rfl
      have j3 := HJ2.out.cell 3 rfl
      have j4 := HJ2.out.cell 4 rfl
      have j5 := HJ2.out.cell 5 rfl
      go_wp2
      go_quiet (fail)
      obtain ⟨w3, hw3⟩ : ∃ w, w2.drewN nq = w := ⟨_, rfl⟩
      have e3 : Eqv w2 w3 := by rw [← hw3]; exact Eqv.drewN _ _
      rw [hw3]
      have HP3 := Lib.hid (HP2.out.eqv e3)
      have HJ3 := Lib.hid (HJ2.out.eqv e3)
      have HO3 := Lib.hid (HO2.out.trans (Only.eqv e3))
      clear hw3 e3
      clear p2 p4 j3 j4 j5
      have p3 := HP3.out.cell 3 rfl
      have j3 := HJ3.out.cell 3 rfl
      have j4 := HJ3.out.cell 4 rfl
      have p2 := HP3.out.cell 2 rfl
      go_wp2
      go_quiet (fail)
      obtain ⟨w4, hw4⟩ : ∃ w, w3.drewN nq = w := ⟨_, rfl⟩
      have e4 : Eqv w3 w4 := by rw [← hw4]; exact Eqv.drewN _ _
      rw [hw4]
      have HP4 := Lib.hid (HP3.out.eqv e4)
      have HJ4 := Lib.hid (HJ3.out.eqv e4)
      have HO4 := Lib.hid (HO3.out.trans (Only.eqv e4))
      clear hw4 e4
      clear p3 j3 j4 p2
      go_wp2_with (first | (go_at_call 26; refine (rjlose_any HJ4.out).mono ?_; rintro _ w5 ⟨⟨v5, rfl⟩, c5, o5⟩; have HJ5 := Lib.hid c5; have HO5 := Lib.hid (HO4.out.trans o5); have HP5 := Lib.hid (HP4.out.only (Ne.symm HBX.out) o5); clear c5 o5; have j1 := HJ5.out.cell 1 rfl; have f1 := HJ5.out.fz 1 (by show 1 < 7; decide); have j2 := HJ5.out.cell 2 rfl; have f2 := HJ5.out.fz 2 (by show 2 < 7; decide); have j3 := HJ5.out.cell 3 rfl; have f3 := HJ5.out.fz 3 (by show 3 < 7; decide); have j4 := HJ5.out.cell 4 rfl; have f4 := HJ5.out.fz 4 (by show 4 < 7; decide); have j5 := HJ5.out.cell 5 rfl; have f5 := HJ5.out.fz 5 (by show 5 < 7; decide); have j6 := HJ5.out.cell 6 rfl; have f6 := HJ5.out.fz 6 (by show 6 < 7; decide); have p1 := HP5.out.cell 1 rfl; have p2 := HP5.out.cell 2 rfl; have p4 := HP5.out.cell 4 rfl) | (go_at_call 26; refine (rjlose_any ((((HJ5.out.set 6 (by show 6 < 7; decide) (.int .i64 (lost + 1))).set 3 (by show 3 < 7; decide) (.bool true)).set 4 (by show 4 < 7; decide) (.int .i64 count)).set 5 (by show 5 < 7; decide) (.string body))).mono ?_; rintro _ w9 ⟨⟨v9, rfl⟩, c9, k9⟩; have HO9 := Lib.hid (show Only b w w9 from ((((HO5.out.trans (Only.setCell _ ⟨b, 6, none⟩ _)).trans (Only.setCell _ ⟨b, 3, none⟩ _)).trans (Only.setCell _ ⟨b, 4, none⟩ _)).trans (Only.setCell _ ⟨b, 5, none⟩ _)).trans k9); clear k9))
      go_ret2
      exact RjPost.of HF.out (OwnE.nil _ _) ⟨true, count, body, c9, .inr ⟨_, rfl, rfl, rfl, rfl, HCT.out⟩⟩ HO9.out
    · have i2 : ¬ (Rs.size : Int) < (r : Int) := by omega
      have i3 : (r : Int) ≤ (Rs.size : Int) := by omega
      have i4 : ¬ (r : Int) < 0 := by omega
      obtain ⟨A1, hA1⟩ : ∃ R, Rs.extract 0 r = R := ⟨_, rfl⟩
      obtain ⟨A2, hA2⟩ : ∃ R, Rs.extract r Rs.size = R := ⟨_, rfl⟩
      have hA1l : ls A1 = ((ls body).drop 1).take r := by rw [← hA1, ls_part, hRl, List.drop_zero, Nat.sub_zero]
      have hA2l : ls A2 = (ls body).drop (1 + r) := by rw [← hA2, ls_part, hRl, List.drop_drop]; exact List.take_of_length_le (by rw [List.length_drop]; omega)
      have hA1z : A1.size ≤ 1000 := by rw [ls_size, hA1l, List.length_take, List.length_drop]; omega
      have hA2z : A2.size ≤ 1000 := by rw [ls_size, hA2l, List.length_drop]; omega
      have hlg : ¬ (ls body).length - 1 < (cf (ls body) 0).toNat := by rw [hcb, hr, ← hl]; exact hlong
      have HT2 := Lib.hid (fun W (h : CsAt b (rjC pid' ⟨#[]⟩ true true count body (lost + 1)) W) => rjtake_any h A2 (by decide) (by omega))
      rw [show ls (⟨#[]⟩ : ByteArray) = [] from rfl, List.nil_append, hA2l] at HT2
      obtain ⟨⟨out2, hold2, fol2, ok2⟩, ht2⟩ : ∃ t, tk ((ls body).drop (1 + r)) = t := ⟨_, rfl⟩
      simp only [ht2] at HT2
      unfold TkPost at HT2
      simp only at HT2
      have HF := HFG.trans (feedB_new rfl hlg _)
      rw [hcb, hr] at HF
      simp only [ht2] at HF
      have HAL := Lib.hid (show ([] : List (List UInt8)).length + out2.length ≤ 1000000000 by
        have := tk_few_out ((ls body).drop (1 + r))
        rw [ht2, List.length_drop] at this
        simp only at this
        simp only [List.length_nil]; omega)
      clear hl hcb hr hRl hRz hlong hlg HFG hA1l hA2l ht2
      cases ok2
      · replace HF := Lib.hid HF
        go_enter Tryd.func11, Tryd.ntmps11
        go_wp2_with (first | (refine wp_ldQ (b := X) (off := 0) HPA.out.r rfl _ rfl rfl ?_) | (go_at_call 25; refine HCK.out.mono ?_; rintro _ w1 ⟨rfl, k1⟩; have HP1 := Lib.hid (HPA.out.keeps k1); have HJ1 := Lib.hid (HJA.out.keeps k1); have HO1 := Lib.hid (HOA.out.trans (Only.below k1)); clear k1))
        have p0 := HP1.out.cell 0 rfl
        have j0 := HJ1.out.cell 0 rfl
        go_quiet (fail)
        obtain ⟨w2, hw2⟩ : ∃ w, w1.drewN nq = w := ⟨_, rfl⟩
        have e2 : Eqv w1 w2 := by rw [← hw2]; exact Eqv.drewN _ _
        rw [hw2]
        have HP2 := Lib.hid (HP1.out.eqv e2)
        have HJ2 := Lib.hid (HJ1.out.eqv e2)
        have HO2 := Lib.hid (HO1.out.trans (Only.eqv e2))
        clear hw2 e2
        clear p0 j0
        have p2 := HP2.out.cell 2 rfl
        have p4 := HP2.out.cell 4 rfl
        have j3 := HJ2.out.cell 3 rfl
        have j4 := HJ2.out.cell 4 rfl
        have j5 := HJ2.out.cell 5 rfl
        go_wp2
        go_quiet (fail)
        obtain ⟨w3, hw3⟩ : ∃ w, w2.drewN nq = w := ⟨_, rfl⟩
        have e3 : Eqv w2 w3 := by rw [← hw3]; exact Eqv.drewN _ _
        rw [hw3]
        have HP3 := Lib.hid (HP2.out.eqv e3)
        have HJ3 := Lib.hid (HJ2.out.eqv e3)
        have HO3 := Lib.hid (HO2.out.trans (Only.eqv e3))
        clear hw3 e3
        clear p2 p4 j3 j4 j5
        have p3 := HP3.out.cell 3 rfl
        have j3 := HJ3.out.cell 3 rfl
        have j4 := HJ3.out.cell 4 rfl
        have p2 := HP3.out.cell 2 rfl
        go_wp2
        go_quiet (fail)
        obtain ⟨w4, hw4⟩ : ∃ w, w3.drewN nq = w := ⟨_, rfl⟩
        have e4 : Eqv w3 w4 := by rw [← hw4]; exact Eqv.drewN _ _
        rw [hw4]
        have HP4 := Lib.hid (HP3.out.eqv e4)
        have HJ4 := Lib.hid (HJ3.out.eqv e4)
        have HO4 := Lib.hid (HO3.out.trans (Only.eqv e4))
        clear hw4 e4
        clear p3 j3 j4 p2
        go_wp2_with (first | (go_at_call 26; refine (rjlose_any HJ4.out).mono ?_; rintro _ w5 ⟨⟨v5, rfl⟩, c5, o5⟩; have HJ5 := Lib.hid c5; have HO5 := Lib.hid (HO4.out.trans o5); have HP5 := Lib.hid (HP4.out.only (Ne.symm HBX.out) o5); clear c5 o5; have j1 := HJ5.out.cell 1 rfl; have f1 := HJ5.out.fz 1 (by show 1 < 7; decide); have j2 := HJ5.out.cell 2 rfl; have f2 := HJ5.out.fz 2 (by show 2 < 7; decide); have j3 := HJ5.out.cell 3 rfl; have f3 := HJ5.out.fz 3 (by show 3 < 7; decide); have j4 := HJ5.out.cell 4 rfl; have f4 := HJ5.out.fz 4 (by show 4 < 7; decide); have j5 := HJ5.out.cell 5 rfl; have f5 := HJ5.out.fz 5 (by show 5 < 7; decide); have j6 := HJ5.out.cell 6 rfl; have f6 := HJ5.out.fz 6 (by show 6 < 7; decide); have p1 := HP5.out.cell 1 rfl; have p2 := HP5.out.cell 2 rfl; have p4 := HP5.out.cell 4 rfl) | (go_at_call 27; (refine (HT2.out _ ((((((HJ5.out.set 6 (by show 6 < 7; decide) (.int .i64 (lost + 1))).set 3 (by show 3 < 7; decide) (.bool true)).set 4 (by show 4 < 7; decide) (.int .i64 count)).set 5 (by show 5 < 7; decide) (.string body)).set 1 (by show 1 < 7; decide) (.string ⟨#[]⟩)).set 2 (by show 2 < 7; decide) (.bool true))).mono ?_); rintro _ w7 ⟨v7, rfl, o7, c7, k7⟩; have HO7 := Lib.hid (show Only b w w7 from ((((((HO5.out.trans (Only.setCell _ ⟨b, 6, none⟩ _)).trans (Only.setCell _ ⟨b, 3, none⟩ _)).trans (Only.setCell _ ⟨b, 4, none⟩ _)).trans (Only.setCell _ ⟨b, 5, none⟩ _)).trans (Only.setCell _ ⟨b, 1, none⟩ _)).trans (Only.setCell _ ⟨b, 2, none⟩ _)).trans k7); have HOW := Lib.hid (OwnE.nil (T := rowT) w7 w.heap.size); have hb7 : w.heap.size ≤ w7.heap.size := HO7.out.size; obtain ⟨a7, cap7, rfl, is7, _⟩ := o7.is; have HI7 := Lib.hid is7; have HC7 := Lib.hid c7; have hal7 := HAL.out; clear is7 o7 c7 k7) | (at_builtin; refine wp_catT rfl _ _ rfl HOW.out rfl rfl HI7.out hal7 hb7 ?_; intro v8 w8 o8 g8; have HO8 := Lib.hid (HO7.out.catted (Nat.le_refl _) HOW.out g8); have HC8 := Lib.hid (HC7.out.catted HBW.out HOW.out g8); have HW8 := Lib.hid o8; clear o8 g8))
        go_ret2
        exact RjPost.of HF.out HW8.out ⟨true, count, body, HC8.out, .inr ⟨_, rfl, rfl, rfl, rfl, HCT.out⟩⟩ HO8.out
      · replace HF := Lib.hid HF
        go_enter Tryd.func11, Tryd.ntmps11
        go_wp2_with (first | (refine wp_ldQ (b := X) (off := 0) HPA.out.r rfl _ rfl rfl ?_) | (go_at_call 25; refine HCK.out.mono ?_; rintro _ w1 ⟨rfl, k1⟩; have HP1 := Lib.hid (HPA.out.keeps k1); have HJ1 := Lib.hid (HJA.out.keeps k1); have HO1 := Lib.hid (HOA.out.trans (Only.below k1)); clear k1))
        have p0 := HP1.out.cell 0 rfl
        have j0 := HJ1.out.cell 0 rfl
        go_quiet (fail)
        obtain ⟨w2, hw2⟩ : ∃ w, w1.drewN nq = w := ⟨_, rfl⟩
        have e2 : Eqv w1 w2 := by rw [← hw2]; exact Eqv.drewN _ _
        rw [hw2]
        have HP2 := Lib.hid (HP1.out.eqv e2)
        have HJ2 := Lib.hid (HJ1.out.eqv e2)
        have HO2 := Lib.hid (HO1.out.trans (Only.eqv e2))
        clear hw2 e2
        clear p0 j0
        have p2 := HP2.out.cell 2 rfl
        have p4 := HP2.out.cell 4 rfl
        have j3 := HJ2.out.cell 3 rfl
        have j4 := HJ2.out.cell 4 rfl
        have j5 := HJ2.out.cell 5 rfl
        go_wp2
        go_quiet (fail)
        obtain ⟨w3, hw3⟩ : ∃ w, w2.drewN nq = w := ⟨_, rfl⟩
        have e3 : Eqv w2 w3 := by rw [← hw3]; exact Eqv.drewN _ _
        rw [hw3]
        have HP3 := Lib.hid (HP2.out.eqv e3)
        have HJ3 := Lib.hid (HJ2.out.eqv e3)
        have HO3 := Lib.hid (HO2.out.trans (Only.eqv e3))
        clear hw3 e3
        clear p2 p4 j3 j4 j5
        have p3 := HP3.out.cell 3 rfl
        have j3 := HJ3.out.cell 3 rfl
        have j4 := HJ3.out.cell 4 rfl
        have p2 := HP3.out.cell 2 rfl
        go_wp2
        go_quiet (fail)
        obtain ⟨w4, hw4⟩ : ∃ w, w3.drewN nq = w := ⟨_, rfl⟩
        have e4 : Eqv w3 w4 := by rw [← hw4]; exact Eqv.drewN _ _
        rw [hw4]
        have HP4 := Lib.hid (HP3.out.eqv e4)
        have HJ4 := Lib.hid (HJ3.out.eqv e4)
        have HO4 := Lib.hid (HO3.out.trans (Only.eqv e4))
        clear hw4 e4
        clear p3 j3 j4 p2
        go_wp2_with (first | (go_at_call 26; refine (rjlose_any HJ4.out).mono ?_; rintro _ w5 ⟨⟨v5, rfl⟩, c5, o5⟩; have HJ5 := Lib.hid c5; have HO5 := Lib.hid (HO4.out.trans o5); have HP5 := Lib.hid (HP4.out.only (Ne.symm HBX.out) o5); clear c5 o5; have j1 := HJ5.out.cell 1 rfl; have f1 := HJ5.out.fz 1 (by show 1 < 7; decide); have j2 := HJ5.out.cell 2 rfl; have f2 := HJ5.out.fz 2 (by show 2 < 7; decide); have j3 := HJ5.out.cell 3 rfl; have f3 := HJ5.out.fz 3 (by show 3 < 7; decide); have j4 := HJ5.out.cell 4 rfl; have f4 := HJ5.out.fz 4 (by show 4 < 7; decide); have j5 := HJ5.out.cell 5 rfl; have f5 := HJ5.out.fz 5 (by show 5 < 7; decide); have j6 := HJ5.out.cell 6 rfl; have f6 := HJ5.out.fz 6 (by show 6 < 7; decide); have p1 := HP5.out.cell 1 rfl; have p2 := HP5.out.cell 2 rfl; have p4 := HP5.out.cell 4 rfl) | (go_at_call 27; (refine (HT2.out _ ((((((HJ5.out.set 6 (by show 6 < 7; decide) (.int .i64 (lost + 1))).set 3 (by show 3 < 7; decide) (.bool true)).set 4 (by show 4 < 7; decide) (.int .i64 count)).set 5 (by show 5 < 7; decide) (.string body)).set 1 (by show 1 < 7; decide) (.string ⟨#[]⟩)).set 2 (by show 2 < 7; decide) (.bool true))).mono ?_); rintro _ w7 ⟨v7, rfl, o7, c7, k7⟩; have HO7 := Lib.hid (show Only b w w7 from ((((((HO5.out.trans (Only.setCell _ ⟨b, 6, none⟩ _)).trans (Only.setCell _ ⟨b, 3, none⟩ _)).trans (Only.setCell _ ⟨b, 4, none⟩ _)).trans (Only.setCell _ ⟨b, 5, none⟩ _)).trans (Only.setCell _ ⟨b, 1, none⟩ _)).trans (Only.setCell _ ⟨b, 2, none⟩ _)).trans k7); have HOW := Lib.hid (OwnE.nil (T := rowT) w7 w.heap.size); have hb7 : w.heap.size ≤ w7.heap.size := HO7.out.size; obtain ⟨a7, cap7, rfl, is7, _⟩ := o7.is; have HI7 := Lib.hid is7; have HC7 := Lib.hid c7; have hal7 := HAL.out; clear is7 o7 c7 k7) | (at_builtin; refine wp_catT rfl _ _ rfl HOW.out rfl rfl HI7.out hal7 hb7 ?_; intro v8 w8 o8 g8; have HO8 := Lib.hid (HO7.out.catted (Nat.le_refl _) HOW.out g8); have HC8 := Lib.hid (HC7.out.catted HBW.out HOW.out g8); have HW8 := Lib.hid o8; clear o8 g8))
        go_ret2
        exact RjPost.of HF.out HW8.out ⟨true, count, body, HC8.out, .inr ⟨_, rfl, rfl, rfl, rfl, HCT.out⟩⟩ HO8.out

set_option maxHeartbeats 12800000 in
theorem rjfeed_on {b : Nat} {pid : Int} {J : JS} {w : World} (H : RjAt b pid J w) (p : Pkt) (hz : J.hold.length ≤ 5000) (hp : p.body.size ≤ 1000) (hlo : 0 ≤ J.lost ∧ J.lost ≤ 1000000) (hc : ckP p = 0) (hk : p.pid = pid) (hb : p.body.size ≠ 0) (ha : again J p = false) (hbad : p.bad = false) (hcn : 0 ≤ p.count ∧ p.count ≤ 15) (c0 : Int) (b0 : List UInt8) (hl : J.last = some (c0, b0)) (hd : p.count ≠ c0) (hg : p.count = (c0 + 1) % 16) :
    Calls Tryd.prog 11 #[.pointer (some ⟨b, 0, none⟩), pkV p] w (RjPost w b pid (feed pid J p)) := by
  obtain ⟨sn, ct, bd, HC, HL⟩ := H
  obtain ⟨X, hX⟩ : ∃ X, w.heap.size = X := ⟨_, rfl⟩
  obtain ⟨wA, hA⟩ : ∃ wX, w.alloc (.cells #[.int .i64 p.pid, .bool p.start, .int .i64 p.count, .bool p.bad, .string p.body] 37) = wX := ⟨_, rfl⟩
  have HPA := Lib.hid (show CsAt X (pkC p) wA by rw [← hX, ← hA]; exact CsAt.made w #[.int .i64 p.pid, .bool p.start, .int .i64 p.count, .bool p.bad, .string p.body] _ (by simp))
  have hkA : Keeps w wA := by rw [← hA]; exact (Keeps.refl w).alloc _
  have HJA := Lib.hid (HC.keeps hkA)
  have HOA := Lib.hid (show Only b w wA from Only.below hkA)
  have HBW := Lib.hid HC.old
  have HCK := Lib.hid (rpkcheck_any wA p wA (Keeps.refl wA))
  unfold PkkPost at HCK
  have hbX : b ≠ X := by have := HC.old; omega
  have HBX := Lib.hid hbX
  clear hkA HC hbX
  obtain ⟨rfl, rfl, hbd, hct⟩ : sn = true ∧ ct = c0 ∧ ls bd = b0 ∧ 0 ≤ ct ∧ ct ≤ 15 := by
    rcases HL with ⟨h, _⟩ | ⟨q, h, h1, h2, h3, h4⟩
    · rw [hl] at h; cases h
    · rw [hl] at h; cases h; exact ⟨h1, h2, h3, h4⟩
  clear HL
  have hgap := show gap J p = false by unfold gap; rw [hl]; exact decide_eq_false fun x => x hg
  have HFG := feed_go hc hk hb ha hbad
  rw [(seen_no hgap).1, (seen_no hgap).2] at HFG
  rw [hc] at HCK
  obtain ⟨hold, hhold⟩ : ∃ n, J.hold = n := ⟨_, rfl⟩
  obtain ⟨fol, hfol⟩ : ∃ n, J.fol = n := ⟨_, rfl⟩
  obtain ⟨lost, hlost⟩ : ∃ n, J.lost = n := ⟨_, rfl⟩
  rw [hlost] at hlo
  rw [hhold] at hz
  simp only [hhold, hfol, hlost] at HJA HFG
  clear hc ha hl hgap hhold hfol hlost
  obtain ⟨pid', start, count, bad, body⟩ := p
  simp only at hA hp hk hb hbad HFG hd hg
  subst hk hbad
  have ht : (body.toList == []) = false := by
    rw [beq_eq_false_iff_ne, ls_toList]; intro e
    have h3 : body.size = 0 := by rw [ls_size, e]; rfl
    exact hb h3
  have hcc : (count == ct) = false := by rw [beq_eq_false_iff_ne]; exact hd
  have wr1 := wrapI (a := ct + 1) (by omega) (by omega)
  obtain ⟨m, hm⟩ : ∃ m, (ct + 1) % 16 = m := ⟨_, rfl⟩
  have hmod : (ct + 1).tmod 16 = m := by rw [Int.tmod_eq_emod_of_nonneg (by omega)]; exact hm
  have hcm : count = m := by rw [← hm]; exact hg
  clear hm hg
  subst hcm
  have hbX := HBX.out
  have HHB := Lib.hid hb
  have HHP := Lib.hid hp
  have HCT := Lib.hid (show 0 ≤ count ∧ count ≤ 15 by omega)
  clear hb
  cases start
  · cases fol
    · have HF := Lib.hid (HFG.trans (feedB_off rfl _ _))
      clear HFG
      go_enter Tryd.func11, Tryd.ntmps11
      go_wp2_with (first | (refine wp_ldQ (b := X) (off := 0) HPA.out.r rfl _ rfl rfl ?_) | (go_at_call 25; refine HCK.out.mono ?_; rintro _ w1 ⟨rfl, k1⟩; have HP1 := Lib.hid (HPA.out.keeps k1); have HJ1 := Lib.hid (HJA.out.keeps k1); have HO1 := Lib.hid (HOA.out.trans (Only.below k1)); clear k1))
      have p0 := HP1.out.cell 0 rfl
      have j0 := HJ1.out.cell 0 rfl
      go_quiet (fail)
      obtain ⟨w2, hw2⟩ : ∃ w, w1.drewN nq = w := ⟨_, rfl⟩
      have e2 : Eqv w1 w2 := by rw [← hw2]; exact Eqv.drewN _ _
      rw [hw2]
      have HP2 := Lib.hid (HP1.out.eqv e2)
      have HJ2 := Lib.hid (HJ1.out.eqv e2)
      have HO2 := Lib.hid (HO1.out.trans (Only.eqv e2))
      clear hw2 e2
      clear p0 j0
      have p2 := HP2.out.cell 2 rfl
      have p4 := HP2.out.cell 4 rfl
      have j3 := HJ2.out.cell 3 rfl
      have j4 := HJ2.out.cell 4 rfl
      have j5 := HJ2.out.cell 5 rfl
      go_wp2
      go_quiet (fail)
      obtain ⟨w3, hw3⟩ : ∃ w, w2.drewN nq = w := ⟨_, rfl⟩
      have e3 : Eqv w2 w3 := by rw [← hw3]; exact Eqv.drewN _ _
      rw [hw3]
      have HP3 := Lib.hid (HP2.out.eqv e3)
      have HJ3 := Lib.hid (HJ2.out.eqv e3)
      have HO3 := Lib.hid (HO2.out.trans (Only.eqv e3))
      clear hw3 e3
      clear p2 p4 j3 j4 j5
      have p3 := HP3.out.cell 3 rfl
      have j3 := HJ3.out.cell 3 rfl
      have j4 := HJ3.out.cell 4 rfl
      have p2 := HP3.out.cell 2 rfl
      go_wp2
      go_quiet (fail)
      obtain ⟨w4, hw4⟩ : ∃ w, w3.drewN nq = w := ⟨_, rfl⟩
      have e4 : Eqv w3 w4 := by rw [← hw4]; exact Eqv.drewN _ _
      rw [hw4]
      have HP4 := Lib.hid (HP3.out.eqv e4)
      have HJ4 := Lib.hid (HJ3.out.eqv e4)
      have HO4 := Lib.hid (HO3.out.trans (Only.eqv e4))
      clear hw4 e4
      clear p3 j3 j4 p2
      have j1 := HJ4.out.cell 1 rfl
      have f1 := HJ4.out.fz 1 (by show 1 < 7; decide)
      have j2 := HJ4.out.cell 2 rfl
      have f2 := HJ4.out.fz 2 (by show 2 < 7; decide)
      have j3 := HJ4.out.cell 3 rfl
      have f3 := HJ4.out.fz 3 (by show 3 < 7; decide)
      have j4 := HJ4.out.cell 4 rfl
      have f4 := HJ4.out.fz 4 (by show 4 < 7; decide)
      have j5 := HJ4.out.cell 5 rfl
      have f5 := HJ4.out.fz 5 (by show 5 < 7; decide)
      have j6 := HJ4.out.cell 6 rfl
      have f6 := HJ4.out.fz 6 (by show 6 < 7; decide)
      have p1 := HP4.out.cell 1 rfl
      have p2 := HP4.out.cell 2 rfl
      have p4 := HP4.out.cell 4 rfl
      go_wp2
      go_ret2
      exact RjPost.of HF.out (OwnE.nil _ _) ⟨true, count, body, ((HJ4.out.set 3 (by show 3 < 7; decide) (.bool true)).set 4 (by show 4 < 7; decide) (.int .i64 count)).set 5 (by show 5 < 7; decide) (.string body), .inr ⟨_, rfl, rfl, rfl, rfl, HCT.out⟩⟩ (((HO4.out.trans (Only.setCell _ ⟨b, 3, none⟩ _)).trans (Only.setCell _ ⟨b, 4, none⟩ _)).trans (Only.setCell _ ⟨b, 5, none⟩ _))
    · have HF := HFG.trans (feedB_on rfl _ _)
      clear HFG
      have HTK := Lib.hid (fun W (h : CsAt b (rjC pid' (st hold) true true count body lost) W) => rjtake_any h body (by rw [st_size]; omega) (by omega))
      rw [ls_st] at HTK
      unfold takes at HF
      obtain ⟨⟨out1, hold1, fol1, ok1⟩, ht1⟩ : ∃ t, tk (hold ++ ls body) = t := ⟨_, rfl⟩
      simp only [ht1] at HTK HF
      unfold TkPost at HTK
      simp only at HTK
      clear ht1
      cases ok1
      · replace HF := Lib.hid HF
        go_enter Tryd.func11, Tryd.ntmps11
        go_wp2_with (first | (refine wp_ldQ (b := X) (off := 0) HPA.out.r rfl _ rfl rfl ?_) | (go_at_call 25; refine HCK.out.mono ?_; rintro _ w1 ⟨rfl, k1⟩; have HP1 := Lib.hid (HPA.out.keeps k1); have HJ1 := Lib.hid (HJA.out.keeps k1); have HO1 := Lib.hid (HOA.out.trans (Only.below k1)); clear k1))
        have p0 := HP1.out.cell 0 rfl
        have j0 := HJ1.out.cell 0 rfl
        go_quiet (fail)
        obtain ⟨w2, hw2⟩ : ∃ w, w1.drewN nq = w := ⟨_, rfl⟩
        have e2 : Eqv w1 w2 := by rw [← hw2]; exact Eqv.drewN _ _
        rw [hw2]
        have HP2 := Lib.hid (HP1.out.eqv e2)
        have HJ2 := Lib.hid (HJ1.out.eqv e2)
        have HO2 := Lib.hid (HO1.out.trans (Only.eqv e2))
        clear hw2 e2
        clear p0 j0
        have p2 := HP2.out.cell 2 rfl
        have p4 := HP2.out.cell 4 rfl
        have j3 := HJ2.out.cell 3 rfl
        have j4 := HJ2.out.cell 4 rfl
        have j5 := HJ2.out.cell 5 rfl
        go_wp2
        go_quiet (fail)
        obtain ⟨w3, hw3⟩ : ∃ w, w2.drewN nq = w := ⟨_, rfl⟩
        have e3 : Eqv w2 w3 := by rw [← hw3]; exact Eqv.drewN _ _
        rw [hw3]
        have HP3 := Lib.hid (HP2.out.eqv e3)
        have HJ3 := Lib.hid (HJ2.out.eqv e3)
        have HO3 := Lib.hid (HO2.out.trans (Only.eqv e3))
        clear hw3 e3
        clear p2 p4 j3 j4 j5
        have p3 := HP3.out.cell 3 rfl
        have j3 := HJ3.out.cell 3 rfl
        have j4 := HJ3.out.cell 4 rfl
        have p2 := HP3.out.cell 2 rfl
        go_wp2
        go_quiet (fail)
        obtain ⟨w4, hw4⟩ : ∃ w, w3.drewN nq = w := ⟨_, rfl⟩
        have e4 : Eqv w3 w4 := by rw [← hw4]; exact Eqv.drewN _ _
        rw [hw4]
        have HP4 := Lib.hid (HP3.out.eqv e4)
        have HJ4 := Lib.hid (HJ3.out.eqv e4)
        have HO4 := Lib.hid (HO3.out.trans (Only.eqv e4))
        clear hw4 e4
        clear p3 j3 j4 p2
        have j1 := HJ4.out.cell 1 rfl
        have f1 := HJ4.out.fz 1 (by show 1 < 7; decide)
        have j2 := HJ4.out.cell 2 rfl
        have f2 := HJ4.out.fz 2 (by show 2 < 7; decide)
        have j3 := HJ4.out.cell 3 rfl
        have f3 := HJ4.out.fz 3 (by show 3 < 7; decide)
        have j4 := HJ4.out.cell 4 rfl
        have f4 := HJ4.out.fz 4 (by show 4 < 7; decide)
        have j5 := HJ4.out.cell 5 rfl
        have f5 := HJ4.out.fz 5 (by show 5 < 7; decide)
        have j6 := HJ4.out.cell 6 rfl
        have f6 := HJ4.out.fz 6 (by show 6 < 7; decide)
        have p1 := HP4.out.cell 1 rfl
        have p2 := HP4.out.cell 2 rfl
        have p4 := HP4.out.cell 4 rfl
        go_wp2_with (first | (go_at_call 27; (refine (HTK.out _ (((HJ4.out.set 3 (by show 3 < 7; decide) (.bool true)).set 4 (by show 4 < 7; decide) (.int .i64 count)).set 5 (by show 5 < 7; decide) (.string body))).mono ?_); rintro _ w6 ⟨v6, rfl, o6, c6, k6⟩; have HO6 := Lib.hid (show Only b w w6 from (((HO4.out.trans (Only.setCell _ ⟨b, 3, none⟩ _)).trans (Only.setCell _ ⟨b, 4, none⟩ _)).trans (Only.setCell _ ⟨b, 5, none⟩ _)).trans k6); have HOW := Lib.hid (o6.lower ((((HO4.out.trans (Only.setCell _ ⟨b, 3, none⟩ _)).trans (Only.setCell _ ⟨b, 4, none⟩ _)).trans (Only.setCell _ ⟨b, 5, none⟩ _)).size)); clear o6 k6))
        go_ret2
        exact RjPost.of HF.out HOW.out ⟨true, count, body, c6, .inr ⟨_, rfl, rfl, rfl, rfl, HCT.out⟩⟩ HO6.out
      · replace HF := Lib.hid HF
        go_enter Tryd.func11, Tryd.ntmps11
        go_wp2_with (first | (refine wp_ldQ (b := X) (off := 0) HPA.out.r rfl _ rfl rfl ?_) | (go_at_call 25; refine HCK.out.mono ?_; rintro _ w1 ⟨rfl, k1⟩; have HP1 := Lib.hid (HPA.out.keeps k1); have HJ1 := Lib.hid (HJA.out.keeps k1); have HO1 := Lib.hid (HOA.out.trans (Only.below k1)); clear k1))
        have p0 := HP1.out.cell 0 rfl
        have j0 := HJ1.out.cell 0 rfl
        go_quiet (fail)
        obtain ⟨w2, hw2⟩ : ∃ w, w1.drewN nq = w := ⟨_, rfl⟩
        have e2 : Eqv w1 w2 := by rw [← hw2]; exact Eqv.drewN _ _
        rw [hw2]
        have HP2 := Lib.hid (HP1.out.eqv e2)
        have HJ2 := Lib.hid (HJ1.out.eqv e2)
        have HO2 := Lib.hid (HO1.out.trans (Only.eqv e2))
        clear hw2 e2
        clear p0 j0
        have p2 := HP2.out.cell 2 rfl
        have p4 := HP2.out.cell 4 rfl
        have j3 := HJ2.out.cell 3 rfl
        have j4 := HJ2.out.cell 4 rfl
        have j5 := HJ2.out.cell 5 rfl
        go_wp2
        go_quiet (fail)
        obtain ⟨w3, hw3⟩ : ∃ w, w2.drewN nq = w := ⟨_, rfl⟩
        have e3 : Eqv w2 w3 := by rw [← hw3]; exact Eqv.drewN _ _
        rw [hw3]
        have HP3 := Lib.hid (HP2.out.eqv e3)
        have HJ3 := Lib.hid (HJ2.out.eqv e3)
        have HO3 := Lib.hid (HO2.out.trans (Only.eqv e3))
        clear hw3 e3
        clear p2 p4 j3 j4 j5
        have p3 := HP3.out.cell 3 rfl
        have j3 := HJ3.out.cell 3 rfl
        have j4 := HJ3.out.cell 4 rfl
        have p2 := HP3.out.cell 2 rfl
        go_wp2
        go_quiet (fail)
        obtain ⟨w4, hw4⟩ : ∃ w, w3.drewN nq = w := ⟨_, rfl⟩
        have e4 : Eqv w3 w4 := by rw [← hw4]; exact Eqv.drewN _ _
        rw [hw4]
        have HP4 := Lib.hid (HP3.out.eqv e4)
        have HJ4 := Lib.hid (HJ3.out.eqv e4)
        have HO4 := Lib.hid (HO3.out.trans (Only.eqv e4))
        clear hw4 e4
        clear p3 j3 j4 p2
        have j1 := HJ4.out.cell 1 rfl
        have f1 := HJ4.out.fz 1 (by show 1 < 7; decide)
        have j2 := HJ4.out.cell 2 rfl
        have f2 := HJ4.out.fz 2 (by show 2 < 7; decide)
        have j3 := HJ4.out.cell 3 rfl
        have f3 := HJ4.out.fz 3 (by show 3 < 7; decide)
        have j4 := HJ4.out.cell 4 rfl
        have f4 := HJ4.out.fz 4 (by show 4 < 7; decide)
        have j5 := HJ4.out.cell 5 rfl
        have f5 := HJ4.out.fz 5 (by show 5 < 7; decide)
        have j6 := HJ4.out.cell 6 rfl
        have f6 := HJ4.out.fz 6 (by show 6 < 7; decide)
        have p1 := HP4.out.cell 1 rfl
        have p2 := HP4.out.cell 2 rfl
        have p4 := HP4.out.cell 4 rfl
        go_wp2_with (first | (go_at_call 27; (refine (HTK.out _ (((HJ4.out.set 3 (by show 3 < 7; decide) (.bool true)).set 4 (by show 4 < 7; decide) (.int .i64 count)).set 5 (by show 5 < 7; decide) (.string body))).mono ?_); rintro _ w6 ⟨v6, rfl, o6, c6, k6⟩; have HO6 := Lib.hid (show Only b w w6 from (((HO4.out.trans (Only.setCell _ ⟨b, 3, none⟩ _)).trans (Only.setCell _ ⟨b, 4, none⟩ _)).trans (Only.setCell _ ⟨b, 5, none⟩ _)).trans k6); have HOW := Lib.hid (o6.lower ((((HO4.out.trans (Only.setCell _ ⟨b, 3, none⟩ _)).trans (Only.setCell _ ⟨b, 4, none⟩ _)).trans (Only.setCell _ ⟨b, 5, none⟩ _)).size)); clear o6 k6))
        go_ret2
        exact RjPost.of HF.out HOW.out ⟨true, count, body, c6, .inr ⟨_, rfl, rfl, rfl, rfl, HCT.out⟩⟩ HO6.out
  · have hl := ls_size body
    have z0 : 0 < body.size := by have := HHB.out; omega
    have i0 : (0 : Int) < (body.size : Int) := by omega
    have g0 := ls_get body 0 z0
    obtain ⟨cb, hcb⟩ : ∃ c, cf (ls body) 0 = c := ⟨_, rfl⟩
    rw [hcb] at g0
    have h256 := cb.toNat_lt
    obtain ⟨r, hr⟩ : ∃ r, cb.toNat = r := ⟨_, rfl⟩
    have hrI : ((cb.toNat : Nat) : Int) = (r : Int) := by rw [hr]
    have wr3 := wrapI (a := (r : Int)) (by omega) (by omega)
    obtain ⟨Rs, hRs⟩ : ∃ R, body.extract 1 body.size = R := ⟨_, rfl⟩
    have hRl : ls Rs = (ls body).drop 1 := by rw [← hRs, ← st_ls (body.extract 1 body.size), ls_part, ls_st]; exact List.take_of_length_le (by rw [List.length_drop]; omega)
    have hRz : Rs.size = body.size - 1 := by rw [ls_size, hRl, List.length_drop]; omega
    have i1 : (1 : Int) ≤ (body.size : Int) := by omega
    by_cases hlong : body.size - 1 < r
    · have HF := Lib.hid (HFG.trans (feedB_long (by rw [hcb, hr, ← hl]; exact hlong) _))
      have i2 : (Rs.size : Int) < (r : Int) := by omega
      clear hl hcb hr hRl hRz hlong HFG
      go_enter Tryd.func11, Tryd.ntmps11
      go_wp2_with (first | (refine wp_ldQ (b := X) (off := 0) HPA.out.r rfl _ rfl rfl ?_) | (go_at_call 25; refine HCK.out.mono ?_; rintro _ w1 ⟨rfl, k1⟩; have HP1 := Lib.hid (HPA.out.keeps k1); have HJ1 := Lib.hid (HJA.out.keeps k1); have HO1 := Lib.hid (HOA.out.trans (Only.below k1)); clear k1))
      have p0 := HP1.out.cell 0 rfl
      have j0 := HJ1.out.cell 0 rfl
      go_quiet (fail)
      obtain ⟨w2, hw2⟩ : ∃ w, w1.drewN nq = w := ⟨_, rfl⟩
      have e2 : Eqv w1 w2 := by rw [← hw2]; exact Eqv.drewN _ _
      rw [hw2]
      have HP2 := Lib.hid (HP1.out.eqv e2)
      have HJ2 := Lib.hid (HJ1.out.eqv e2)
      have HO2 := Lib.hid (HO1.out.trans (Only.eqv e2))
      clear hw2 e2
      clear p0 j0
      have p2 := HP2.out.cell 2 rfl
      have p4 := HP2.out.cell 4 rfl
      have j3 := HJ2.out.cell 3 rfl
      have j4 := HJ2.out.cell 4 rfl
      have j5 := HJ2.out.cell 5 rfl
      go_wp2
      go_quiet (fail)
      obtain ⟨w3, hw3⟩ : ∃ w, w2.drewN nq = w := ⟨_, rfl⟩
      have e3 : Eqv w2 w3 := by rw [← hw3]; exact Eqv.drewN _ _
      rw [hw3]
      have HP3 := Lib.hid (HP2.out.eqv e3)
      have HJ3 := Lib.hid (HJ2.out.eqv e3)
      have HO3 := Lib.hid (HO2.out.trans (Only.eqv e3))
      clear hw3 e3
      clear p2 p4 j3 j4 j5
      have p3 := HP3.out.cell 3 rfl
      have j3 := HJ3.out.cell 3 rfl
      have j4 := HJ3.out.cell 4 rfl
      have p2 := HP3.out.cell 2 rfl
      go_wp2
      go_quiet (fail)
      obtain ⟨w4, hw4⟩ : ∃ w, w3.drewN nq = w := ⟨_, rfl⟩
      have e4 : Eqv w3 w4 := by rw [← hw4]; exact Eqv.drewN _ _
      rw [hw4]
      have HP4 := Lib.hid (HP3.out.eqv e4)
      have HJ4 := Lib.hid (HJ3.out.eqv e4)
      have HO4 := Lib.hid (HO3.out.trans (Only.eqv e4))
      clear hw4 e4
      clear p3 j3 j4 p2
      have j1 := HJ4.out.cell 1 rfl
      have f1 := HJ4.out.fz 1 (by show 1 < 7; decide)
      have j2 := HJ4.out.cell 2 rfl
      have f2 := HJ4.out.fz 2 (by show 2 < 7; decide)
      have j3 := HJ4.out.cell 3 rfl
      have f3 := HJ4.out.fz 3 (by show 3 < 7; decide)
      have j4 := HJ4.out.cell 4 rfl
      have f4 := HJ4.out.fz 4 (by show 4 < 7; decide)
      have j5 := HJ4.out.cell 5 rfl
      have f5 := HJ4.out.fz 5 (by show 5 < 7; decide)
      have j6 := HJ4.out.cell 6 rfl
      have f6 := HJ4.out.fz 6 (by show 6 < 7; decide)
      have p1 := HP4.out.cell 1 rfl
      have p2 := HP4.out.cell 2 rfl
      have p4 := HP4.out.cell 4 rfl
      go_wp2_with (first | (go_at_call 26; refine (rjlose_any (((HJ4.out.set 3 (by show 3 < 7; decide) (.bool true)).set 4 (by show 4 < 7; decide) (.int .i64 count)).set 5 (by show 5 < 7; decide) (.string body))).mono ?_; rintro _ w9 ⟨⟨v9, rfl⟩, c9, k9⟩; have HO9 := Lib.hid (show Only b w w9 from (((HO4.out.trans (Only.setCell _ ⟨b, 3, none⟩ _)).trans (Only.setCell _ ⟨b, 4, none⟩ _)).trans (Only.setCell _ ⟨b, 5, none⟩ _)).trans k9); clear k9))
      go_ret2
      exact RjPost.of HF.out (OwnE.nil _ _) ⟨true, count, body, c9, .inr ⟨_, rfl, rfl, rfl, rfl, HCT.out⟩⟩ HO9.out
    · have i2 : ¬ (Rs.size : Int) < (r : Int) := by omega
      have i3 : (r : Int) ≤ (Rs.size : Int) := by omega
      have i4 : ¬ (r : Int) < 0 := by omega
      obtain ⟨A1, hA1⟩ : ∃ R, Rs.extract 0 r = R := ⟨_, rfl⟩
      obtain ⟨A2, hA2⟩ : ∃ R, Rs.extract r Rs.size = R := ⟨_, rfl⟩
      have hA1l : ls A1 = ((ls body).drop 1).take r := by rw [← hA1, ls_part, hRl, List.drop_zero, Nat.sub_zero]
      have hA2l : ls A2 = (ls body).drop (1 + r) := by rw [← hA2, ls_part, hRl, List.drop_drop]; exact List.take_of_length_le (by rw [List.length_drop]; omega)
      have hA1z : A1.size ≤ 1000 := by rw [ls_size, hA1l, List.length_take, List.length_drop]; omega
      have hA2z : A2.size ≤ 1000 := by rw [ls_size, hA2l, List.length_drop]; omega
      have hlg : ¬ (ls body).length - 1 < (cf (ls body) 0).toNat := by rw [hcb, hr, ← hl]; exact hlong
      have HT2 := Lib.hid (fun W (h : CsAt b (rjC pid' ⟨#[]⟩ true true count body (lost)) W) => rjtake_any h A2 (by decide) (by omega))
      rw [show ls (⟨#[]⟩ : ByteArray) = [] from rfl, List.nil_append, hA2l] at HT2
      obtain ⟨⟨out2, hold2, fol2, ok2⟩, ht2⟩ : ∃ t, tk ((ls body).drop (1 + r)) = t := ⟨_, rfl⟩
      simp only [ht2] at HT2
      unfold TkPost at HT2
      simp only at HT2
      cases fol
      · skip
        have HF := HFG.trans (feedB_new rfl hlg _)
        rw [hcb, hr] at HF
        simp only [ht2] at HF
        have HAL := Lib.hid (show ([] : List (List UInt8)).length + out2.length ≤ 1000000000 by
          have := tk_few_out ((ls body).drop (1 + r))
          rw [ht2, List.length_drop] at this
          simp only at this
          simp only [List.length_nil]; omega)
        clear hl hcb hr hRl hRz hlong hlg HFG hA1l hA2l ht2
        cases ok2
        · replace HF := Lib.hid HF
          go_enter Tryd.func11, Tryd.ntmps11
          go_wp2_with (first | (refine wp_ldQ (b := X) (off := 0) HPA.out.r rfl _ rfl rfl ?_) | (go_at_call 25; refine HCK.out.mono ?_; rintro _ w1 ⟨rfl, k1⟩; have HP1 := Lib.hid (HPA.out.keeps k1); have HJ1 := Lib.hid (HJA.out.keeps k1); have HO1 := Lib.hid (HOA.out.trans (Only.below k1)); clear k1))
          have p0 := HP1.out.cell 0 rfl
          have j0 := HJ1.out.cell 0 rfl
          go_quiet (fail)
          obtain ⟨w2, hw2⟩ : ∃ w, w1.drewN nq = w := ⟨_, rfl⟩
          have e2 : Eqv w1 w2 := by rw [← hw2]; exact Eqv.drewN _ _
          rw [hw2]
          have HP2 := Lib.hid (HP1.out.eqv e2)
          have HJ2 := Lib.hid (HJ1.out.eqv e2)
          have HO2 := Lib.hid (HO1.out.trans (Only.eqv e2))
          clear hw2 e2
          clear p0 j0
          have p2 := HP2.out.cell 2 rfl
          have p4 := HP2.out.cell 4 rfl
          have j3 := HJ2.out.cell 3 rfl
          have j4 := HJ2.out.cell 4 rfl
          have j5 := HJ2.out.cell 5 rfl
          go_wp2
          go_quiet (fail)
          obtain ⟨w3, hw3⟩ : ∃ w, w2.drewN nq = w := ⟨_, rfl⟩
          have e3 : Eqv w2 w3 := by rw [← hw3]; exact Eqv.drewN _ _
          rw [hw3]
          have HP3 := Lib.hid (HP2.out.eqv e3)
          have HJ3 := Lib.hid (HJ2.out.eqv e3)
          have HO3 := Lib.hid (HO2.out.trans (Only.eqv e3))
          clear hw3 e3
          clear p2 p4 j3 j4 j5
          have p3 := HP3.out.cell 3 rfl
          have j3 := HJ3.out.cell 3 rfl
          have j4 := HJ3.out.cell 4 rfl
          have p2 := HP3.out.cell 2 rfl
          go_wp2
          go_quiet (fail)
          obtain ⟨w4, hw4⟩ : ∃ w, w3.drewN nq = w := ⟨_, rfl⟩
          have e4 : Eqv w3 w4 := by rw [← hw4]; exact Eqv.drewN _ _
          rw [hw4]
          have HP4 := Lib.hid (HP3.out.eqv e4)
          have HJ4 := Lib.hid (HJ3.out.eqv e4)
          have HO4 := Lib.hid (HO3.out.trans (Only.eqv e4))
          clear hw4 e4
          clear p3 j3 j4 p2
          have j1 := HJ4.out.cell 1 rfl
          have f1 := HJ4.out.fz 1 (by show 1 < 7; decide)
          have j2 := HJ4.out.cell 2 rfl
          have f2 := HJ4.out.fz 2 (by show 2 < 7; decide)
          have j3 := HJ4.out.cell 3 rfl
          have f3 := HJ4.out.fz 3 (by show 3 < 7; decide)
          have j4 := HJ4.out.cell 4 rfl
          have f4 := HJ4.out.fz 4 (by show 4 < 7; decide)
          have j5 := HJ4.out.cell 5 rfl
          have f5 := HJ4.out.fz 5 (by show 5 < 7; decide)
          have j6 := HJ4.out.cell 6 rfl
          have f6 := HJ4.out.fz 6 (by show 6 < 7; decide)
          have p1 := HP4.out.cell 1 rfl
          have p2 := HP4.out.cell 2 rfl
          have p4 := HP4.out.cell 4 rfl
          go_wp2_with (first | (go_at_call 27; (refine (HT2.out _ (((((HJ4.out.set 3 (by show 3 < 7; decide) (.bool true)).set 4 (by show 4 < 7; decide) (.int .i64 count)).set 5 (by show 5 < 7; decide) (.string body)).set 1 (by show 1 < 7; decide) (.string ⟨#[]⟩)).set 2 (by show 2 < 7; decide) (.bool true))).mono ?_); rintro _ w7 ⟨v7, rfl, o7, c7, k7⟩; have HO7 := Lib.hid (show Only b w w7 from (((((HO4.out.trans (Only.setCell _ ⟨b, 3, none⟩ _)).trans (Only.setCell _ ⟨b, 4, none⟩ _)).trans (Only.setCell _ ⟨b, 5, none⟩ _)).trans (Only.setCell _ ⟨b, 1, none⟩ _)).trans (Only.setCell _ ⟨b, 2, none⟩ _)).trans k7); have HOW := Lib.hid (OwnE.nil (T := rowT) w7 w.heap.size); have hb7 : w.heap.size ≤ w7.heap.size := HO7.out.size; obtain ⟨a7, cap7, rfl, is7, _⟩ := o7.is; have HI7 := Lib.hid is7; have HC7 := Lib.hid c7; have hal7 := HAL.out; clear is7 o7 c7 k7) | (at_builtin; refine wp_catT rfl _ _ rfl HOW.out rfl rfl HI7.out hal7 hb7 ?_; intro v8 w8 o8 g8; have HO8 := Lib.hid (HO7.out.catted (Nat.le_refl _) HOW.out g8); have HC8 := Lib.hid (HC7.out.catted HBW.out HOW.out g8); have HW8 := Lib.hid o8; clear o8 g8))
          go_ret2
          exact RjPost.of HF.out HW8.out ⟨true, count, body, HC8.out, .inr ⟨_, rfl, rfl, rfl, rfl, HCT.out⟩⟩ HO8.out
        · replace HF := Lib.hid HF
          go_enter Tryd.func11, Tryd.ntmps11
          go_wp2_with (first | (refine wp_ldQ (b := X) (off := 0) HPA.out.r rfl _ rfl rfl ?_) | (go_at_call 25; refine HCK.out.mono ?_; rintro _ w1 ⟨rfl, k1⟩; have HP1 := Lib.hid (HPA.out.keeps k1); have HJ1 := Lib.hid (HJA.out.keeps k1); have HO1 := Lib.hid (HOA.out.trans (Only.below k1)); clear k1))
          have p0 := HP1.out.cell 0 rfl
          have j0 := HJ1.out.cell 0 rfl
          go_quiet (fail)
          obtain ⟨w2, hw2⟩ : ∃ w, w1.drewN nq = w := ⟨_, rfl⟩
          have e2 : Eqv w1 w2 := by rw [← hw2]; exact Eqv.drewN _ _
          rw [hw2]
          have HP2 := Lib.hid (HP1.out.eqv e2)
          have HJ2 := Lib.hid (HJ1.out.eqv e2)
          have HO2 := Lib.hid (HO1.out.trans (Only.eqv e2))
          clear hw2 e2
          clear p0 j0
          have p2 := HP2.out.cell 2 rfl
          have p4 := HP2.out.cell 4 rfl
          have j3 := HJ2.out.cell 3 rfl
          have j4 := HJ2.out.cell 4 rfl
          have j5 := HJ2.out.cell 5 rfl
          go_wp2
          go_quiet (fail)
          obtain ⟨w3, hw3⟩ : ∃ w, w2.drewN nq = w := ⟨_, rfl⟩
          have e3 : Eqv w2 w3 := by rw [← hw3]; exact Eqv.drewN _ _
          rw [hw3]
          have HP3 := Lib.hid (HP2.out.eqv e3)
          have HJ3 := Lib.hid (HJ2.out.eqv e3)
          have HO3 := Lib.hid (HO2.out.trans (Only.eqv e3))
          clear hw3 e3
          clear p2 p4 j3 j4 j5
          have p3 := HP3.out.cell 3 rfl
          have j3 := HJ3.out.cell 3 rfl
          have j4 := HJ3.out.cell 4 rfl
          have p2 := HP3.out.cell 2 rfl
          go_wp2
          go_quiet (fail)
          obtain ⟨w4, hw4⟩ : ∃ w, w3.drewN nq = w := ⟨_, rfl⟩
          have e4 : Eqv w3 w4 := by rw [← hw4]; exact Eqv.drewN _ _
          rw [hw4]
          have HP4 := Lib.hid (HP3.out.eqv e4)
          have HJ4 := Lib.hid (HJ3.out.eqv e4)
          have HO4 := Lib.hid (HO3.out.trans (Only.eqv e4))
          clear hw4 e4
          clear p3 j3 j4 p2
          have j1 := HJ4.out.cell 1 rfl
          have f1 := HJ4.out.fz 1 (by show 1 < 7; decide)
          have j2 := HJ4.out.cell 2 rfl
          have f2 := HJ4.out.fz 2 (by show 2 < 7; decide)
          have j3 := HJ4.out.cell 3 rfl
          have f3 := HJ4.out.fz 3 (by show 3 < 7; decide)
          have j4 := HJ4.out.cell 4 rfl
          have f4 := HJ4.out.fz 4 (by show 4 < 7; decide)
          have j5 := HJ4.out.cell 5 rfl
          have f5 := HJ4.out.fz 5 (by show 5 < 7; decide)
          have j6 := HJ4.out.cell 6 rfl
          have f6 := HJ4.out.fz 6 (by show 6 < 7; decide)
          have p1 := HP4.out.cell 1 rfl
          have p2 := HP4.out.cell 2 rfl
          have p4 := HP4.out.cell 4 rfl
          go_wp2_with (first | (go_at_call 27; (refine (HT2.out _ (((((HJ4.out.set 3 (by show 3 < 7; decide) (.bool true)).set 4 (by show 4 < 7; decide) (.int .i64 count)).set 5 (by show 5 < 7; decide) (.string body)).set 1 (by show 1 < 7; decide) (.string ⟨#[]⟩)).set 2 (by show 2 < 7; decide) (.bool true))).mono ?_); rintro _ w7 ⟨v7, rfl, o7, c7, k7⟩; have HO7 := Lib.hid (show Only b w w7 from (((((HO4.out.trans (Only.setCell _ ⟨b, 3, none⟩ _)).trans (Only.setCell _ ⟨b, 4, none⟩ _)).trans (Only.setCell _ ⟨b, 5, none⟩ _)).trans (Only.setCell _ ⟨b, 1, none⟩ _)).trans (Only.setCell _ ⟨b, 2, none⟩ _)).trans k7); have HOW := Lib.hid (OwnE.nil (T := rowT) w7 w.heap.size); have hb7 : w.heap.size ≤ w7.heap.size := HO7.out.size; obtain ⟨a7, cap7, rfl, is7, _⟩ := o7.is; have HI7 := Lib.hid is7; have HC7 := Lib.hid c7; have hal7 := HAL.out; clear is7 o7 c7 k7) | (at_builtin; refine wp_catT rfl _ _ rfl HOW.out rfl rfl HI7.out hal7 hb7 ?_; intro v8 w8 o8 g8; have HO8 := Lib.hid (HO7.out.catted (Nat.le_refl _) HOW.out g8); have HC8 := Lib.hid (HC7.out.catted HBW.out HOW.out g8); have HW8 := Lib.hid o8; clear o8 g8))
          go_ret2
          exact RjPost.of HF.out HW8.out ⟨true, count, body, HC8.out, .inr ⟨_, rfl, rfl, rfl, rfl, HCT.out⟩⟩ HO8.out
      · have HF := HFG.trans (feedB_both rfl hlg _)
        rw [hcb, hr] at HF
        have HTK := Lib.hid (fun W (h : CsAt b (rjC pid' (st hold) true true count body lost) W) => rjtake_any h A1 (by rw [st_size]; omega) (by omega))
        rw [ls_st, hA1l] at HTK
        obtain ⟨⟨out1, hold1, fol1, ok1⟩, ht1⟩ : ∃ t, tk (hold ++ ((ls body).drop 1).take r) = t := ⟨_, rfl⟩
        simp only [ht1, ht2] at HTK HF
        unfold TkPost at HTK
        simp only at HTK
        have HAL := Lib.hid (show out1.length + out2.length ≤ 1000000000 by
          have h1 := tk_few_out ((ls body).drop (1 + r))
          have h2 := tk_few_out (hold ++ ((ls body).drop 1).take r)
          rw [ht2, List.length_drop] at h1
          rw [ht1, List.length_append, List.length_take, List.length_drop] at h2
          simp only at h1 h2
          omega)
        clear hl hcb hr hRl hRz hlong hlg HFG hA1l hA2l ht2 ht1
        cases ok1 <;> cases ok2
        · replace HF := Lib.hid HF
          go_enter Tryd.func11, Tryd.ntmps11
          go_wp2_with (first | (refine wp_ldQ (b := X) (off := 0) HPA.out.r rfl _ rfl rfl ?_) | (go_at_call 25; refine HCK.out.mono ?_; rintro _ w1 ⟨rfl, k1⟩; have HP1 := Lib.hid (HPA.out.keeps k1); have HJ1 := Lib.hid (HJA.out.keeps k1); have HO1 := Lib.hid (HOA.out.trans (Only.below k1)); clear k1))
          have p0 := HP1.out.cell 0 rfl
          have j0 := HJ1.out.cell 0 rfl
          go_quiet (fail)
          obtain ⟨w2, hw2⟩ : ∃ w, w1.drewN nq = w := ⟨_, rfl⟩
          have e2 : Eqv w1 w2 := by rw [← hw2]; exact Eqv.drewN _ _
          rw [hw2]
          have HP2 := Lib.hid (HP1.out.eqv e2)
          have HJ2 := Lib.hid (HJ1.out.eqv e2)
          have HO2 := Lib.hid (HO1.out.trans (Only.eqv e2))
          clear hw2 e2
          clear p0 j0
          have p2 := HP2.out.cell 2 rfl
          have p4 := HP2.out.cell 4 rfl
          have j3 := HJ2.out.cell 3 rfl
          have j4 := HJ2.out.cell 4 rfl
          have j5 := HJ2.out.cell 5 rfl
          go_wp2
          go_quiet (fail)
          obtain ⟨w3, hw3⟩ : ∃ w, w2.drewN nq = w := ⟨_, rfl⟩
          have e3 : Eqv w2 w3 := by rw [← hw3]; exact Eqv.drewN _ _
          rw [hw3]
          have HP3 := Lib.hid (HP2.out.eqv e3)
          have HJ3 := Lib.hid (HJ2.out.eqv e3)
          have HO3 := Lib.hid (HO2.out.trans (Only.eqv e3))
          clear hw3 e3
          clear p2 p4 j3 j4 j5
          have p3 := HP3.out.cell 3 rfl
          have j3 := HJ3.out.cell 3 rfl
          have j4 := HJ3.out.cell 4 rfl
          have p2 := HP3.out.cell 2 rfl
          go_wp2
          go_quiet (fail)
          obtain ⟨w4, hw4⟩ : ∃ w, w3.drewN nq = w := ⟨_, rfl⟩
          have e4 : Eqv w3 w4 := by rw [← hw4]; exact Eqv.drewN _ _
          rw [hw4]
          have HP4 := Lib.hid (HP3.out.eqv e4)
          have HJ4 := Lib.hid (HJ3.out.eqv e4)
          have HO4 := Lib.hid (HO3.out.trans (Only.eqv e4))
          clear hw4 e4
          clear p3 j3 j4 p2
          have j1 := HJ4.out.cell 1 rfl
          have f1 := HJ4.out.fz 1 (by show 1 < 7; decide)
          have j2 := HJ4.out.cell 2 rfl
          have f2 := HJ4.out.fz 2 (by show 2 < 7; decide)
          have j3 := HJ4.out.cell 3 rfl
          have f3 := HJ4.out.fz 3 (by show 3 < 7; decide)
          have j4 := HJ4.out.cell 4 rfl
          have f4 := HJ4.out.fz 4 (by show 4 < 7; decide)
          have j5 := HJ4.out.cell 5 rfl
          have f5 := HJ4.out.fz 5 (by show 5 < 7; decide)
          have j6 := HJ4.out.cell 6 rfl
          have f6 := HJ4.out.fz 6 (by show 6 < 7; decide)
          have p1 := HP4.out.cell 1 rfl
          have p2 := HP4.out.cell 2 rfl
          have p4 := HP4.out.cell 4 rfl
          have HCH := Lib.hid (show CsAt b (rjC pid' (st hold) true true count body lost) _ from ((HJ4.out.set 3 (by show 3 < 7; decide) (.bool true)).set 4 (by show 4 < 7; decide) (.int .i64 count)).set 5 (by show 5 < 7; decide) (.string body))
          go_wp2_with (first | (go_at_call 27; (with_reducible refine (HTK.out _ (HCH.out)).mono ?_); rintro _ w6 ⟨v6, rfl, o6, c6, k6⟩; have HO6 := Lib.hid (show Only b w w6 from (((HO4.out.trans (Only.setCell _ ⟨b, 3, none⟩ _)).trans (Only.setCell _ ⟨b, 4, none⟩ _)).trans (Only.setCell _ ⟨b, 5, none⟩ _)).trans k6); have HW6 := Lib.hid (o6.lower ((((HO4.out.trans (Only.setCell _ ⟨b, 3, none⟩ _)).trans (Only.setCell _ ⟨b, 4, none⟩ _)).trans (Only.setCell _ ⟨b, 5, none⟩ _)).size)); have HNB := Lib.hid (show v6.ownBlock ≠ some b from fun e => by have h1 := HW6.out.block _ e; have h2 := HBW.out; omega); have HC6 := Lib.hid c6; have HCH2 := Lib.hid (show CsAt b (rjC pid' ⟨#[]⟩ true true count body lost) _ from (c6.set 1 (by show 1 < 7; decide) (.string ⟨#[]⟩)).set 2 (by show 2 < 7; decide) (.bool true)); have hn1 := HC6.out.cell 1 rfl; have hn2 := HC6.out.cell 2 rfl; have fn1 := HC6.out.fz 1 (by show 1 < 7; decide); have fn2 := HC6.out.fz 2 (by show 2 < 7; decide); clear o6 c6 k6) | (go_at_call 27; (with_reducible refine (HT2.out _ (HCH2.out)).mono ?_); rintro _ w7 ⟨v7, rfl, o7, c7, k7⟩; have HO7 := Lib.hid (show Only b w w7 from ((HO6.out.trans (Only.setCell _ ⟨b, 1, none⟩ _)).trans (Only.setCell _ ⟨b, 2, none⟩ _)).trans k7); have HOW := Lib.hid (((HW6.out.only (show Only b _ _ from Only.setCell _ ⟨b, 1, none⟩ _) HNB.out).only (show Only b _ _ from Only.setCell _ ⟨b, 2, none⟩ _) HNB.out).only k7 HNB.out); have hb7 : w.heap.size ≤ w7.heap.size := HO7.out.size; obtain ⟨a7, cap7, rfl, is7, _⟩ := o7.is; have HI7 := Lib.hid is7; have HC7 := Lib.hid c7; have hal7 := HAL.out; clear is7 o7 c7 k7) | (at_builtin; refine wp_catT rfl _ _ rfl HOW.out rfl rfl HI7.out hal7 hb7 ?_; intro v8 w8 o8 g8; have HO8 := Lib.hid (HO7.out.catted (Nat.le_refl _) HOW.out g8); have HC8 := Lib.hid (HC7.out.catted HBW.out HOW.out g8); have HW8 := Lib.hid o8; clear o8 g8))
          go_ret2
          exact RjPost.of HF.out HW8.out ⟨true, count, body, HC8.out, .inr ⟨_, rfl, rfl, rfl, rfl, HCT.out⟩⟩ HO8.out
        · replace HF := Lib.hid HF
          go_enter Tryd.func11, Tryd.ntmps11
          go_wp2_with (first | (refine wp_ldQ (b := X) (off := 0) HPA.out.r rfl _ rfl rfl ?_) | (go_at_call 25; refine HCK.out.mono ?_; rintro _ w1 ⟨rfl, k1⟩; have HP1 := Lib.hid (HPA.out.keeps k1); have HJ1 := Lib.hid (HJA.out.keeps k1); have HO1 := Lib.hid (HOA.out.trans (Only.below k1)); clear k1))
          have p0 := HP1.out.cell 0 rfl
          have j0 := HJ1.out.cell 0 rfl
          go_quiet (fail)
          obtain ⟨w2, hw2⟩ : ∃ w, w1.drewN nq = w := ⟨_, rfl⟩
          have e2 : Eqv w1 w2 := by rw [← hw2]; exact Eqv.drewN _ _
          rw [hw2]
          have HP2 := Lib.hid (HP1.out.eqv e2)
          have HJ2 := Lib.hid (HJ1.out.eqv e2)
          have HO2 := Lib.hid (HO1.out.trans (Only.eqv e2))
          clear hw2 e2
          clear p0 j0
          have p2 := HP2.out.cell 2 rfl
          have p4 := HP2.out.cell 4 rfl
          have j3 := HJ2.out.cell 3 rfl
          have j4 := HJ2.out.cell 4 rfl
          have j5 := HJ2.out.cell 5 rfl
          go_wp2
          go_quiet (fail)
          obtain ⟨w3, hw3⟩ : ∃ w, w2.drewN nq = w := ⟨_, rfl⟩
          have e3 : Eqv w2 w3 := by rw [← hw3]; exact Eqv.drewN _ _
          rw [hw3]
          have HP3 := Lib.hid (HP2.out.eqv e3)
          have HJ3 := Lib.hid (HJ2.out.eqv e3)
          have HO3 := Lib.hid (HO2.out.trans (Only.eqv e3))
          clear hw3 e3
          clear p2 p4 j3 j4 j5
          have p3 := HP3.out.cell 3 rfl
          have j3 := HJ3.out.cell 3 rfl
          have j4 := HJ3.out.cell 4 rfl
          have p2 := HP3.out.cell 2 rfl
          go_wp2
          go_quiet (fail)
          obtain ⟨w4, hw4⟩ : ∃ w, w3.drewN nq = w := ⟨_, rfl⟩
          have e4 : Eqv w3 w4 := by rw [← hw4]; exact Eqv.drewN _ _
          rw [hw4]
          have HP4 := Lib.hid (HP3.out.eqv e4)
          have HJ4 := Lib.hid (HJ3.out.eqv e4)
          have HO4 := Lib.hid (HO3.out.trans (Only.eqv e4))
          clear hw4 e4
          clear p3 j3 j4 p2
          have j1 := HJ4.out.cell 1 rfl
          have f1 := HJ4.out.fz 1 (by show 1 < 7; decide)
          have j2 := HJ4.out.cell 2 rfl
          have f2 := HJ4.out.fz 2 (by show 2 < 7; decide)
          have j3 := HJ4.out.cell 3 rfl
          have f3 := HJ4.out.fz 3 (by show 3 < 7; decide)
          have j4 := HJ4.out.cell 4 rfl
          have f4 := HJ4.out.fz 4 (by show 4 < 7; decide)
          have j5 := HJ4.out.cell 5 rfl
          have f5 := HJ4.out.fz 5 (by show 5 < 7; decide)
          have j6 := HJ4.out.cell 6 rfl
          have f6 := HJ4.out.fz 6 (by show 6 < 7; decide)
          have p1 := HP4.out.cell 1 rfl
          have p2 := HP4.out.cell 2 rfl
          have p4 := HP4.out.cell 4 rfl
          have HCH := Lib.hid (show CsAt b (rjC pid' (st hold) true true count body lost) _ from ((HJ4.out.set 3 (by show 3 < 7; decide) (.bool true)).set 4 (by show 4 < 7; decide) (.int .i64 count)).set 5 (by show 5 < 7; decide) (.string body))
          go_wp2_with (first | (go_at_call 27; (with_reducible refine (HTK.out _ (HCH.out)).mono ?_); rintro _ w6 ⟨v6, rfl, o6, c6, k6⟩; have HO6 := Lib.hid (show Only b w w6 from (((HO4.out.trans (Only.setCell _ ⟨b, 3, none⟩ _)).trans (Only.setCell _ ⟨b, 4, none⟩ _)).trans (Only.setCell _ ⟨b, 5, none⟩ _)).trans k6); have HW6 := Lib.hid (o6.lower ((((HO4.out.trans (Only.setCell _ ⟨b, 3, none⟩ _)).trans (Only.setCell _ ⟨b, 4, none⟩ _)).trans (Only.setCell _ ⟨b, 5, none⟩ _)).size)); have HNB := Lib.hid (show v6.ownBlock ≠ some b from fun e => by have h1 := HW6.out.block _ e; have h2 := HBW.out; omega); have HC6 := Lib.hid c6; have HCH2 := Lib.hid (show CsAt b (rjC pid' ⟨#[]⟩ true true count body lost) _ from (c6.set 1 (by show 1 < 7; decide) (.string ⟨#[]⟩)).set 2 (by show 2 < 7; decide) (.bool true)); have hn1 := HC6.out.cell 1 rfl; have hn2 := HC6.out.cell 2 rfl; have fn1 := HC6.out.fz 1 (by show 1 < 7; decide); have fn2 := HC6.out.fz 2 (by show 2 < 7; decide); clear o6 c6 k6) | (go_at_call 27; (with_reducible refine (HT2.out _ (HCH2.out)).mono ?_); rintro _ w7 ⟨v7, rfl, o7, c7, k7⟩; have HO7 := Lib.hid (show Only b w w7 from ((HO6.out.trans (Only.setCell _ ⟨b, 1, none⟩ _)).trans (Only.setCell _ ⟨b, 2, none⟩ _)).trans k7); have HOW := Lib.hid (((HW6.out.only (show Only b _ _ from Only.setCell _ ⟨b, 1, none⟩ _) HNB.out).only (show Only b _ _ from Only.setCell _ ⟨b, 2, none⟩ _) HNB.out).only k7 HNB.out); have hb7 : w.heap.size ≤ w7.heap.size := HO7.out.size; obtain ⟨a7, cap7, rfl, is7, _⟩ := o7.is; have HI7 := Lib.hid is7; have HC7 := Lib.hid c7; have hal7 := HAL.out; clear is7 o7 c7 k7) | (at_builtin; refine wp_catT rfl _ _ rfl HOW.out rfl rfl HI7.out hal7 hb7 ?_; intro v8 w8 o8 g8; have HO8 := Lib.hid (HO7.out.catted (Nat.le_refl _) HOW.out g8); have HC8 := Lib.hid (HC7.out.catted HBW.out HOW.out g8); have HW8 := Lib.hid o8; clear o8 g8))
          go_ret2
          exact RjPost.of HF.out HW8.out ⟨true, count, body, HC8.out, .inr ⟨_, rfl, rfl, rfl, rfl, HCT.out⟩⟩ HO8.out
        · replace HF := Lib.hid HF
          go_enter Tryd.func11, Tryd.ntmps11
          go_wp2_with (first | (refine wp_ldQ (b := X) (off := 0) HPA.out.r rfl _ rfl rfl ?_) | (go_at_call 25; refine HCK.out.mono ?_; rintro _ w1 ⟨rfl, k1⟩; have HP1 := Lib.hid (HPA.out.keeps k1); have HJ1 := Lib.hid (HJA.out.keeps k1); have HO1 := Lib.hid (HOA.out.trans (Only.below k1)); clear k1))
          have p0 := HP1.out.cell 0 rfl
          have j0 := HJ1.out.cell 0 rfl
          go_quiet (fail)
          obtain ⟨w2, hw2⟩ : ∃ w, w1.drewN nq = w := ⟨_, rfl⟩
          have e2 : Eqv w1 w2 := by rw [← hw2]; exact Eqv.drewN _ _
          rw [hw2]
          have HP2 := Lib.hid (HP1.out.eqv e2)
          have HJ2 := Lib.hid (HJ1.out.eqv e2)
          have HO2 := Lib.hid (HO1.out.trans (Only.eqv e2))
          clear hw2 e2
          clear p0 j0
          have p2 := HP2.out.cell 2 rfl
          have p4 := HP2.out.cell 4 rfl
          have j3 := HJ2.out.cell 3 rfl
          have j4 := HJ2.out.cell 4 rfl
          have j5 := HJ2.out.cell 5 rfl
          go_wp2
          go_quiet (fail)
          obtain ⟨w3, hw3⟩ : ∃ w, w2.drewN nq = w := ⟨_, rfl⟩
          have e3 : Eqv w2 w3 := by rw [← hw3]; exact Eqv.drewN _ _
          rw [hw3]
          have HP3 := Lib.hid (HP2.out.eqv e3)
          have HJ3 := Lib.hid (HJ2.out.eqv e3)
          have HO3 := Lib.hid (HO2.out.trans (Only.eqv e3))
          clear hw3 e3
          clear p2 p4 j3 j4 j5
          have p3 := HP3.out.cell 3 rfl
          have j3 := HJ3.out.cell 3 rfl
          have j4 := HJ3.out.cell 4 rfl
          have p2 := HP3.out.cell 2 rfl
          go_wp2
          go_quiet (fail)
          obtain ⟨w4, hw4⟩ : ∃ w, w3.drewN nq = w := ⟨_, rfl⟩
          have e4 : Eqv w3 w4 := by rw [← hw4]; exact Eqv.drewN _ _
          rw [hw4]
          have HP4 := Lib.hid (HP3.out.eqv e4)
          have HJ4 := Lib.hid (HJ3.out.eqv e4)
          have HO4 := Lib.hid (HO3.out.trans (Only.eqv e4))
          clear hw4 e4
          clear p3 j3 j4 p2
          have j1 := HJ4.out.cell 1 rfl
          have f1 := HJ4.out.fz 1 (by show 1 < 7; decide)
          have j2 := HJ4.out.cell 2 rfl
          have f2 := HJ4.out.fz 2 (by show 2 < 7; decide)
          have j3 := HJ4.out.cell 3 rfl
          have f3 := HJ4.out.fz 3 (by show 3 < 7; decide)
          have j4 := HJ4.out.cell 4 rfl
          have f4 := HJ4.out.fz 4 (by show 4 < 7; decide)
          have j5 := HJ4.out.cell 5 rfl
          have f5 := HJ4.out.fz 5 (by show 5 < 7; decide)
          have j6 := HJ4.out.cell 6 rfl
          have f6 := HJ4.out.fz 6 (by show 6 < 7; decide)
          have p1 := HP4.out.cell 1 rfl
          have p2 := HP4.out.cell 2 rfl
          have p4 := HP4.out.cell 4 rfl
          have HCH := Lib.hid (show CsAt b (rjC pid' (st hold) true true count body lost) _ from ((HJ4.out.set 3 (by show 3 < 7; decide) (.bool true)).set 4 (by show 4 < 7; decide) (.int .i64 count)).set 5 (by show 5 < 7; decide) (.string body))
          go_wp2_with (first | (go_at_call 27; (with_reducible refine (HTK.out _ (HCH.out)).mono ?_); rintro _ w6 ⟨v6, rfl, o6, c6, k6⟩; have HO6 := Lib.hid (show Only b w w6 from (((HO4.out.trans (Only.setCell _ ⟨b, 3, none⟩ _)).trans (Only.setCell _ ⟨b, 4, none⟩ _)).trans (Only.setCell _ ⟨b, 5, none⟩ _)).trans k6); have HW6 := Lib.hid (o6.lower ((((HO4.out.trans (Only.setCell _ ⟨b, 3, none⟩ _)).trans (Only.setCell _ ⟨b, 4, none⟩ _)).trans (Only.setCell _ ⟨b, 5, none⟩ _)).size)); have HNB := Lib.hid (show v6.ownBlock ≠ some b from fun e => by have h1 := HW6.out.block _ e; have h2 := HBW.out; omega); have HC6 := Lib.hid c6; have HCH2 := Lib.hid (show CsAt b (rjC pid' ⟨#[]⟩ true true count body lost) _ from (c6.set 1 (by show 1 < 7; decide) (.string ⟨#[]⟩)).set 2 (by show 2 < 7; decide) (.bool true)); have hn1 := HC6.out.cell 1 rfl; have hn2 := HC6.out.cell 2 rfl; have fn1 := HC6.out.fz 1 (by show 1 < 7; decide); have fn2 := HC6.out.fz 2 (by show 2 < 7; decide); clear o6 c6 k6) | (go_at_call 27; (with_reducible refine (HT2.out _ (HCH2.out)).mono ?_); rintro _ w7 ⟨v7, rfl, o7, c7, k7⟩; have HO7 := Lib.hid (show Only b w w7 from ((HO6.out.trans (Only.setCell _ ⟨b, 1, none⟩ _)).trans (Only.setCell _ ⟨b, 2, none⟩ _)).trans k7); have HOW := Lib.hid (((HW6.out.only (show Only b _ _ from Only.setCell _ ⟨b, 1, none⟩ _) HNB.out).only (show Only b _ _ from Only.setCell _ ⟨b, 2, none⟩ _) HNB.out).only k7 HNB.out); have hb7 : w.heap.size ≤ w7.heap.size := HO7.out.size; obtain ⟨a7, cap7, rfl, is7, _⟩ := o7.is; have HI7 := Lib.hid is7; have HC7 := Lib.hid c7; have hal7 := HAL.out; clear is7 o7 c7 k7) | (at_builtin; refine wp_catT rfl _ _ rfl HOW.out rfl rfl HI7.out hal7 hb7 ?_; intro v8 w8 o8 g8; have HO8 := Lib.hid (HO7.out.catted (Nat.le_refl _) HOW.out g8); have HC8 := Lib.hid (HC7.out.catted HBW.out HOW.out g8); have HW8 := Lib.hid o8; clear o8 g8))
          go_ret2
          exact RjPost.of HF.out HW8.out ⟨true, count, body, HC8.out, .inr ⟨_, rfl, rfl, rfl, rfl, HCT.out⟩⟩ HO8.out
        · replace HF := Lib.hid HF
          go_enter Tryd.func11, Tryd.ntmps11
          go_wp2_with (first | (refine wp_ldQ (b := X) (off := 0) HPA.out.r rfl _ rfl rfl ?_) | (go_at_call 25; refine HCK.out.mono ?_; rintro _ w1 ⟨rfl, k1⟩; have HP1 := Lib.hid (HPA.out.keeps k1); have HJ1 := Lib.hid (HJA.out.keeps k1); have HO1 := Lib.hid (HOA.out.trans (Only.below k1)); clear k1))
          have p0 := HP1.out.cell 0 rfl
          have j0 := HJ1.out.cell 0 rfl
          go_quiet (fail)
          obtain ⟨w2, hw2⟩ : ∃ w, w1.drewN nq = w := ⟨_, rfl⟩
          have e2 : Eqv w1 w2 := by rw [← hw2]; exact Eqv.drewN _ _
          rw [hw2]
          have HP2 := Lib.hid (HP1.out.eqv e2)
          have HJ2 := Lib.hid (HJ1.out.eqv e2)
          have HO2 := Lib.hid (HO1.out.trans (Only.eqv e2))
          clear hw2 e2
          clear p0 j0
          have p2 := HP2.out.cell 2 rfl
          have p4 := HP2.out.cell 4 rfl
          have j3 := HJ2.out.cell 3 rfl
          have j4 := HJ2.out.cell 4 rfl
          have j5 := HJ2.out.cell 5 rfl
          go_wp2
          go_quiet (fail)
          obtain ⟨w3, hw3⟩ : ∃ w, w2.drewN nq = w := ⟨_, rfl⟩
          have e3 : Eqv w2 w3 := by rw [← hw3]; exact Eqv.drewN _ _
          rw [hw3]
          have HP3 := Lib.hid (HP2.out.eqv e3)
          have HJ3 := Lib.hid (HJ2.out.eqv e3)
          have HO3 := Lib.hid (HO2.out.trans (Only.eqv e3))
          clear hw3 e3
          clear p2 p4 j3 j4 j5
          have p3 := HP3.out.cell 3 rfl
          have j3 := HJ3.out.cell 3 rfl
          have j4 := HJ3.out.cell 4 rfl
          have p2 := HP3.out.cell 2 rfl
          go_wp2
          go_quiet (fail)
          obtain ⟨w4, hw4⟩ : ∃ w, w3.drewN nq = w := ⟨_, rfl⟩
          have e4 : Eqv w3 w4 := by rw [← hw4]; exact Eqv.drewN _ _
          rw [hw4]
          have HP4 := Lib.hid (HP3.out.eqv e4)
          have HJ4 := Lib.hid (HJ3.out.eqv e4)
          have HO4 := Lib.hid (HO3.out.trans (Only.eqv e4))
          clear hw4 e4
          clear p3 j3 j4 p2
          have j1 := HJ4.out.cell 1 rfl
          have f1 := HJ4.out.fz 1 (by show 1 < 7; decide)
          have j2 := HJ4.out.cell 2 rfl
          have f2 := HJ4.out.fz 2 (by show 2 < 7; decide)
          have j3 := HJ4.out.cell 3 rfl
          have f3 := HJ4.out.fz 3 (by show 3 < 7; decide)
          have j4 := HJ4.out.cell 4 rfl
          have f4 := HJ4.out.fz 4 (by show 4 < 7; decide)
          have j5 := HJ4.out.cell 5 rfl
          have f5 := HJ4.out.fz 5 (by show 5 < 7; decide)
          have j6 := HJ4.out.cell 6 rfl
          have f6 := HJ4.out.fz 6 (by show 6 < 7; decide)
          have p1 := HP4.out.cell 1 rfl
          have p2 := HP4.out.cell 2 rfl
          have p4 := HP4.out.cell 4 rfl
          have HCH := Lib.hid (show CsAt b (rjC pid' (st hold) true true count body lost) _ from ((HJ4.out.set 3 (by show 3 < 7; decide) (.bool true)).set 4 (by show 4 < 7; decide) (.int .i64 count)).set 5 (by show 5 < 7; decide) (.string body))
          go_wp2_with (first | (go_at_call 27; (with_reducible refine (HTK.out _ (HCH.out)).mono ?_); rintro _ w6 ⟨v6, rfl, o6, c6, k6⟩; have HO6 := Lib.hid (show Only b w w6 from (((HO4.out.trans (Only.setCell _ ⟨b, 3, none⟩ _)).trans (Only.setCell _ ⟨b, 4, none⟩ _)).trans (Only.setCell _ ⟨b, 5, none⟩ _)).trans k6); have HW6 := Lib.hid (o6.lower ((((HO4.out.trans (Only.setCell _ ⟨b, 3, none⟩ _)).trans (Only.setCell _ ⟨b, 4, none⟩ _)).trans (Only.setCell _ ⟨b, 5, none⟩ _)).size)); have HNB := Lib.hid (show v6.ownBlock ≠ some b from fun e => by have h1 := HW6.out.block _ e; have h2 := HBW.out; omega); have HC6 := Lib.hid c6; have HCH2 := Lib.hid (show CsAt b (rjC pid' ⟨#[]⟩ true true count body lost) _ from (c6.set 1 (by show 1 < 7; decide) (.string ⟨#[]⟩)).set 2 (by show 2 < 7; decide) (.bool true)); have hn1 := HC6.out.cell 1 rfl; have hn2 := HC6.out.cell 2 rfl; have fn1 := HC6.out.fz 1 (by show 1 < 7; decide); have fn2 := HC6.out.fz 2 (by show 2 < 7; decide); clear o6 c6 k6) | (go_at_call 27; (with_reducible refine (HT2.out _ (HCH2.out)).mono ?_); rintro _ w7 ⟨v7, rfl, o7, c7, k7⟩; have HO7 := Lib.hid (show Only b w w7 from ((HO6.out.trans (Only.setCell _ ⟨b, 1, none⟩ _)).trans (Only.setCell _ ⟨b, 2, none⟩ _)).trans k7); have HOW := Lib.hid (((HW6.out.only (show Only b _ _ from Only.setCell _ ⟨b, 1, none⟩ _) HNB.out).only (show Only b _ _ from Only.setCell _ ⟨b, 2, none⟩ _) HNB.out).only k7 HNB.out); have hb7 : w.heap.size ≤ w7.heap.size := HO7.out.size; obtain ⟨a7, cap7, rfl, is7, _⟩ := o7.is; have HI7 := Lib.hid is7; have HC7 := Lib.hid c7; have hal7 := HAL.out; clear is7 o7 c7 k7) | (at_builtin; refine wp_catT rfl _ _ rfl HOW.out rfl rfl HI7.out hal7 hb7 ?_; intro v8 w8 o8 g8; have HO8 := Lib.hid (HO7.out.catted (Nat.le_refl _) HOW.out g8); have HC8 := Lib.hid (HC7.out.catted HBW.out HOW.out g8); have HW8 := Lib.hid o8; clear o8 g8))
          go_ret2
          exact RjPost.of HF.out HW8.out ⟨true, count, body, HC8.out, .inr ⟨_, rfl, rfl, rfl, rfl, HCT.out⟩⟩ HO8.out

/-- What Feed answers, and what the joiner is behind it. -/
theorem rjfeed_any {b : Nat} {pid : Int} {J : JS} {w : World} (H : RjAt b pid J w) (p : Pkt) (hz : J.hold.length ≤ 5000) (hp : p.body.size ≤ 1000) (hlo : 0 ≤ J.lost ∧ J.lost ≤ 1000000) :
    Calls Tryd.prog 11 #[.pointer (some ⟨b, 0, none⟩), pkV p] w (RjPost w b pid (feed pid J p)) := by
  by_cases hc : ckP p = 0
  · by_cases hk : p.pid = pid
    · by_cases hb : p.body.size = 0
      · exact rjfeed_none H p hz hp hlo hc hk hb
      · by_cases ha : again J p = true
        · exact rjfeed_again H p hz hp hlo hc hk hb ha
        · have ha' : again J p = false := by simpa using ha
          have hcn := (ckP_good hc).1.2
          by_cases hbad : p.bad = true
          · cases hl : J.last with
            | none => exact rjfeed_bad_n H p hz hp hlo hc hk hb ha' hbad hl
            | some q =>
              obtain ⟨c0, b0⟩ := q
              by_cases hd : p.count = c0
              · exact rjfeed_bad_s H p hz hp hlo hc hk hb ha' hbad c0 b0 hl ⟨hd, fun e => by unfold again at ha'; rw [hl] at ha'; exact absurd ⟨hd, e⟩ (of_decide_eq_false ha')⟩
              · exact rjfeed_bad_o H p hz hp hlo hc hk hb ha' hbad c0 b0 hl hd
          · have hbad' : p.bad = false := by simpa using hbad
            cases hl : J.last with
            | none => exact rjfeed_n H p hz hp hlo hc hk hb ha' hbad' hcn hl
            | some q =>
              obtain ⟨c0, b0⟩ := q
              by_cases hd : p.count = c0
              · exact rjfeed_s H p hz hp hlo hc hk hb ha' hbad' hcn c0 b0 hl ⟨hd, fun e => by unfold again at ha'; rw [hl] at ha'; exact absurd ⟨hd, e⟩ (of_decide_eq_false ha')⟩
              · by_cases hg : p.count = (c0 + 1) % 16
                · exact rjfeed_on H p hz hp hlo hc hk hb ha' hbad' hcn c0 b0 hl hd hg
                · exact rjfeed_og H p hz hp hlo hc hk hb ha' hbad' hcn c0 b0 hl hd hg
    · exact rjfeed_kind H p hz hp hlo hc hk
  · exact rjfeed_ck H p hz hp hlo hc
end Go.Proofs.YtifbomppgflkfaaDoor
