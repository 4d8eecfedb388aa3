/-
  What next of a cut of package packer answers: the share of the next packet. Blocks other than the cut's own stay.
-/
import Derived.Test.YtaabfkffemnidaaDoorPrB
namespace Go.Proofs.YtaabfkffemnidaaDoor
open Go.RowKit Gf Pk Pr
set_option maxRecDepth 100000
abbrev shC (p : Bool) (x y z : Nat) : List Value := [.bool p, .int .i64 (x : Int), .int .i64 (y : Int), .int .i64 (z : Int)]
abbrev shV (p : Bool) (x y z : Nat) : Value := .agg #[.bool p, .int .i64 (x : Int), .int .i64 (y : Int), .int .i64 (z : Int)]
theorem shC_one (p : Bool) (x y z : Nat) : ∀ u ∈ shC p x y z, u.oneCell' = true := by
  intro u hu
  simp only [shC, List.mem_cons, List.not_mem_nil, or_false] at hu
  rcases hu with rfl | rfl | rfl | rfl <;> rfl
theorem lvSh {w : World} {b : Nat} {p : Bool} {x y z : Nat} (h : w.rangeAt b 0 (shC p x y z)) : (loadVar 56 ⟨b, 0, none⟩).run Tryd.prog w = .ok (shV p x y z) w := run_loadVar_mid (P := Tryd.prog) w b 0 _ (shC p x y z) _ h Tryd.underlying56 rfl (by kernel_rfl)
theorem ldSh {w : World} {b o : Nat} {p : Bool} {x y z : Nat} (h : w.rangeAt b o (shC p x y z)) : (Instr.loadAt 56 (.pointer (some ⟨b, o, none⟩))).run Tryd.prog w = .ok (shV p x y z) w := run_loadAt_mid (P := Tryd.prog) w b o _ (shC p x y z) _ h Tryd.underlying56 rfl (by kernel_rfl)
theorem wp_ldSh {ops : Array Oper} {rest : List Oper} {o : Oper} {a : Act} {w : World} {Q : Exit → Act → World → Prop} {b off : Nat} {p : Bool} {x y z : Nat} (h : w.rangeAt b off (shC p x y z)) (hgd : o.guard = none) (u : Operand) (ho : o.op = .load 56 u)
    (hx : a.eval u = .pointer (some ⟨b, off, none⟩)) (k : wpList Tryd.prog ops Q rest (a.put o.dst (shV p x y z)) w) : wpList Tryd.prog ops Q (o :: rest) a w :=
  wpList_load_mid hgd _ u ho b off hx (shC p x y z) _ h Tryd.underlying56 rfl (by kernel_rfl) k
theorem wp_stSh {ops : Array Oper} {rest : List Oper} {o : Oper} {a : Act} {w : World} {Q : Exit → Act → World → Prop} {b off : Nat} (p : Bool) (x y z : Nat) (h : w.there b off 4) (hgd : o.guard = none) (u v : Operand) (ho : o.op = .store 56 u v)
    (hx : a.eval u = .pointer (some ⟨b, off, none⟩)) (hy : a.eval v = shV p x y z) (k : wpList Tryd.prog ops Q rest (a.put o.dst undef) (w.setCells b off (shC p x y z))) : wpList Tryd.prog ops Q (o :: rest) a w :=
  wpList_store_mid hgd _ u v ho b off (shC p x y z).toArray hx hy h (by kernel_rfl) (all_oneCell_toArray (shC_one p x y z)) k
def NxPost (w : World) (b : Nat) (s : Bool × Nat × Nat × Nat) (q : Nat × List Nat) (e : Ending) (w' : World) : Prop := e = .returned (shV s.1 s.2.1 s.2.2.1 s.2.2.2) ∧ ∃ a cap, CutAt b q.1 q.2 a cap w' ∧ Foot (fun k => k = b) w w'
/-- The end of 'next': the share is written into the result. -/
theorem NxPost.of {w w3 : World} {b b0 : Nat} {S s : Bool × Nat × Nat × Nat} {Q q : Nat × List Nat} {x y z : Nat} {p : Bool} {a : Option Addr} {cap : Nat} (hS : S = s) (hQ : Q = q) (hs : s = (p, x, y, z)) (hc : CutAt b q.1 q.2 a cap w3) (hb : b < b0) (hw : w.heap.size = b0) (hf : Foot (fun k => k = b) w w3) :
    NxPost w b S Q (.returned (shV p x y z)) (w3.setCells b0 0 (shC p x y z)) := by
  subst hS hQ hs
  have fo := (only_setCells b0 (shC p x y z) 0 w3)
  exact ⟨rfl, a, cap, hc.foot (S := fun k => k = b0) (fo.foot rfl) (fun i hi e => by omega), hf.trans (S' := fun k => k = b0) (fun k e => .inr (by rw [hw, e]; exact Nat.le_refl _)) (fo.foot rfl)⟩
set_option maxHeartbeats 6400000 in
theorem prnext_any (b r : Nat) {ns : List Nat} {a : Option Addr} {cap : Nat} (w : World) (hr : r ≤ 4096) (hn : ∀ n ∈ ns, 1 ≤ n ∧ n ≤ 4096) (hl : ns.length ≤ 1000) (hc : CutAt b r ns a cap w) :
    Calls Tryd.prog 19 #[.pointer (some ⟨b, 0, none⟩)] w (NxPost w b (shr r ns) (aft r ns)) := by
  obtain ⟨lf, hlf⟩ : ∃ lf, min r 184 = lf := ⟨_, rfl⟩
  obtain ⟨r1, hr1⟩ : ∃ r1, r - lf = r1 := ⟨_, rfl⟩
  have hm : min (r : Int) 184 = (lf : Int) := by omega
  have hs : (r : Int) - (lf : Int) = (r1 : Int) := by omega
  obtain ⟨wA, hA⟩ : ∃ wA, w.alloc (.cells #[.bool false, .int .i64 0, .int .i64 0, .int .i64 0] 56) = wA := ⟨_, rfl⟩
  obtain ⟨b0, hb0⟩ : ∃ b0, w.heap.size = b0 := ⟨_, rfl⟩
  have HZ := Lib.hid (show CsAns w b0 [.bool false, .int .i64 0, .int .i64 0, .int .i64 0] wA from CsAns.start (Keeps.refl w) (a := #[.bool false, .int .i64 0, .int .i64 0, .int .i64 0]) (by simp) hb0 hA)
  have hkA : Keeps w wA := HZ.out.k
  have HC := Lib.hid (hc.keeps hkA)
  have HS := Lib.hid hb0
  have HBO := Lib.hid hc.c.old
  have hzA : wA.heap.size = b0 + 1 := by rw [← hA, World.size_alloc, hb0]
  have q0 := HC.out.c.cell 0 rfl
  have wr1 := wrapI (a := (r1 : Int)) (by omega) (by omega)
  clear hc hkA
  go_enter Tryd.func19, Tryd.ntmps19
  go_wp2
  obtain ⟨wB, hB⟩ : ∃ wB, wA.alloc (.cells #[.bool false, .int .i64 (lf : Int), .int .i64 0, .int .i64 0] 56) = wB := ⟨_, rfl⟩
  have kB : Keeps wA wB := by rw [← hB]; exact (Keeps.refl wA).alloc _
  have HZB := Lib.hid (HZ.out.keeps kB)
  have HCB := Lib.hid (HC.out.keeps kB)
  have HSB := Lib.hid (show CsAt (b0 + 1) (shC false lf 0 0) wB by rw [← hB, ← hzA]; exact CsAt.made wA #[.bool false, .int .i64 (lf : Int), .int .i64 0, .int .i64 0] _ (by simp))
  rw [hB]
  have HBN := Lib.hid (show b < b0 by have := HBO.out; have := HS.out; omega)
  clear q0 hA hB kB hzA
  refine wp_draw (by kernel_rfl)
    [.pointer (some ⟨b, 0, none⟩), .pointer (some ⟨b, 0, none⟩), .pointer (some ⟨b, 0, none⟩), .int .i64 (r : Int), .pointer (some ⟨b0 + 1, 1, none⟩), .int .i64 (lf : Int), .int .i64 (r1 : Int), .pointer (some ⟨b, 0, none⟩), .pointer (some ⟨b, 0, none⟩), undef]
    (Once 9 (Eqv wB) (Eqv (wB.setCell ⟨b, 0, none⟩ (.int .i64 (r1 : Int)))))
    rfl (by kernel_rfl) (fin := ?fin1) ?hfin1 (Once.start (Eqv.drew wB)) ?each1 ?hend1
  case hfin1 => simp [seqA, dstOf, Act.put]; rfl
  case each1 =>
    refine ⟨?_, ?_, ?_, ?_, ?_, ?_, ?_, ?_, ?_, ?_, trivial⟩
    all_goals intro L w5 h0 hd hsh hw
    all_goals unfold Does
    all_goals try simp only [Nat.zero_add, Nat.reduceAdd] at h0
    rotate_left 3
    · have c2 := (Eqv.cell (hw.1 (hsh.no (i := 3) (by kernel_rfl) h0)) _).trans (HCB.out.c.cell 0 rfl)
      go_simp; exact fun L' k => hw.same (by decide) k
    rotate_left 1
    · have c2 := (Eqv.cell (hw.1 (hsh.no (i := 5) (by kernel_rfl) h0)) _).trans (HSB.out.cell 1 rfl)
      go_simp; exact fun L' k => hw.same (by decide) k
    rotate_left 3
    · have hA := hw.1 h0
      have c2 := (HCB.out.c.eqv hA).cell 0 rfl
      have g2 := (HCB.out.c.eqv hA).fz 0 (by show 0 < 2; decide)
      go_simp
      exact fun L' k => Once.done k (hA.setCell _ _)
    all_goals (go_simp; exact fun L' k => hw.same (by decide) k)
  case hend1 =>
  intro L w2 hL hw
  have hC := hw.2 (hL 9 (by simp))
  clear hw hL
  have hbs : b ≠ b0 + 1 := by have := HBN.out; omega
  have hbz : b ≠ b0 := by have := HBN.out; omega
  have ff : Foot (fun k => k = b) wB w2 := (Foot.setCell (S := fun k => k = b) (p := ⟨b, 0, none⟩) rfl).same (Foot.eqv hC)
  have HF2 := Lib.hid (show Foot (fun k => k = b) w w2 from (HZB.out.k.foot (fun k => k = b)).same ff)
  have HZ2 := Lib.hid (HZB.out.z.foot ff (fun e => hbz e.symm))
  have HS2 := Lib.hid (HSB.out.foot ff (fun e => hbs e.symm))
  have HC2 := Lib.hid (show CutAt b r1 ns a cap w2 from ⟨(HCB.out.c.set 0 (by show 0 < 2; decide) (.int .i64 (r1 : Int))).eqv hC, HCB.out.row ff (fun i hi e => by omega), HCB.out.n, HCB.out.d⟩)
  have hrs := HS.out
  clear hC ff HZB HSB HCB HC HZ
  have s1 := HS2.out.cell 1 rfl
  by_cases k1 : 183 ≤ r
  · obtain ⟨e1, e2⟩ := shr_mid (ns := ns) k1
    rw [hlf] at e1 e2
    rw [hr1] at e2
    have HP := Lib.hid (NxPost.of (w := w) (b := b) e1 e2 rfl HC2.out HBN.out HS.out HF2.out)
    have hi : (183 : Int) ≤ (lf : Int) := by omega
    clear e1 e2 k1 hlf hr1 hn
    go_wp2_with (first | (refine wp_ldSh (b := b0 + 1) (off := 0) (p := false) (x := lf) (y := 0) (z := 0) HS2.out.r rfl _ rfl rfl ?_) | (refine wp_stSh (b := b0) (off := 0) false lf 0 0 (HZ2.out.there (by decide)) rfl _ _ rfl rfl rfl ?_))
    exact cs_ret Tryd.results19 (lvSh (HZ2.out.store (shC false lf 0 0) rfl).r) rfl rfl HP.out
  · have hi : ¬ (183 : Int) ≤ (lf : Int) := by omega
    obtain rfl : r = lf := by omega
    obtain rfl : r1 = 0 := by omega
    cases ns with
    | nil =>
      obtain ⟨e1, e2⟩ := shr_end k1
      obtain ⟨f, hf⟩ : ∃ f, 184 - r = f := ⟨_, rfl⟩
      have hfI : (184 : Int) - (r : Int) = (f : Int) := by omega
      have wr2 := wrapI (a := (f : Int)) (by omega) (by omega)
      rw [hf] at e1
      have q1 : w2.cell? ⟨b, 1, none⟩ = some (.slice a 0 cap) := HC2.out.c.cell 1 rfl
      have s3 := HS2.out.cell 3 rfl
      have g3 := HS2.out.fz 3 (by show 3 < 4; decide)
      obtain ⟨w3, h3⟩ : ∃ w3, w2.setCell ⟨b0 + 1, 3, none⟩ (.int .i64 (f : Int)) = w3 := ⟨_, rfl⟩
      have ff : Foot (fun k => k = b0 + 1) w2 w3 := by rw [← h3]; exact Foot.setCell (S := fun k => k = b0 + 1) (p := ⟨b0 + 1, 3, none⟩) rfl
      have HS3 := Lib.hid (show CsAt (b0 + 1) (shC false r 0 f) w3 by rw [← h3]; exact HS2.out.set 3 (by show 3 < 4; decide) (.int .i64 (f : Int)))
      have HZ3 := Lib.hid (HZ2.out.foot ff (fun e => by omega))
      have HC3 := Lib.hid (HC2.out.foot ff (fun i hi e => by have := HBN.out; omega))
      have HP := Lib.hid (NxPost.of (w := w) (b := b) e1 e2 rfl HC3.out HBN.out HS.out (HF2.out.trans (S' := fun k => k = b0 + 1) (fun k e => .inr (by rw [hrs, e]; exact Nat.le_succ _)) ff))
      clear e1 e2 k1 hlf hr1 hn hf ff hbs hbz hrs
      go_wp2_with (first | (refine wp_ldSh (b := b0 + 1) (off := 0) (p := false) (x := r) (y := 0) (z := f) HS3.out.r rfl _ rfl rfl ?_) | (refine wp_stSh (b := b0) (off := 0) false r 0 f (HZ3.out.there (by decide)) rfl _ _ rfl rfl rfl ?_))
      exact cs_ret Tryd.results19 (lvSh (HZ3.out.store (shC false r 0 f) rfl).r) rfl rfl HP.out
    | cons n t =>
      obtain ⟨e1, e2⟩ := shr_start (ns := n :: t) k1 (by simp)
      obtain ⟨f, hf⟩ : ∃ f, 183 - r = f := ⟨_, rfl⟩
      have hfI : (183 : Int) - (r : Int) = (f : Int) := by omega
      have wr2 := wrapI (a := (f : Int)) (by omega) (by omega)
      rw [hf] at e1 e2
      have q1 : w2.cell? ⟨b, 1, none⟩ = some (.slice a (n :: t).length cap) := HC2.out.c.cell 1 rfl
      have hlen : (((n :: t).length : Int) == 0) = false := by rw [beq_eq_false_iff_ne, List.length_cons]; omega
      have s3 := HS2.out.cell 3 rfl
      have g3 := HS2.out.fz 3 (by show 3 < 4; decide)
      have s0 := HS2.out.cell 0 rfl
      have g0 := HS2.out.fz 0 (by show 0 < 4; decide)
      obtain ⟨w3, h3⟩ : ∃ w3, (w2.setCell ⟨b0 + 1, 0, none⟩ (.bool true)).setCell ⟨b0 + 1, 3, none⟩ (.int .i64 (f : Int)) = w3 := ⟨_, rfl⟩
      have ff : Foot (fun k => k = b0 + 1) w2 w3 := by rw [← h3]; exact (Foot.setCell (S := fun k => k = b0 + 1) (p := ⟨b0 + 1, 0, none⟩) rfl).same (Foot.setCell (S := fun k => k = b0 + 1) (p := ⟨b0 + 1, 3, none⟩) rfl)
      have hs3 : CsAt (b0 + 1) [.bool true, .int .i64 (r : Int), .int .i64 0, .int .i64 (f : Int)] w3 := by rw [← h3]; exact (HS2.out.set 0 (by show 0 < 4; decide) (.bool true)).set 3 (by show 3 < 4; decide) (.int .i64 (f : Int))
      have hc3 := HC2.out.foot ff (fun i hi e => by have := HBN.out; omega)
      have HBG := Lib.hid (prbegin_any b (b0 + 1) r f w3 (by omega) hn hl hc3 hs3 (by have := HBN.out; omega))
      unfold BgPost at HBG
      obtain ⟨Y, hY⟩ : ∃ Y, min f (n :: t).sum = Y := ⟨_, rfl⟩
      obtain ⟨Z, hZ⟩ : ∃ Z, f - (n :: t).sum = Z := ⟨_, rfl⟩
      rw [hY, hZ] at HBG e1
      have HZ3 := Lib.hid (HZ2.out.foot ff (fun e => by omega))
      have HF3 := Lib.hid (HF2.out.trans (S' := fun k => k = b0 + 1) (fun k e => .inr (by rw [hrs, e]; exact Nat.le_succ _)) ff)
      have HE1 := Lib.hid e1
      have HE2 := Lib.hid e2
      obtain ⟨m, hm⟩ : ∃ m, (n :: t).length = m := ⟨_, rfl⟩
      rw [hm] at q1 hlen
      have HBZ := Lib.hid hbz
      have HRS := Lib.hid hrs
      clear e1 e2 k1 hlf hr1 hn hf ff hbs hbz hrs hs3 hc3 hm hY hZ
      go_wp2_with (first | (go_at_call 33; refine HBG.out.mono ?_; rintro _ w4 ⟨rfl, a4, cap4, hc4, hs4, hf4⟩; have HC4 := Lib.hid hc4; have HS4 := Lib.hid hs4; have HZ4 := Lib.hid (HZ3.out.foot hf4 (fun e => e.elim (fun e => HBZ.out e.symm) (fun e => by omega))); have HF4 := Lib.hid (HF3.out.trans (S' := BgS b (b0 + 1)) (fun k e => e.elim .inl (fun e => .inr (by rw [HRS.out, e]; exact Nat.le_succ _))) hf4); clear hc4 hs4 hf4) | (refine wp_ldSh (b := b0 + 1) (off := 0) (p := true) (x := r) (y := Y) (z := Z) HS4.out.r rfl _ rfl rfl ?_) | (refine wp_stSh (b := b0) (off := 0) true r Y Z (HZ4.out.there (by decide)) rfl _ _ rfl rfl rfl ?_))
      exact cs_ret Tryd.results19 (lvSh (HZ4.out.store (shC true r Y Z) rfl).r) rfl rfl (NxPost.of HE1.out HE2.out rfl HC4.out HBN.out HS.out HF4.out)
end Go.Proofs.YtaabfkffemnidaaDoor
