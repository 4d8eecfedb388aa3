/-
  What 'does' of layer 13's statements answers: a call of a table and of the document's, which answer alike. The memory that was there stays.
-/
import Derived.Deep.MidRow
import Derived.Test.YtpkidopnkofccaaTbLaw
namespace Go.Proofs.Ytpkidopnkofccaa
open Go.RowKit Gf
set_option maxRecDepth 100000
/-- A table, and the document's, made since w0; a call in block b. -/
structure DoS (w0 : World) (p x b : Nat) (cs : List Value) (T T2 : Tb) (S U : Nat → Prop) (W : World) : Prop where
  f : PtAt S p T W
  r : RtAt U x T2 W
  d : ∀ k, S k → ¬ U k
  k : Keeps w0 W
  n : ∀ k, S k → w0.heap.size ≤ k
  m : ∀ k, U k → w0.heap.size ≤ k
  c : CsAt b cs W
  nb : ¬ S b ∧ ¬ U b
section
variable {w0 : World} {p x b : Nat} {cs : List Value} {T T2 T' : Tb} {S U : Nat → Prop} {W W' : World}
theorem DoS.keeps (h : DoS w0 p x b cs T T2 S U W) (k : Keeps W W') : DoS w0 p x b cs T T2 S U W' := ⟨h.f.keeps k, h.r.keeps k, h.d, h.k.trans k, h.n, h.m, h.c.keeps k, h.nb⟩
theorem DoS.left (h : DoS w0 p x b cs T T2 S U W) (hf : PtAt S p T' W') (k : Foot S W W') : DoS w0 p x b cs T' T2 S U W' := ⟨hf, h.r.foot k fun b hb hs => h.d b hs hb, h.d, k.keeps h.k h.n, h.n, h.m, h.c.foot k h.nb.1, h.nb⟩
theorem DoS.right (h : DoS w0 p x b cs T T2 S U W) (hr : RtAt U x T' W') (k : Foot U W W') : DoS w0 p x b cs T T' S U W' := ⟨h.f.foot k h.d, hr, h.d, k.keeps h.k h.m, h.n, h.m, h.c.foot k h.nb.2, h.nb⟩
end
/-- A table, and the document's, made since w0. -/
structure PairT (w0 : World) (p x : Nat) (T : Tb) (S U : Nat → Prop) (W : World) : Prop where
  f : PtAt S p T W
  r : RtAt U x T W
  d : ∀ k, S k → ¬ U k
  k : Keeps w0 W
  n : ∀ k, S k → w0.heap.size ≤ k
  m : ∀ k, U k → w0.heap.size ≤ k
theorem PairT.keeps {w0 : World} {p x : Nat} {T : Tb} {S U : Nat → Prop} {W W' : World} (h : PairT w0 p x T S U W) (k : Keeps W W') : PairT w0 p x T S U W' := ⟨h.f.keeps k, h.r.keeps k, h.d, h.k.trans k, h.n, h.m⟩
theorem DoS.pair {w0 : World} {p x b : Nat} {cs : List Value} {T : Tb} {S U : Nat → Prop} {W : World} (h : DoS w0 p x b cs T T S U W) : PairT w0 p x T S U W := ⟨h.f, h.r, h.d, h.k, h.n, h.m⟩
def DoesPost (w0 : World) (p x : Nat) (R : Nat) (S : Nat → Prop) (e : Ending) (W : World) : Prop := e = .returned (.bool true) ∧ ∃ T U, T.R = R ∧ PairT w0 p x T S U W
abbrev rtV (R bb bi bs : Nat) : Value := .agg #[.int .i64 (R : Int), sl0 bb (255 * R), sl0 bi (255 * R), sl0 bs (191 * R)]
theorem rtC_one (R bb bi bs : Nat) : ∀ u ∈ rtC R bb bi bs, u.oneCell' = true := by
  intro u hu
  simp only [rtC, List.mem_cons, List.not_mem_nil, or_false] at hu
  rcases hu with rfl | rfl | rfl | rfl <;> rfl
theorem wp_ldRt {ops : Array Oper} {rest : List Oper} {o : Oper} {a : Act} {w : World} {Q : Exit → Act → World → Prop} {b R bb bi bs : Nat} (h : w.rangeAt b 0 (rtC R bb bi bs)) (hgd : o.guard = none) (x : Operand) (ho : o.op = .load 43 x)
    (hx : a.eval x = .pointer (some ⟨b, 0, none⟩)) (k : wpList Try.prog ops Q rest (a.put o.dst (rtV R bb bi bs)) w) : wpList Try.prog ops Q (o :: rest) a w :=
  wpList_load_mid hgd _ x ho b 0 hx (rtC R bb bi bs) _ h Try.underlying43 rfl (by kernel_rfl) k
theorem wp_stRt {ops : Array Oper} {rest : List Oper} {o : Oper} {a : Act} {w : World} {Q : Exit → Act → World → Prop} {b : Nat} (R bb bi bs : Nat) (h : w.there b 0 4) (hgd : o.guard = none) (x y : Operand) (ho : o.op = .store 43 x y)
    (hx : a.eval x = .pointer (some ⟨b, 0, none⟩)) (hy : a.eval y = rtV R bb bi bs) (k : wpList Try.prog ops Q rest (a.put o.dst undef) (w.setCells b 0 (rtC R bb bi bs))) : wpList Try.prog ops Q (o :: rest) a w :=
  wpList_store_mid hgd _ x y ho b 0 (rtC R bb bi bs).toArray hx hy h (by kernel_rfl) (all_oneCell_toArray (rtC_one R bb bi bs)) k
/-- The document's table is made anew in its place. -/
theorem RtIn.moved {U V : Nat → Prop} {x x2 bb bi bs : Nat} {T T2 : Tb} {W W2 : World} (h0 : RtAt U x T W) (hk : Keeps W W2) (hx : U x) (h : RtIn V x2 bb bi bs T2 W2) (hn : W.heap.size ≤ bb ∧ W.heap.size ≤ bi ∧ W.heap.size ≤ bs) :
    RtIn (fun k => k = x ∨ k = bb ∨ k = bi ∨ k = bs) x bb bi bs T2 (W2.setCells x 0 (rtC T2.R bb bi bs)) := by
  have hxo := h0.old x hx
  have hxs : x < W2.heap.size := Nat.lt_of_lt_of_le hxo (Below.size hk)
  have ho := only_setCells x (rtC T2.R bb bi bs) 0 W2
  obtain ⟨b1, i1, s1, h0⟩ := h0
  have hc0 := (h0.c.keeps hk).store (rtC T2.R bb bi bs) rfl
  have hb : x ≠ bb := by omega
  have hi : x ≠ bi := by omega
  have hs : x ≠ bs := by omega
  refine ⟨h.ok, hc0, h.b.block (ho.block bb h.b.old (Ne.symm hb)) ho.size, h.i.block (ho.block bi h.i.old (Ne.symm hi)) ho.size, h.s.block (ho.block bs h.s.old (Ne.symm hs)) ho.size, ⟨.inl rfl, .inr (.inl rfl), .inr (.inr (.inl rfl)), .inr (.inr (.inr rfl))⟩, ⟨⟨hb, hi, hs⟩, h.d.2⟩, ?_⟩
  rintro k (rfl | rfl | rfl | rfl)
  · exact Nat.lt_of_lt_of_le hxs ho.size
  · exact Nat.lt_of_lt_of_le h.b.old ho.size
  · exact Nat.lt_of_lt_of_le h.i.old ho.size
  · exact Nat.lt_of_lt_of_le h.s.old ho.size
/-- What 'does' finds. -/
structure DoStart (w0 : World) (p x b : Nat) (o : Opt) (T : Tb) (S U : Nat → Prop) (w wA : World) : Prop where
  s : DoS w0 p x b (optC o) T T S U wA
  z : w.heap.size = b
  a : w.alloc (.cells #[.int .i64 o.ask, .int .i64 o.a, .int .i64 o.n, .int .u8 (o.b.toNat : Int), .string o.t] 35) = wA
theorem DoStart.of {w0 : World} {p x : Nat} {T : Tb} {S U : Nat → Prop} {w : World} (h : PairT w0 p x T S U w) (o : Opt) : ∃ b wA, DoStart w0 p x b o T S U w wA := by
  refine ⟨w.heap.size, _, ⟨?_, rfl, rfl⟩⟩
  have h1 := h.keeps ((Keeps.refl w).alloc (.cells #[.int .i64 o.ask, .int .i64 o.a, .int .i64 o.n, .int .u8 (o.b.toNat : Int), .string o.t] 35))
  refine ⟨h1.f, h1.r, h1.d, h1.k, h1.n, h1.m, CsAt.made w #[.int .i64 o.ask, .int .i64 o.a, .int .i64 o.n, .int .u8 (o.b.toNat : Int), .string o.t] _ (by simp), fun hs => ?_, fun hu => ?_⟩
  · exact Nat.lt_irrefl _ (h.f.old _ hs)
  · exact Nat.lt_irrefl _ (h.r.old _ hu)
theorem PtAt.hasBlock {S : Nat → Prop} {x : Nat} {T : Tb} {W : World} (h : PtAt S x T W) : S x := by obtain ⟨_, h⟩ := h; exact h.m.1
theorem RtAt.hasBlock {S : Nat → Prop} {x : Nat} {T : Tb} {W : World} (h : RtAt S x T W) : S x := by obtain ⟨_, _, _, h⟩ := h; exact h.m.1
set_option maxHeartbeats 3200000 in
theorem does0 {w0 : World} {p x : Nat} {T : Tb} {S U : Nat → Prop} {w : World} (h : PairT w0 p x T S U w) (ga gn : Int) (gb : UInt8) (gt : ByteArray) (ho : okO ⟨0, ga, gn, gb, gt⟩) :
    Calls Try.prog 10 #[.pointer (some ⟨p, 0, none⟩), .pointer (some ⟨x, 0, none⟩), .agg #[.int .i64 0, .int .i64 ga, .int .i64 gn, .int .u8 (gb.toNat : Int), .string gt]] w (DoesPost w0 p x T.R S) := by
  obtain ⟨b, wA, h0⟩ := DoStart.of h ⟨0, ga, gn, gb, gt⟩
  have hb := h0.z
  have hA := h0.a
  have H0 := Lib.hid h0.s
  have HBY := Lib.hid (fun W => tbbytes_any ⟨0, ga, gn, gb, gt⟩ W)
  have hDl := optB_le ho
  obtain ⟨D, hD⟩ : ∃ D, optB ⟨0, ga, gn, gb, gt⟩ = D := ⟨_, rfl⟩
  rw [hD] at HBY hDl
  simp only [optV] at HBY hA
  have d0 : wA.cell? ⟨b, 0, none⟩ = some (.int .i64 0) := H0.out.c.cell 0 rfl
  have d1 : wA.cell? ⟨b, 1, none⟩ = some (.int .i64 ga) := H0.out.c.cell 1 rfl
  have d2 : wA.cell? ⟨b, 2, none⟩ = some (.int .i64 gn) := H0.out.c.cell 2 rfl
  have d3 : wA.cell? ⟨b, 3, none⟩ = some (.int .u8 (gb.toNat : Int)) := H0.out.c.cell 3 rfl
  have d4 : wA.cell? ⟨b, 4, none⟩ = some (.string gt) := H0.out.c.cell 4 rfl
  clear h h0 hD
  by_cases hin : 0 ≤ ga ∧ ga + (D.size : Int) ≤ 191 * (T.R : Int)
  · obtain ⟨a, rfl⟩ : ∃ a : Nat, ga = (a : Int) := ⟨ga.toNat, by omega⟩
    have ha : a + D.size ≤ 191 * T.R := by omega
    have HRP := Lib.hid (fun W (k : RtAt U x T W) => rtput_ok k a D ha)
    have HTP := Lib.hid (fun W (k : PtAt S p T W) => tbput_ok k a D ha)
    clear hin ha
    go_enter Try.func10, Try.ntmps10
    go_wp2_with (first | (go_at_call 18; refine (HBY.out _).mono ?_; rintro _ w1 ⟨rfl, k1⟩; have H1 := Lib.hid (H0.out.keeps k1); have e1 : w1.cell? ⟨b, 1, none⟩ = some (.int .i64 (a : Int)) := H1.out.c.cell 1 rfl; clear k1) | (go_at_call 25; refine (HRP.out _ H1.out.r).mono ?_; rintro _ w2 ⟨rfl, r2, f2⟩; have H2 := Lib.hid (H1.out.right r2 f2); have e2 : w2.cell? ⟨b, 1, none⟩ = some (.int .i64 (a : Int)) := H2.out.c.cell 1 rfl; clear r2 f2) | (go_at_call 17; refine (HTP.out _ H2.out.f).mono ?_; rintro _ w3 ⟨rfl, r3, f3⟩; have H3 := Lib.hid (H2.out.left r3 f3); clear r3 f3))
    go_ret
    exact ⟨rfl, putT T a (ls D), U, rfl, H3.out.pair⟩
  · have HRP := Lib.hid (fun W (k : RtAt U x T W) => rtput_no k ga D hin)
    have HTP := Lib.hid (fun W (k : PtAt S p T W) => tbput_no k ga D (by unfold maxLen; omega) hin)
    clear hin
    go_enter Try.func10, Try.ntmps10
    go_wp2_with (first | (go_at_call 18; refine (HBY.out _).mono ?_; rintro _ w1 ⟨rfl, k1⟩; have H1 := Lib.hid (H0.out.keeps k1); have e1 : w1.cell? ⟨b, 1, none⟩ = some (.int .i64 ga) := H1.out.c.cell 1 rfl; clear k1) | (go_at_call 25; refine (HRP.out _ H1.out.r).mono ?_; rintro _ w2 ⟨rfl, rfl⟩) | (go_at_call 17; refine (HTP.out _ H1.out.f).mono ?_; rintro _ w3 ⟨rfl, rfl⟩))
    go_ret
    exact ⟨rfl, T, U, rfl, H1.out.pair⟩
set_option maxHeartbeats 3200000 in
theorem does1 {w0 : World} {p x : Nat} {T : Tb} {S U : Nat → Prop} {w : World} (h : PairT w0 p x T S U w) (ga gn : Int) (gb : UInt8) (gt : ByteArray) (ho : okO ⟨1, ga, gn, gb, gt⟩) :
    Calls Try.prog 10 #[.pointer (some ⟨p, 0, none⟩), .pointer (some ⟨x, 0, none⟩), .agg #[.int .i64 1, .int .i64 ga, .int .i64 gn, .int .u8 (gb.toNat : Int), .string gt]] w (DoesPost w0 p x T.R S) := by
  obtain ⟨hr1, hr2⟩ := h.f.ok.bd
  obtain ⟨b, wA, h0⟩ := DoStart.of h ⟨1, ga, gn, gb, gt⟩
  have hb := h0.z
  have hA := h0.a
  have H0 := Lib.hid h0.s
  have hn1 : gn ≤ 5000 := ho.2.1
  have hn2 : -5000 ≤ gn := ho.2.2
  have HCO := Lib.hid (fun W => tbcolumn_any ((T.R : Int) + gn) gb W (by omega))
  have hCl : (st (colT ((T.R : Int) + gn).toNat gb)).size = ((T.R : Int) + gn).toNat := by rw [st_size, colT_length]
  obtain ⟨C, hC⟩ : ∃ C, st (colT ((T.R : Int) + gn).toNat gb) = C := ⟨_, rfl⟩
  rw [hC] at HCO hCl
  simp only at hA
  have d0 : wA.cell? ⟨b, 0, none⟩ = some (.int .i64 1) := H0.out.c.cell 0 rfl
  have HX := Lib.hid (fun (W : World) (k : Keeps wA W) => show W.cell? ⟨x, 0, none⟩ = some (.int .i64 (T.R : Int)) by
    obtain ⟨_, _, _, hr⟩ := H0.out.r.keeps k; exact hr.c.cell 0 rfl)
  have HD := Lib.hid (fun (W : World) (k : Keeps wA W) => H0.out.c.keeps k)
  have wr1 := wrapI (a := (T.R : Int) + gn) (by omega) (by omega)
  have HTR := Lib.hid (fun W (hn : ¬ (0 ≤ ga ∧ ga < 64)) => tbpar_range (x := p) hn C W)
  have HTF := Lib.hid (fun W (k : PtAt S p T W) (h1 : 0 ≤ ga) (h2 : ga < 64) (h3 : ¬ C.size = T.R) => tbpar_form k h1 h2 C h3)
  have HTO := Lib.hid (fun W (k : PtAt S p T W) (n : Nat) (hn : n < 64) (h3 : C.size = T.R) => tbpar_ok k hn C h3)
  have HRO := Lib.hid (fun W (k : RtAt U x T W) (n : Nat) (hn : n < 64) (h3 : C.size = T.R) => rtparity_any k hn C h3)
  have HRX := Lib.hid (fun (W : World) (k : RtAt U x T W) => show W.cell? ⟨x, 0, none⟩ = some (.int .i64 (T.R : Int)) by
    obtain ⟨_, _, _, hr⟩ := k; exact hr.c.cell 0 rfl)
  clear h h0 hC ho
  obtain ⟨R, hR⟩ : ∃ R, T.R = R := ⟨_, rfl⟩
  have HR := Lib.hid hR
  rw [hR] at hr1 hr2 HCO HX wr1 HTF HTO HRO HRX hCl ⊢
  clear hR
  by_cases hr : 0 ≤ ga ∧ ga < 64
  · obtain ⟨n, rfl⟩ : ∃ n : Nat, ga = (n : Int) := ⟨ga.toNat, by omega⟩
    have hn64 : n < 64 := by omega
    have h1 : ¬ ((n : Int) < 0) := by omega
    have h2 : ¬ (63 < (n : Int)) := by omega
    by_cases hs : C.size = R
    · have HT := Lib.hid (fun W k => HTO.out W k n hn64 hs)
      have HRR := Lib.hid (fun W k => HRO.out W k n hn64 hs)
      have hsb : ((C.size : Int) != (R : Int)) = false := by rw [bne_eq_false_iff_eq]; omega
      have hsb2 : ((C.size : Int) == (R : Int)) = true := by rw [beq_iff_eq]; omega
      clear HTR HTF HTO HRO hr hs hCl
      go_enter Try.func10, Try.ntmps10
      go_wp2
      refine wp_draw (by kernel_rfl) [.pointer (some ⟨x, 0, none⟩), .pointer (some ⟨x, 0, none⟩), .pointer (some ⟨x, 0, none⟩), .int .i64 (R : Int), .pointer (some ⟨b, 2, none⟩), .int .i64 gn, .int .i64 ((R : Int) + gn), .pointer (some ⟨b, 3, none⟩), .int .u8 (gb.toNat : Int), .string C, .string C]
        (fun _ W => Keeps wA W) rfl (by kernel_rfl) (fin := ?fin0) ?hfin0 ((Keeps.refl wA).eqv (Eqv.drew wA)) ?each0 ?hend0
      case hfin0 => simp [seqA, dstOf, Act.put]; rfl
      case each0 =>
        refine ⟨?_, ?_, ?_, ?_, ?_, ?_, ?_, ?_, ?_, ?_, ?_, trivial⟩
        all_goals intro L w5 h0 hd hs hw
        all_goals unfold Does
        all_goals have d1 := HX.out w5 hw
        all_goals have d2 : w5.cell? ⟨b, 2, none⟩ = some (.int .i64 gn) := (HD.out w5 hw).cell 2 rfl
        all_goals have d3 : w5.cell? ⟨b, 3, none⟩ = some (.int .u8 (gb.toNat : Int)) := (HD.out w5 hw).cell 3 rfl
        all_goals go_simp
        all_goals first | exact fun L' k => hw | ((with_reducible refine (HCO.out w5).mono ?_); rintro _ w6 ⟨rfl, k6⟩; exact ⟨_, rfl, rfl, fun _ _ => hw.trans k6⟩)
      case hend0 =>
      intro L w5 hL hw
      have H5 := Lib.hid (H0.out.keeps hw)
      have e1 : w5.cell? ⟨b, 1, none⟩ = some (.int .i64 (n : Int)) := H5.out.c.cell 1 rfl
      have e0 := HRX.out w5 H5.out.r
      clear hL hw
      go_wp2_with (first | (go_at_call 19; refine (HT.out _ H5.out.f).mono ?_; rintro _ w7 ⟨rfl, r7, f7⟩; have H7 := Lib.hid (H5.out.left r7 f7); have e2 : w7.cell? ⟨b, 1, none⟩ = some (.int .i64 (n : Int)) := H7.out.c.cell 1 rfl; have e3 := HRX.out w7 H7.out.r; clear r7 f7) | (go_at_call 26; refine (HRR.out _ H7.out.r).mono ?_; rintro _ w8 ⟨rfl, r8, f8⟩; have H8 := Lib.hid (H7.out.right r8 f8); clear r8 f8))
      go_ret
      exact ⟨rfl, parT T n (ls C), U, HR.out, H8.out.pair⟩
    · have HT := Lib.hid (fun W k => HTF.out W k hr.1 hr.2 hs)
      have hsb : ((C.size : Int) != (R : Int)) = true := by rw [bne_iff_ne]; omega
      have hsb2 : ((C.size : Int) == (R : Int)) = false := by rw [beq_eq_false_iff_ne]; omega
      clear HTR HTF HTO HRO hr hs hCl
      go_enter Try.func10, Try.ntmps10
      go_wp2
      refine wp_draw (by kernel_rfl) [.pointer (some ⟨x, 0, none⟩), .pointer (some ⟨x, 0, none⟩), .pointer (some ⟨x, 0, none⟩), .int .i64 (R : Int), .pointer (some ⟨b, 2, none⟩), .int .i64 gn, .int .i64 ((R : Int) + gn), .pointer (some ⟨b, 3, none⟩), .int .u8 (gb.toNat : Int), .string C, .string C]
        (fun _ W => Keeps wA W) rfl (by kernel_rfl) (fin := ?fin1) ?hfin1 ((Keeps.refl wA).eqv (Eqv.drew wA)) ?each1 ?hend1
      case hfin1 => simp [seqA, dstOf, Act.put]; rfl
      case each1 =>
        refine ⟨?_, ?_, ?_, ?_, ?_, ?_, ?_, ?_, ?_, ?_, ?_, trivial⟩
        all_goals intro L w5 h0 hd hs hw
        all_goals unfold Does
        all_goals have d1 := HX.out w5 hw
        all_goals have d2 : w5.cell? ⟨b, 2, none⟩ = some (.int .i64 gn) := (HD.out w5 hw).cell 2 rfl
        all_goals have d3 : w5.cell? ⟨b, 3, none⟩ = some (.int .u8 (gb.toNat : Int)) := (HD.out w5 hw).cell 3 rfl
        all_goals go_simp
        all_goals first | exact fun L' k => hw | ((with_reducible refine (HCO.out w5).mono ?_); rintro _ w6 ⟨rfl, k6⟩; exact ⟨_, rfl, rfl, fun _ _ => hw.trans k6⟩)
      case hend1 =>
      intro L w5 hL hw
      have H5 := Lib.hid (H0.out.keeps hw)
      have e1 : w5.cell? ⟨b, 1, none⟩ = some (.int .i64 (n : Int)) := H5.out.c.cell 1 rfl
      have e0 := HRX.out w5 H5.out.r
      clear hL hw
      go_wp2_with (go_at_call 19; refine (HT.out _ H5.out.f).mono ?_; rintro _ w7 ⟨rfl, rfl⟩)
      go_ret
      exact ⟨rfl, T, U, HR.out, H5.out.pair⟩
  · have HT := Lib.hid (fun W => HTR.out W hr)
    by_cases h1 : ga < 0
    · clear HTR HTF HTO HRO hr hCl
      go_enter Try.func10, Try.ntmps10
      go_wp2
      refine wp_draw (by kernel_rfl) [.pointer (some ⟨x, 0, none⟩), .pointer (some ⟨x, 0, none⟩), .pointer (some ⟨x, 0, none⟩), .int .i64 (R : Int), .pointer (some ⟨b, 2, none⟩), .int .i64 gn, .int .i64 ((R : Int) + gn), .pointer (some ⟨b, 3, none⟩), .int .u8 (gb.toNat : Int), .string C, .string C]
        (fun _ W => Keeps wA W) rfl (by kernel_rfl) (fin := ?fin2) ?hfin2 ((Keeps.refl wA).eqv (Eqv.drew wA)) ?each2 ?hend2
      case hfin2 => simp [seqA, dstOf, Act.put]; rfl
      case each2 =>
        refine ⟨?_, ?_, ?_, ?_, ?_, ?_, ?_, ?_, ?_, ?_, ?_, trivial⟩
        all_goals intro L w5 h0 hd hs hw
        all_goals unfold Does
        all_goals have d1 := HX.out w5 hw
        all_goals have d2 : w5.cell? ⟨b, 2, none⟩ = some (.int .i64 gn) := (HD.out w5 hw).cell 2 rfl
        all_goals have d3 : w5.cell? ⟨b, 3, none⟩ = some (.int .u8 (gb.toNat : Int)) := (HD.out w5 hw).cell 3 rfl
        all_goals go_simp
        all_goals first | exact fun L' k => hw | ((with_reducible refine (HCO.out w5).mono ?_); rintro _ w6 ⟨rfl, k6⟩; exact ⟨_, rfl, rfl, fun _ _ => hw.trans k6⟩)
      case hend2 =>
      intro L w5 hL hw
      have H5 := Lib.hid (H0.out.keeps hw)
      have e1 : w5.cell? ⟨b, 1, none⟩ = some (.int .i64 ga) := H5.out.c.cell 1 rfl
      have e0 := HRX.out w5 H5.out.r
      clear hL hw
      go_wp2_with (go_at_call 19; refine (HT.out _).mono ?_; rintro _ w7 ⟨rfl, rfl⟩)
      go_ret
      exact ⟨rfl, T, U, HR.out, H5.out.pair⟩
    · have h2 : 63 < ga := by omega
      clear HTR HTF HTO HRO hr hCl
      go_enter Try.func10, Try.ntmps10
      go_wp2
      refine wp_draw (by kernel_rfl) [.pointer (some ⟨x, 0, none⟩), .pointer (some ⟨x, 0, none⟩), .pointer (some ⟨x, 0, none⟩), .int .i64 (R : Int), .pointer (some ⟨b, 2, none⟩), .int .i64 gn, .int .i64 ((R : Int) + gn), .pointer (some ⟨b, 3, none⟩), .int .u8 (gb.toNat : Int), .string C, .string C]
        (fun _ W => Keeps wA W) rfl (by kernel_rfl) (fin := ?fin3) ?hfin3 ((Keeps.refl wA).eqv (Eqv.drew wA)) ?each3 ?hend3
      case hfin3 => simp [seqA, dstOf, Act.put]; rfl
      case each3 =>
        refine ⟨?_, ?_, ?_, ?_, ?_, ?_, ?_, ?_, ?_, ?_, ?_, trivial⟩
        all_goals intro L w5 h0 hd hs hw
        all_goals unfold Does
        all_goals have d1 := HX.out w5 hw
        all_goals have d2 : w5.cell? ⟨b, 2, none⟩ = some (.int .i64 gn) := (HD.out w5 hw).cell 2 rfl
        all_goals have d3 : w5.cell? ⟨b, 3, none⟩ = some (.int .u8 (gb.toNat : Int)) := (HD.out w5 hw).cell 3 rfl
        all_goals go_simp
        all_goals first | exact fun L' k => hw | ((with_reducible refine (HCO.out w5).mono ?_); rintro _ w6 ⟨rfl, k6⟩; exact ⟨_, rfl, rfl, fun _ _ => hw.trans k6⟩)
      case hend3 =>
      intro L w5 hL hw
      have H5 := Lib.hid (H0.out.keeps hw)
      have e1 : w5.cell? ⟨b, 1, none⟩ = some (.int .i64 ga) := H5.out.c.cell 1 rfl
      have e0 := HRX.out w5 H5.out.r
      clear hL hw
      go_wp2_with (go_at_call 19; refine (HT.out _).mono ?_; rintro _ w7 ⟨rfl, rfl⟩)
      go_ret
      exact ⟨rfl, T, U, HR.out, H5.out.pair⟩
set_option maxHeartbeats 3200000 in
theorem does2 {w0 : World} {p x : Nat} {T : Tb} {S U : Nat → Prop} {w : World} (h : PairT w0 p x T S U w) (ga gn : Int) (gb : UInt8) (gt : ByteArray) :
    Calls Try.prog 10 #[.pointer (some ⟨p, 0, none⟩), .pointer (some ⟨x, 0, none⟩), .agg #[.int .i64 2, .int .i64 ga, .int .i64 gn, .int .u8 (gb.toNat : Int), .string gt]] w (DoesPost w0 p x T.R S) := by
  obtain ⟨b, wA, h0⟩ := DoStart.of h ⟨2, ga, gn, gb, gt⟩
  have hb := h0.z
  have hA := h0.a
  have H0 := Lib.hid h0.s
  simp only at hA
  have d0 : wA.cell? ⟨b, 0, none⟩ = some (.int .i64 2) := H0.out.c.cell 0 rfl
  have d2 : wA.cell? ⟨b, 2, none⟩ = some (.int .i64 gn) := H0.out.c.cell 2 rfl
  clear h h0
  by_cases hin : 0 ≤ gn ∧ gn ≤ 191
  · obtain ⟨n, rfl⟩ : ∃ n : Nat, gn = (n : Int) := ⟨gn.toNat, by omega⟩
    have hn : n ≤ 191 := by omega
    have HTP := Lib.hid (fun W (k : PtAt S p T W) => tbpad_ok k hn)
    have HRP := Lib.hid (fun W (k : RtAt U x T W) => rtpad_any k hn)
    have h1 : ¬ ((n : Int) < 0) := by omega
    have h2 : ¬ (191 < (n : Int)) := by omega
    clear hin
    go_enter Try.func10, Try.ntmps10
    go_wp2_with (first | (go_at_call 21; refine (HTP.out _ H0.out.f).mono ?_; rintro _ w1 ⟨rfl, r1, f1⟩; have H1 := Lib.hid (H0.out.left r1 f1); have e1 : w1.cell? ⟨b, 2, none⟩ = some (.int .i64 (n : Int)) := H1.out.c.cell 2 rfl; clear r1 f1) | (go_at_call 27; refine (HRP.out _ H1.out.r).mono ?_; rintro _ w2 ⟨rfl, r2, f2⟩; have H2 := Lib.hid (H1.out.right r2 f2); clear r2 f2))
    go_ret
    exact ⟨rfl, padT T n, U, rfl, H2.out.pair⟩
  · have HTP := Lib.hid (fun W => tbpad_range (x := p) hin W)
    by_cases h1 : gn < 0
    · clear hin
      go_enter Try.func10, Try.ntmps10
      go_wp2_with (go_at_call 21; refine (HTP.out _).mono ?_; rintro _ w1 ⟨rfl, rfl⟩)
      go_ret
      exact ⟨rfl, T, U, rfl, H0.out.pair⟩
    · have h2 : 191 < gn := by omega
      clear hin
      go_enter Try.func10, Try.ntmps10
      go_wp2_with (go_at_call 21; refine (HTP.out _).mono ?_; rintro _ w1 ⟨rfl, rfl⟩)
      go_ret
      exact ⟨rfl, T, U, rfl, H0.out.pair⟩
set_option maxHeartbeats 3200000 in
theorem does3 {w0 : World} {p x : Nat} {T : Tb} {S U : Nat → Prop} {w : World} (h : PairT w0 p x T S U w) (ga gn : Int) (gb : UInt8) (gt : ByteArray) :
    Calls Try.prog 10 #[.pointer (some ⟨p, 0, none⟩), .pointer (some ⟨x, 0, none⟩), .agg #[.int .i64 3, .int .i64 ga, .int .i64 gn, .int .u8 (gb.toNat : Int), .string gt]] w (DoesPost w0 p x T.R S) := by
  have HOK := Lib.hid h.f.ok.r
  obtain ⟨b, wA, h0⟩ := DoStart.of h ⟨3, ga, gn, gb, gt⟩
  have hb := h0.z
  have hA := h0.a
  have H0 := Lib.hid h0.s
  simp only at hA
  have d0 : wA.cell? ⟨b, 0, none⟩ = some (.int .i64 3) := H0.out.c.cell 0 rfl
  have HTC := Lib.hid (fun W (k : PtAt S p T W) => tbclear_any k)
  have HRN := Lib.hid (fun W => rtnew_any HOK.out W)
  have HRX := Lib.hid (fun (W : World) (k : RtAt U x T W) => show W.cell? ⟨x, 0, none⟩ = some (.int .i64 (T.R : Int)) by
    obtain ⟨_, _, _, hr⟩ := k; exact hr.c.cell 0 rfl)
  unfold RtNewPost at HRN
  clear h h0
  obtain ⟨R, hR⟩ : ∃ R, T.R = R := ⟨_, rfl⟩
  rw [hR] at HTC HRN HRX ⊢
  clear hR
  go_enter Try.func10, Try.ntmps10
  go_wp2_with (first | (go_at_call 16; refine (HTC.out _ H0.out.f).mono ?_; rintro _ w1 ⟨rfl, r1, f1⟩; have H1 := Lib.hid (H0.out.left r1 f1); have e1 := HRX.out w1 H1.out.r; clear r1 f1) | (go_at_call 9; refine (HRN.out _).mono ?_; rintro _ w2 ⟨x2, bb, bi, bs, rfl, hin, k2, -, n2, n3, n4⟩; have H2 := Lib.hid hin; have HK2 := Lib.hid k2; have HM := Lib.hid (RtIn.moved H1.out.r k2 H1.out.r.hasBlock hin ⟨n2, n3, n4⟩); have HNN := Lib.hid (And.intro n2 (And.intro n3 n4)); have HTH := Lib.hid (show w2.there x 0 4 by obtain ⟨_, _, _, hr⟩ := H1.out.r.keeps k2; exact hr.c.there (show 0 + 4 ≤ 4 by decide)); clear hin k2 n2 n3 n4) | (refine wp_ldRt (b := x2) (R := R) (bb := bb) (bi := bi) (bs := bs) H2.out.c.r rfl _ rfl rfl ?_) | (refine wp_stRt (b := x) R bb bi bs HTH.out rfl _ _ rfl rfl rfl ?_))
  go_ret
  refine ⟨rfl, tb0 R, _, rfl, ⟨?_, ⟨bb, bi, bs, HM.out⟩, ?_, ?_, H1.out.n, ?_⟩⟩
  · exact (H1.out.keeps HK2.out).f.foot ((only_setCells x (rtC R bb bi bs) 0 w2).foot (S := fun k => k = x) rfl) fun k hk e => H1.out.d k hk (by rw [e]; exact H1.out.r.hasBlock)
  · rintro k hk (rfl | rfl | rfl | rfl)
    · exact H1.out.d _ hk H1.out.r.hasBlock
    · have := H1.out.f.old _ hk; have := HNN.out.1; omega
    · have := H1.out.f.old _ hk; have := HNN.out.2.1; omega
    · have := H1.out.f.old _ hk; have := HNN.out.2.2; omega
  · exact (only_setCells x (rtC R bb bi bs) 0 w2).keeps (H1.out.k.trans HK2.out) (H1.out.m _ H1.out.r.hasBlock)
  · have hs := Below.size H1.out.k
    rintro k (rfl | rfl | rfl | rfl)
    · exact H1.out.m _ H1.out.r.hasBlock
    · have := HNN.out.1; omega
    · have := HNN.out.2.1; omega
    · have := HNN.out.2.2; omega
theorem does4 {w0 : World} {p x : Nat} {T : Tb} {S U : Nat → Prop} {w : World} (h : PairT w0 p x T S U w) (ask ga gn : Int) (gb : UInt8) (gt : ByteArray) (hk : ¬ (0 ≤ ask ∧ ask ≤ 3)) :
    Calls Try.prog 10 #[.pointer (some ⟨p, 0, none⟩), .pointer (some ⟨x, 0, none⟩), .agg #[.int .i64 ask, .int .i64 ga, .int .i64 gn, .int .u8 (gb.toNat : Int), .string gt]] w (DoesPost w0 p x T.R S) := by
  obtain ⟨b, wA, h0⟩ := DoStart.of h ⟨ask, ga, gn, gb, gt⟩
  have hb := h0.z
  have hA := h0.a
  have H0 := Lib.hid h0.s
  simp only at hA
  have d0 : wA.cell? ⟨b, 0, none⟩ = some (.int .i64 ask) := H0.out.c.cell 0 rfl
  have h1 : (ask == 0) = false := by rw [beq_eq_false_iff_ne]; omega
  have h2 : (ask == 1) = false := by rw [beq_eq_false_iff_ne]; omega
  have h3 : (ask == 2) = false := by rw [beq_eq_false_iff_ne]; omega
  have h4 : (ask == 3) = false := by rw [beq_eq_false_iff_ne]; omega
  clear h h0 hk
  go_enter Try.func10, Try.ntmps10
  go_wp2
  go_ret
  exact ⟨rfl, T, U, rfl, H0.out.pair⟩
theorem does_any {w0 : World} {p x : Nat} {T : Tb} {S U : Nat → Prop} {w : World} (h : PairT w0 p x T S U w) (o : Opt) (ho : okO o) :
    Calls Try.prog 10 #[.pointer (some ⟨p, 0, none⟩), .pointer (some ⟨x, 0, none⟩), optV o] w (DoesPost w0 p x T.R S) := by
  obtain ⟨ask, ga, gn, gb, gt⟩ := o
  by_cases h4 : 0 ≤ ask ∧ ask ≤ 3
  · rcases (show ask = 0 ∨ ask = 1 ∨ ask = 2 ∨ ask = 3 by omega) with rfl | rfl | rfl | rfl
    · exact does0 h ga gn gb gt ho
    · exact does1 h ga gn gb gt ho
    · exact does2 h ga gn gb gt
    · exact does3 h ga gn gb gt
  · exact does4 h ask ga gn gb gt h4
theorem wp_ldOp {ops : Array Oper} {rest : List Oper} {o : Oper} {a : Act} {w : World} {Q : Exit → Act → World → Prop} {b off : Nat} {s : Opt} (h : w.rangeAt b off (optC s)) (hgd : o.guard = none) (x : Operand) (ho : o.op = .load 35 x)
    (hx : a.eval x = .pointer (some ⟨b, off, none⟩)) (k : wpList Try.prog ops Q rest (a.put o.dst (optV s)) w) : wpList Try.prog ops Q (o :: rest) a w :=
  wpList_load_mid hgd _ x ho b off hx (optC s) _ h Try.underlying35 rfl (by kernel_rfl) k
theorem opt_range {W : World} {a : Option Addr} {len : Nat} {l : List Opt} (h : IsE optT W a len l) {i : Nat} (hi : i < l.length) : ∃ b off, a = some ⟨b, off, none⟩ ∧ ∀ W', Keeps W W' → W'.rangeAt b (off + i * 5) (optC l[i]) := by
  obtain ⟨b, off, ha, hb, hc⟩ := h.get hi
  exact ⟨b, off, ha, fun W' k j v hj => by rw [Nat.add_assoc]; exact (Below.cell k (p := ⟨b, off + (i * 5 + j), none⟩) hb).trans (hc j v hj)⟩
end Go.Proofs.Ytpkidopnkofccaa
