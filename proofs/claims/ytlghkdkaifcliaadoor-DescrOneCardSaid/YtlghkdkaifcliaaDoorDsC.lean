/-
  The tables of widths of package descr in memory; what numbers and Make of a Slice, and ReadSlice, answer. The memory that was there stays.
-/
import Derived.Test.YtlghkdkaifcliaaDoorDsA
import Derived.Test.YtlghkdkaifcliaaDoorDsT
namespace Go.Proofs.YtlghkdkaifcliaaDoor
open Go.RowKit Gf Ds
set_option maxRecDepth 100000
set_option linter.unusedVariables false
/-- A table of widths lies where the program's text lays it. -/
def Tab (g : Nat) (l : List Nat) (w : World) : Prop := l.length = 9 ∧ w.rangeAt g 0 (nC (il l))
theorem Tab.cell {g : Nat} {l : List Nat} {w : World} (h : Tab g l w) : w.cell? ⟨g, 0, none⟩ = some (.int .i64 ((gn l 0 : Nat) : Int)) := by
  have := h.2 0 _ (nC_get (l := il l) (k := 0) (by rw [il_length, h.1]; decide))
  rw [gi_il] at this
  exact this
theorem Tab.old {g : Nat} {l : List Nat} {w : World} (h : Tab g l w) : g < w.heap.size := by
  obtain ⟨o, ho, _⟩ := cells_of_cell h.cell
  exact (Array.getElem?_eq_some_iff.1 ho).1
theorem Tab.block {g : Nat} {l : List Nat} {w w' : World} (h : Tab g l w) (hb : w'.heap[g]? = w.heap[g]?) : Tab g l w' := ⟨h.1, fun j v hv => (World.cell?_of_block (w := w) (a := ⟨g, 0 + j, none⟩) hb).trans (h.2 j v hv)⟩
theorem Tab.keeps {g : Nat} {l : List Nat} {w w' : World} (h : Tab g l w) (k : Keeps w w') : Tab g l w' := h.block (Below.block k _ h.old)
theorem Tab.eqv {g : Nat} {l : List Nat} {w w' : World} (h : Tab g l w) (k : Eqv w w') : Tab g l w' := h.block (by rw [k.heap])
theorem does_load {o : Oper} {ρ : Operand → Value} {w : World} {R : Value → World → Prop} (ty : TypeId) (x : Operand) (ho : o.op = .load ty x) (b off : Nat) (hx : ρ x = .pointer (some ⟨b, off, none⟩)) (cs : List Value) (d : TypeDesc) (hc : w.rangeAt b off cs)
    (hu : Tryd.prog.underlying ty = some d) (hd : d.isRow = true) (hi : (Tryd.prog.info? ty).map (·.size) = some cs.length) (k : R (.agg cs.toArray) w) : Does Tryd.prog o ρ w R := by
  have e : (execOp ρ o).run Tryd.prog w = .ok (.value (.agg cs.toArray)) w := by
    unfold execOp
    simp only [ho, hx, Instr.loadAt, Instr.sureAddr, Sem.run_bind, Sem.run_pure, Result.andThen_ok, run_loadVar_mid w b off ty cs d hc hu hd hi]
  unfold Does
  rw [e]
  exact k
theorem dwp_ldG {ops : Array Oper} {rest : List Oper} {o : Oper} {a : Act} {w : World} {Q : Exit → Act → World → Prop} {g : Nat} {l : List Nat} (h : Tab g l w) (hgd : o.guard = none) (x : Operand) (ho : o.op = .load 113 x)
    (hx : a.eval x = .pointer (some ⟨g, 0, none⟩)) (k : wpList Tryd.prog ops Q rest (a.put o.dst (nV (il l))) w) : wpList Tryd.prog ops Q (o :: rest) a w :=
  wpList_load_mid hgd _ x ho g 0 hx (nC (il l)) _ h.2 Tryd.underlying113 rfl (by rw [show (nC (il l)).length = 9 by rw [List.length_map, il_length, h.1]]; kernel_rfl) k
theorem dldG {w : World} {g : Nat} {l : List Nat} (h : Tab g l w) : (Instr.loadAt 113 (.pointer (some ⟨g, 0, none⟩))).run Tryd.prog w = .ok (nV (il l)) w := run_loadAt_mid (P := Tryd.prog) w g 0 _ (nC (il l)) _ h.2 Tryd.underlying113 rfl (by rw [show (nC (il l)).length = 9 by rw [List.length_map, il_length, h.1]]; kernel_rfl)
theorem ldN9 {w : World} {b : Nat} {a0 a1 a2 a3 a4 a5 a6 a7 a8 : Int} (h : w.rangeAt b 0 (nC [a0, a1, a2, a3, a4, a5, a6, a7, a8])) : (Instr.loadAt 111 (.pointer (some ⟨b, 0, none⟩))).run Tryd.prog w = .ok (.agg #[.int .i64 a0, .int .i64 a1, .int .i64 a2, .int .i64 a3, .int .i64 a4, .int .i64 a5, .int .i64 a6, .int .i64 a7, .int .i64 a8]) w := run_loadAt_mid (P := Tryd.prog) w b 0 _ (nC [a0, a1, a2, a3, a4, a5, a6, a7, a8]) _ h Tryd.underlying111 rfl (by kernel_rfl)
abbrev TS (w : World) : Prop := Tab 0 wsS w
theorem sm_S : sm wsS 9 = 24 := rfl
theorem gn_S (k : Nat) : gn wsS k ≤ 24 := by
  unfold gn wsS
  rcases k with _ | _ | _ | _ | _ | _ | _ | _ | _ | k <;> simp
/-- The program's descriptors whole. -/
theorem dlvP {w : World} {b : Nat} {s : Dsc} (h : w.rangeAt b 0 (dsC s)) : (loadVar 37 ⟨b, 0, none⟩).run Tryd.prog w = .ok (dsV s) w := run_loadVar_mid (P := Tryd.prog) w b 0 _ (dsC s) _ h Tryd.underlying37 rfl (by kernel_rfl)
theorem dwp_ldP {ops : Array Oper} {rest : List Oper} {o : Oper} {a : Act} {w : World} {Q : Exit → Act → World → Prop} {b off : Nat} {s : Dsc} (h : w.rangeAt b off (dsC s)) (hgd : o.guard = none) (x : Operand) (ho : o.op = .load 37 x)
    (hx : a.eval x = .pointer (some ⟨b, off, none⟩)) (k : wpList Tryd.prog ops Q rest (a.put o.dst (dsV s)) w) : wpList Tryd.prog ops Q (o :: rest) a w :=
  wpList_load_mid hgd _ x ho b off hx (dsC s) _ h Tryd.underlying37 rfl (by kernel_rfl) k
theorem dwp_stP {ops : Array Oper} {rest : List Oper} {o : Oper} {a : Act} {w : World} {Q : Exit → Act → World → Prop} {b off : Nat} (s : Dsc) (h : w.there b off 2) (hgd : o.guard = none) (x y : Operand) (ho : o.op = .store 37 x y)
    (hx : a.eval x = .pointer (some ⟨b, off, none⟩)) (hy : a.eval y = dsV s) (k : wpList Tryd.prog ops Q rest (a.put o.dst undef) (w.setCells b off (dsC s))) : wpList Tryd.prog ops Q (o :: rest) a w :=
  wpList_store_mid hgd _ x y ho b off (dsC s).toArray hx hy h (by kernel_rfl) (all_oneCell_toArray (dsC_one s)) k
/-- What numbers of a Slice stand in its bits. -/
def nsI (x : Slc) : List Int := [(bn x.sl : Int), 0, (bn x.fec : Int), 3, 0, x.rows.tdiv 256 - 1, x.burst, x.rate, x.id]
def inI (n : Int) : Prop := -9223372036854775808 ≤ n ∧ n ≤ 9223372036854775807
theorem tdiv_bd {a : Int} (h : -9223372036854775808 ≤ a ∧ a ≤ 9223372036854775807) : -40000000000000000 ≤ a.tdiv 256 ∧ a.tdiv 256 ≤ 40000000000000000 := by
  by_cases k : 0 ≤ a
  · rw [Int.tdiv_eq_ediv_of_nonneg k]; omega
  · have e : a.tdiv 256 = -((-a).tdiv 256) := by rw [Int.neg_tdiv, Int.neg_neg]
    rw [e, Int.tdiv_eq_ediv_of_nonneg (by omega)]; omega
set_option maxHeartbeats 1600000 in
theorem dnums_any (x : Slc) (hr : inI x.rows) (w : World) : Calls Tryd.prog 46 #[slV x] w fun e w' => e = .returned (nV (nsI x)) ∧ Keeps w w' := by
  obtain ⟨X, hX⟩ : ∃ X, w.heap.size = X := ⟨_, rfl⟩
  obtain ⟨wA, hA⟩ : ∃ wX, w.alloc (.cells #[.bool x.sl, .bool x.fec, .int .i64 x.rows, .int .i64 x.burst, .int .i64 x.rate, .int .i64 x.id, .string x.more] 42) = wX := ⟨_, rfl⟩
  obtain ⟨wB, hB⟩ : ∃ wX, wA.alloc (.cells #[.int .i64 0, .int .i64 0, .int .i64 0, .int .i64 0, .int .i64 0, .int .i64 0, .int .i64 0, .int .i64 0, .int .i64 0] 111) = wX := ⟨_, rfl⟩
  have hz : wA.heap.size = X + 1 := by rw [← hA, World.size_alloc, hX]
  have kA : Keeps w wA := by rw [← hA]; exact (Keeps.refl w).alloc _
  have kB : Keeps wA wB := by rw [← hB]; exact (Keeps.refl wA).alloc _
  have HX := Lib.hid (show CsAt X (slC x) wB from CsAt.keeps (w := wA) (by rw [← hX, ← hA]; exact CsAt.made w #[.bool x.sl, .bool x.fec, .int .i64 x.rows, .int .i64 x.burst, .int .i64 x.rate, .int .i64 x.id, .string x.more] _ (by simp)) kB)
  have HD := Lib.hid (show CsAns w (X + 1) (nC [0, 0, 0, 0, 0, 0, 0, 0, 0]) wB from ⟨by rw [← hz, ← hB]; exact CsAt.made wA #[.int .i64 0, .int .i64 0, .int .i64 0, .int .i64 0, .int .i64 0, .int .i64 0, .int .i64 0, .int .i64 0, .int .i64 0] _ (by simp), kA.trans kB, by omega⟩)
  clear kA kB
  obtain ⟨sl, fec, rows, burst, rate, id, more⟩ := x
  simp only at hr hA
  unfold inI at hr
  obtain ⟨D, hD⟩ : ∃ D : Int, rows.tdiv 256 = D := ⟨_, rfl⟩
  obtain ⟨B1, hB1⟩ : ∃ D : Nat, bn sl = D := ⟨_, rfl⟩
  obtain ⟨B2, hB2⟩ : ∃ D : Nat, bn fec = D := ⟨_, rfl⟩
  have HF1 := Lib.hid (fun W => flag_any sl W)
  have HF2 := Lib.hid (fun W => flag_any fec W)
  rw [hB1] at HF1
  rw [hB2] at HF2
  have hDb : -40000000000000000 ≤ D ∧ D ≤ 40000000000000000 := by rw [← hD]; exact tdiv_bd hr
  have v1 := wrapI (a := D) (by omega) (by omega)
  have v2 := wrapI (a := D - 1) (by omega) (by omega)
  have HR := Lib.hid (show nC (nsI ⟨sl, fec, rows, burst, rate, id, more⟩) = [.int .i64 (B1 : Int), .int .i64 0, .int .i64 (B2 : Int), .int .i64 3, .int .i64 0, .int .i64 (D - 1), .int .i64 burst, .int .i64 rate, .int .i64 id] by unfold nsI; rw [hD, hB1, hB2]; rfl)
  clear hB1 hB2
  go_enter Tryd.func46, Tryd.ntmps46
  go_wp2
  refine wp_draw_tail 17 (by kernel_rfl) [.pointer (some ⟨X, 0, none⟩), .bool sl, .int .i64 (B1 : Int), .pointer (some ⟨X, 1, none⟩), .bool fec, .int .i64 (B2 : Int), .pointer (some ⟨X, 2, none⟩), .int .i64 rows, .int .i64 D, .int .i64 (D - 1), .pointer (some ⟨X, 3, none⟩), .int .i64 burst, .pointer (some ⟨X, 4, none⟩), .int .i64 rate, .pointer (some ⟨X, 5, none⟩), .int .i64 id, .agg #[.int .i64 (B1 : Int), .int .i64 0, .int .i64 (B2 : Int), .int .i64 3, .int .i64 0, .int .i64 (D - 1), .int .i64 burst, .int .i64 rate, .int .i64 id]]
    (fun _ W => Eqv wB W) rfl (by kernel_rfl) (by kernel_rfl) (fin := ?fin0) ?hfin0 (Eqv.drew wB) ?each0 ?hend0
  case hfin0 => simp [seqA, dstOf, Act.put]; rfl
  case each0 =>
    refine ⟨?_, ?_, ?_, ?_, ?_, ?_, ?_, ?_, ?_, ?_, ?_, ?_, ?_, ?_, ?_, ?_, ?_, trivial⟩
    all_goals intro L w5 h0 hd hs hw
    all_goals unfold Does
    all_goals have y0 := (HX.out.eqv hw).cell 0 rfl
    all_goals have y1 := (HX.out.eqv hw).cell 1 rfl
    all_goals have y2 := (HX.out.eqv hw).cell 2 rfl
    all_goals have y3 := (HX.out.eqv hw).cell 3 rfl
    all_goals have y4 := (HX.out.eqv hw).cell 4 rfl
    all_goals have y5 := (HX.out.eqv hw).cell 5 rfl
    all_goals go_simp
    all_goals first | exact fun L' k => hw | (refine (HF1.out w5).mono ?_; rintro _ _ ⟨rfl, rfl⟩; exact ⟨_, rfl, rfl, fun _ _ => hw⟩) | (refine (HF2.out w5).mono ?_; rintro _ _ ⟨rfl, rfl⟩; exact ⟨_, rfl, rfl, fun _ _ => hw⟩)
  case hend0 =>
  intro L w5 hL hw
  have HD5 := Lib.hid (HD.out.eqv hw)
  simp only [List.drop_succ_cons, List.drop_zero]
  clear hw hL
  go_wp2_with (refine wp_stN (b := X + 1) HD5.out.z rfl (nC (nsI ⟨sl, fec, rows, burst, rate, id, more⟩)) rfl (nC_one _) rfl _ _ rfl rfl (by rw [HR.out]; rfl) ?_)
  refine cs_ret Tryd.results46 (lvN (HD5.out.ends (nC (nsI ⟨sl, fec, rows, burst, rate, id, more⟩)) rfl).z.r rfl) rfl rfl ?_
  exact ⟨rfl, (HD5.out.ends (nC (nsI ⟨sl, fec, rows, burst, rate, id, more⟩)) rfl).k⟩
/-- A region that draws and makes one block, at operation N: its name is the ghost. -/
def vsPt (pre : List Value) (γ : Nat) : List Value := pre ++ [.pointer (some ⟨γ, 0, none⟩)]
theorem vsPt_a {pre : List Value} {L : Nat → Bool} {a a' n : Nat} (hn : pre.length = n) (h : L n = false) : ∀ j, L j = true → (vsPt pre a').getD j undef = (vsPt pre a).getD j undef := by
  intro j hj
  unfold vsPt
  rw [List.getD_eq_getElem?_getD, List.getD_eq_getElem?_getD]
  by_cases h1 : j < pre.length
  · rw [List.getElem?_append_left h1, List.getElem?_append_left h1]
  · by_cases h2 : j = n
    · rw [h2, h] at hj; cases hj
    · rw [List.getElem?_eq_none (by rw [List.length_append]; show pre.length + 1 ≤ j; omega), List.getElem?_eq_none (by rw [List.length_append]; show pre.length + 1 ≤ j; omega)]
structure AlR (wD : World) (N : Nat) (cs : List Value) (γ : Nat) (L : Nat → Bool) (W : World) : Prop where
  kp : Keeps wD W
  one : L N = true → CsAt γ cs W ∧ wD.heap.size ≤ γ
theorem AlR.on {wD : World} {N : Nat} {cs : List Value} {γ : Nat} {L L' : Nat → Bool} {W W' : World} (h : AlR wD N cs γ L W) {i : Nat} (hn : N ≠ i) (k : ∀ j, L' j = true ↔ (L j = true ∨ j = i)) (hk : Keeps W W') : AlR wD N cs γ L' W' :=
  ⟨h.kp.trans hk, fun z => ⟨(h.one (((k N).1 z).elim id fun q => absurd q hn)).1.keeps hk, (h.one (((k N).1 z).elim id fun q => absurd q hn)).2⟩⟩
theorem AlR.same {wD : World} {N : Nat} {cs : List Value} {γ : Nat} {L L' : Nat → Bool} {W : World} (h : AlR wD N cs γ L W) {i : Nat} (hn : N ≠ i) (k : ∀ j, L' j = true ↔ (L j = true ∨ j = i)) : AlR wD N cs γ L' W := h.on hn k (Keeps.refl W)
theorem AlR.start {w wD : World} {N : Nat} {cs : List Value} {γ : Nat} (h : Eqv wD w) : AlR wD N cs γ (fun _ => false) w := ⟨(Keeps.refl wD).eqv h, fun x => by cases x⟩
/-! MAKE -/
theorem num_iff {x : Slc} : (x.rows.tmod 256 = 0 ∧ fits wsS (nsI x)) ↔ numSl x := by
  have e := Int.mul_tdiv_add_tmod x.rows 256
  have b0 : bn x.sl < 2 := by unfold bn; split <;> decide
  have b1 : bn x.fec < 2 := by unfold bn; split <;> decide
  obtain ⟨D, hD⟩ : ∃ D : Int, x.rows.tdiv 256 = D := ⟨_, rfl⟩
  obtain ⟨R, hR⟩ : ∃ D : Int, x.rows.tmod 256 = D := ⟨_, rfl⟩
  rw [hD, hR] at e
  rw [hR]
  unfold numSl okR
  constructor
  · rintro ⟨h, f⟩
    have f5 := f 5 (by decide)
    have f6 := f 6 (by decide)
    have f7 := f 7 (by decide)
    have f8 := f 8 (by decide)
    have g5 : (0 : Int) ≤ x.rows.tdiv 256 - 1 ∧ x.rows.tdiv 256 - 1 < 4 := f5
    have g6 : (0 : Int) ≤ x.burst ∧ x.burst < 256 := f6
    have g7 : (0 : Int) ≤ x.rate ∧ x.rate < 16 := f7
    have g8 : (0 : Int) ≤ x.id ∧ x.id < 16 := f8
    rw [hD] at g5
    omega
  · rintro ⟨h1, h2, h3, h4⟩
    have hRz : R = 0 := by rw [← hR]; rcases h1 with h | h | h | h <;> rw [h] <;> rfl
    refine ⟨hRz, fun k hk => ?_⟩
    have hk' : k = 0 ∨ k = 1 ∨ k = 2 ∨ k = 3 ∨ k = 4 ∨ k = 5 ∨ k = 6 ∨ k = 7 ∨ k = 8 := by omega
    rcases hk' with rfl | rfl | rfl | rfl | rfl | rfl | rfl | rfl | rfl
    · show (0 : Int) ≤ (bn x.sl : Int) ∧ (bn x.sl : Int) < 2; omega
    · show (0 : Int) ≤ 0 ∧ (0 : Int) < 2; omega
    · show (0 : Int) ≤ (bn x.fec : Int) ∧ (bn x.fec : Int) < 2; omega
    · show (0 : Int) ≤ 3 ∧ (3 : Int) < 4; omega
    · show (0 : Int) ≤ 0 ∧ (0 : Int) < 2; omega
    · show (0 : Int) ≤ x.rows.tdiv 256 - 1 ∧ x.rows.tdiv 256 - 1 < 4; rw [hD]; omega
    · show (0 : Int) ≤ x.burst ∧ x.burst < 256; omega
    · show (0 : Int) ≤ x.rate ∧ x.rate < 16; omega
    · show (0 : Int) ≤ x.id ∧ x.id < 16; omega
set_option maxHeartbeats 3200000 in
theorem dmk_rows (x : Slc) (hr : inI x.rows) (h : x.rows.tmod 256 ≠ 0) (w : World) (hT : TS w) : Calls Tryd.prog 19 #[slV x] w (DmPost w (mkS x)) := by
  have HF := Lib.hid (mkS_num (fun k : numSl x => h (num_iff.2 k).1))
  obtain ⟨sl, fec, rows, burst, rate, id, more⟩ := x
  simp only at *
  obtain ⟨X, hX⟩ : ∃ X, w.heap.size = X := ⟨_, rfl⟩
  obtain ⟨wA, hA⟩ : ∃ wX, w.alloc (.cells #[.bool sl, .bool fec, .int .i64 rows, .int .i64 burst, .int .i64 rate, .int .i64 id, .string more] 42) = wX := ⟨_, rfl⟩
  obtain ⟨wB, hB⟩ : ∃ wX, wA.alloc (.cells #[.int .i64 0, .string ⟨#[]⟩] 37) = wX := ⟨_, rfl⟩
  have hz : wA.heap.size = X + 1 := by rw [← hA, World.size_alloc, hX]
  have kA : Keeps w wA := by rw [← hA]; exact (Keeps.refl w).alloc _
  have kB : Keeps wA wB := by rw [← hB]; exact (Keeps.refl wA).alloc _
  have HK := Lib.hid (kA.trans kB)
  have HX := Lib.hid (show CsAt X (slC ⟨sl, fec, rows, burst, rate, id, more⟩) wB from CsAt.keeps (w := wA) (by rw [← hX, ← hA]; exact CsAt.made w #[.bool sl, .bool fec, .int .i64 rows, .int .i64 burst, .int .i64 rate, .int .i64 id, .string more] _ (by simp)) kB)
  have HD := Lib.hid (show CsAns w (X + 1) (dsC zD) wB from ⟨by rw [← hz, ← hB]; exact CsAt.made wA #[.int .i64 0, .string ⟨#[]⟩] _ (by simp), kA.trans kB, by omega⟩)
  have HT := Lib.hid (hT.keeps HK.out)
  have q0 := HX.out.cell 0 rfl
  have q1 := HX.out.cell 1 rfl
  have q2 := HX.out.cell 2 rfl
  have q3 := HX.out.cell 3 rfl
  have q4 := HX.out.cell 4 rfl
  have q5 := HX.out.cell 5 rfl
  have q6 := HX.out.cell 6 rfl
  have HN := Lib.hid (fun W => dnums_any ⟨sl, fec, rows, burst, rate, id, more⟩ hr W)
  obtain ⟨D, hDD⟩ : ∃ D : Int, rows.tdiv 256 = D := ⟨_, rfl⟩
  obtain ⟨B1, hB1⟩ : ∃ D : Nat, bn sl = D := ⟨_, rfl⟩
  obtain ⟨B2, hB2⟩ : ∃ D : Nat, bn fec = D := ⟨_, rfl⟩
  have hns : nsI ⟨sl, fec, rows, burst, rate, id, more⟩ = [(B1 : Int), 0, (B2 : Int), 3, 0, D - 1, burst, rate, id] := by unfold nsI; rw [hDD, hB1, hB2]
  rw [hns] at HN
  have HNS := Lib.hid hns
  have r1 : (rows.tmod 256 != 0) = true := bne_iff_ne.2 h
  clear kA kB hB1 hB2 hT hns
  go_enter Tryd.func19, Tryd.ntmps19
  go_wp2_with (first | (go_at_call 46; refine (HN.out _).mono ?_; rintro _ w1 ⟨rfl, k1⟩; have HK1 := Lib.hid k1; obtain ⟨Y, hY⟩ : ∃ Y, w1.heap.size = Y := ⟨_, rfl⟩; obtain ⟨wC, hC⟩ : ∃ W, w1.alloc (.cells #[.int .i64 0, .int .i64 0, .int .i64 0, .int .i64 0, .int .i64 0, .int .i64 0, .int .i64 0, .int .i64 0, .int .i64 0] 111) = W := ⟨_, rfl⟩; have HC := Lib.hid (show CsAns w1 Y (nC [0, 0, 0, 0, 0, 0, 0, 0, 0]) wC from ⟨by rw [← hY, ← hC]; exact CsAt.made w1 #[.int .i64 0, .int .i64 0, .int .i64 0, .int .i64 0, .int .i64 0, .int .i64 0, .int .i64 0, .int .i64 0, .int .i64 0] _ (by simp), by rw [← hC]; exact (Keeps.refl w1).alloc _, by omega⟩); clear k1 q0 q1 q2 q3 q4 q5 q6) | (refine wp_stN (b := Y) HC.out.z rfl (nC [(B1 : Int), 0, (B2 : Int), 3, 0, D - 1, burst, rate, id]) rfl (nC_one _) rfl _ _ rfl rfl rfl ?_; obtain ⟨wD, hD⟩ : ∃ W, wC.setCells Y 0 (nC [(B1 : Int), 0, (B2 : Int), 3, 0, D - 1, burst, rate, id]) = W := ⟨_, rfl⟩; have hcD := HC.out.ends (nC [(B1 : Int), 0, (B2 : Int), 3, 0, D - 1, burst, rate, id]) rfl; rw [hD] at hcD ⊢; have HCD := Lib.hid hcD; have HKD := Lib.hid (HK1.out.trans hcD.k); have q0 := (HX.out.keeps HKD.out).cell 0 rfl; have q2 := (HX.out.keeps HKD.out).cell 2 rfl; have q6 := (HX.out.keeps HKD.out).cell 6 rfl; have HDD := Lib.hid (HD.out.keeps HKD.out); have HTD := Lib.hid (HT.out.keeps HKD.out); clear hcD hD hC hY) | (refine dwp_stP (b := X + 1) (off := 0) zD (HDD.out.z.there (by decide)) rfl _ _ rfl rfl rfl ?_))
  refine cs_ret2 Tryd.results19 (dlvP (HDD.out.ends (dsC zD) rfl).z.r) rfl rfl rfl ?_
  exact ⟨(by rw [HF.out]; rfl), (HDD.out.ends (dsC zD) rfl).k⟩
set_option maxHeartbeats 3200000 in
theorem dmk_fit (x : Slc) (hr : inI x.rows) (h : x.rows.tmod 256 = 0) (k : ¬ fits wsS (nsI x)) (w : World) (hT : TS w) : Calls Tryd.prog 19 #[slV x] w (DmPost w (mkS x)) := by
  have HF := Lib.hid (mkS_num (fun y : numSl x => k (num_iff.2 y).2))
  obtain ⟨sl, fec, rows, burst, rate, id, more⟩ := x
  simp only at *
  obtain ⟨X, hX⟩ : ∃ X, w.heap.size = X := ⟨_, rfl⟩
  obtain ⟨wA, hA⟩ : ∃ wX, w.alloc (.cells #[.bool sl, .bool fec, .int .i64 rows, .int .i64 burst, .int .i64 rate, .int .i64 id, .string more] 42) = wX := ⟨_, rfl⟩
  obtain ⟨wB, hB⟩ : ∃ wX, wA.alloc (.cells #[.int .i64 0, .string ⟨#[]⟩] 37) = wX := ⟨_, rfl⟩
  have hz : wA.heap.size = X + 1 := by rw [← hA, World.size_alloc, hX]
  have kA : Keeps w wA := by rw [← hA]; exact (Keeps.refl w).alloc _
  have kB : Keeps wA wB := by rw [← hB]; exact (Keeps.refl wA).alloc _
  have HK := Lib.hid (kA.trans kB)
  have HX := Lib.hid (show CsAt X (slC ⟨sl, fec, rows, burst, rate, id, more⟩) wB from CsAt.keeps (w := wA) (by rw [← hX, ← hA]; exact CsAt.made w #[.bool sl, .bool fec, .int .i64 rows, .int .i64 burst, .int .i64 rate, .int .i64 id, .string more] _ (by simp)) kB)
  have HD := Lib.hid (show CsAns w (X + 1) (dsC zD) wB from ⟨by rw [← hz, ← hB]; exact CsAt.made wA #[.int .i64 0, .string ⟨#[]⟩] _ (by simp), kA.trans kB, by omega⟩)
  have HT := Lib.hid (hT.keeps HK.out)
  have q0 := HX.out.cell 0 rfl
  have q1 := HX.out.cell 1 rfl
  have q2 := HX.out.cell 2 rfl
  have q3 := HX.out.cell 3 rfl
  have q4 := HX.out.cell 4 rfl
  have q5 := HX.out.cell 5 rfl
  have q6 := HX.out.cell 6 rfl
  have HN := Lib.hid (fun W => dnums_any ⟨sl, fec, rows, burst, rate, id, more⟩ hr W)
  obtain ⟨D, hDD⟩ : ∃ D : Int, rows.tdiv 256 = D := ⟨_, rfl⟩
  obtain ⟨B1, hB1⟩ : ∃ D : Nat, bn sl = D := ⟨_, rfl⟩
  obtain ⟨B2, hB2⟩ : ∃ D : Nat, bn fec = D := ⟨_, rfl⟩
  have hns : nsI ⟨sl, fec, rows, burst, rate, id, more⟩ = [(B1 : Int), 0, (B2 : Int), 3, 0, D - 1, burst, rate, id] := by unfold nsI; rw [hDD, hB1, hB2]
  rw [hns] at HN
  have HNS := Lib.hid hns
  have r1 : (rows.tmod 256 != 0) = false := by rw [h]; rfl
  have HFI := Lib.hid (fun W => dfit_any (ws := wsS) (ns := [(B1 : Int), 0, (B2 : Int), 3, 0, D - 1, burst, rate, id]) rfl rfl gn_S W)
  rw [decide_eq_false (by rw [← hns]; exact k)] at HFI
  clear kA kB hB1 hB2 hT hns
  go_enter Tryd.func19, Tryd.ntmps19
  go_wp2_with (first | (go_at_call 46; refine (HN.out _).mono ?_; rintro _ w1 ⟨rfl, k1⟩; have HK1 := Lib.hid k1; obtain ⟨Y, hY⟩ : ∃ Y, w1.heap.size = Y := ⟨_, rfl⟩; obtain ⟨wC, hC⟩ : ∃ W, w1.alloc (.cells #[.int .i64 0, .int .i64 0, .int .i64 0, .int .i64 0, .int .i64 0, .int .i64 0, .int .i64 0, .int .i64 0, .int .i64 0] 111) = W := ⟨_, rfl⟩; have HC := Lib.hid (show CsAns w1 Y (nC [0, 0, 0, 0, 0, 0, 0, 0, 0]) wC from ⟨by rw [← hY, ← hC]; exact CsAt.made w1 #[.int .i64 0, .int .i64 0, .int .i64 0, .int .i64 0, .int .i64 0, .int .i64 0, .int .i64 0, .int .i64 0, .int .i64 0] _ (by simp), by rw [← hC]; exact (Keeps.refl w1).alloc _, by omega⟩); clear k1 q0 q1 q2 q3 q4 q5 q6) | (refine wp_stN (b := Y) HC.out.z rfl (nC [(B1 : Int), 0, (B2 : Int), 3, 0, D - 1, burst, rate, id]) rfl (nC_one _) rfl _ _ rfl rfl rfl ?_; obtain ⟨wD, hD⟩ : ∃ W, wC.setCells Y 0 (nC [(B1 : Int), 0, (B2 : Int), 3, 0, D - 1, burst, rate, id]) = W := ⟨_, rfl⟩; have hcD := HC.out.ends (nC [(B1 : Int), 0, (B2 : Int), 3, 0, D - 1, burst, rate, id]) rfl; rw [hD] at hcD ⊢; have HCD := Lib.hid hcD; have HKD := Lib.hid (HK1.out.trans hcD.k); have q0 := (HX.out.keeps HKD.out).cell 0 rfl; have q2 := (HX.out.keeps HKD.out).cell 2 rfl; have q6 := (HX.out.keeps HKD.out).cell 6 rfl; have HDD := Lib.hid (HD.out.keeps HKD.out); have HTD := Lib.hid (HT.out.keeps HKD.out); clear hcD hD hC hY) | (refine dwp_ldG (g := 0) (l := wsS) HTD.out rfl _ rfl rfl ?_) | (refine wp_ldN (b := Y) HCD.out.z rfl rfl _ rfl rfl ?_) | (go_at_call 47; refine (HFI.out wD).mono ?_; rintro _ w2 ⟨rfl, k2⟩; have HK2 := Lib.hid k2; have q6 := ((HX.out.keeps HKD.out).keeps HK2.out).cell 6 rfl; have HD2 := Lib.hid (HDD.out.keeps HK2.out); have HT2 := Lib.hid (HTD.out.keeps HK2.out); have HC2 := Lib.hid (HCD.out.keeps HK2.out); clear k2) | (refine dwp_stP (b := X + 1) (off := 0) zD (HD2.out.z.there (by decide)) rfl _ _ rfl rfl rfl ?_))
  refine cs_ret2 Tryd.results19 (dlvP (HD2.out.ends (dsC zD) rfl).z.r) rfl rfl rfl ?_
  exact ⟨(by rw [HF.out]; rfl), (HD2.out.ends (dsC zD) rfl).k⟩
set_option maxHeartbeats 3200000 in
theorem dmk_long (x : Slc) (hr : inI x.rows) (h : numSl x) (k : 252 < x.more.size) (w : World) (hT : TS w) : Calls Tryd.prog 19 #[slV x] w (DmPost w (mkS x)) := by
  have HF := Lib.hid (mkS_long h k)
  obtain ⟨h1, h2⟩ := num_iff.2 h
  obtain ⟨sl, fec, rows, burst, rate, id, more⟩ := x
  simp only at *
  obtain ⟨X, hX⟩ : ∃ X, w.heap.size = X := ⟨_, rfl⟩
  obtain ⟨wA, hA⟩ : ∃ wX, w.alloc (.cells #[.bool sl, .bool fec, .int .i64 rows, .int .i64 burst, .int .i64 rate, .int .i64 id, .string more] 42) = wX := ⟨_, rfl⟩
  obtain ⟨wB, hB⟩ : ∃ wX, wA.alloc (.cells #[.int .i64 0, .string ⟨#[]⟩] 37) = wX := ⟨_, rfl⟩
  have hz : wA.heap.size = X + 1 := by rw [← hA, World.size_alloc, hX]
  have kA : Keeps w wA := by rw [← hA]; exact (Keeps.refl w).alloc _
  have kB : Keeps wA wB := by rw [← hB]; exact (Keeps.refl wA).alloc _
  have HK := Lib.hid (kA.trans kB)
  have HX := Lib.hid (show CsAt X (slC ⟨sl, fec, rows, burst, rate, id, more⟩) wB from CsAt.keeps (w := wA) (by rw [← hX, ← hA]; exact CsAt.made w #[.bool sl, .bool fec, .int .i64 rows, .int .i64 burst, .int .i64 rate, .int .i64 id, .string more] _ (by simp)) kB)
  have HD := Lib.hid (show CsAns w (X + 1) (dsC zD) wB from ⟨by rw [← hz, ← hB]; exact CsAt.made wA #[.int .i64 0, .string ⟨#[]⟩] _ (by simp), kA.trans kB, by omega⟩)
  have HT := Lib.hid (hT.keeps HK.out)
  have q0 := HX.out.cell 0 rfl
  have q1 := HX.out.cell 1 rfl
  have q2 := HX.out.cell 2 rfl
  have q3 := HX.out.cell 3 rfl
  have q4 := HX.out.cell 4 rfl
  have q5 := HX.out.cell 5 rfl
  have q6 := HX.out.cell 6 rfl
  have HN := Lib.hid (fun W => dnums_any ⟨sl, fec, rows, burst, rate, id, more⟩ hr W)
  obtain ⟨D, hDD⟩ : ∃ D : Int, rows.tdiv 256 = D := ⟨_, rfl⟩
  obtain ⟨B1, hB1⟩ : ∃ D : Nat, bn sl = D := ⟨_, rfl⟩
  obtain ⟨B2, hB2⟩ : ∃ D : Nat, bn fec = D := ⟨_, rfl⟩
  have hns : nsI ⟨sl, fec, rows, burst, rate, id, more⟩ = [(B1 : Int), 0, (B2 : Int), 3, 0, D - 1, burst, rate, id] := by unfold nsI; rw [hDD, hB1, hB2]
  rw [hns] at HN
  have HNS := Lib.hid hns
  have r1 : (rows.tmod 256 != 0) = false := by rw [h1]; rfl
  have HFI := Lib.hid (fun W => dfit_any (ws := wsS) (ns := [(B1 : Int), 0, (B2 : Int), 3, 0, D - 1, burst, rate, id]) rfl rfl gn_S W)
  rw [decide_eq_true (by rw [← hns]; exact h2)] at HFI
  have r2 : (252 : Int) < (more.size : Int) := by omega
  clear h k
  clear kA kB hB1 hB2 hT hns
  go_enter Tryd.func19, Tryd.ntmps19
  go_wp2_with (first | (go_at_call 46; refine (HN.out _).mono ?_; rintro _ w1 ⟨rfl, k1⟩; have HK1 := Lib.hid k1; obtain ⟨Y, hY⟩ : ∃ Y, w1.heap.size = Y := ⟨_, rfl⟩; obtain ⟨wC, hC⟩ : ∃ W, w1.alloc (.cells #[.int .i64 0, .int .i64 0, .int .i64 0, .int .i64 0, .int .i64 0, .int .i64 0, .int .i64 0, .int .i64 0, .int .i64 0] 111) = W := ⟨_, rfl⟩; have HC := Lib.hid (show CsAns w1 Y (nC [0, 0, 0, 0, 0, 0, 0, 0, 0]) wC from ⟨by rw [← hY, ← hC]; exact CsAt.made w1 #[.int .i64 0, .int .i64 0, .int .i64 0, .int .i64 0, .int .i64 0, .int .i64 0, .int .i64 0, .int .i64 0, .int .i64 0] _ (by simp), by rw [← hC]; exact (Keeps.refl w1).alloc _, by omega⟩); clear k1 q0 q1 q2 q3 q4 q5 q6) | (refine wp_stN (b := Y) HC.out.z rfl (nC [(B1 : Int), 0, (B2 : Int), 3, 0, D - 1, burst, rate, id]) rfl (nC_one _) rfl _ _ rfl rfl rfl ?_; obtain ⟨wD, hD⟩ : ∃ W, wC.setCells Y 0 (nC [(B1 : Int), 0, (B2 : Int), 3, 0, D - 1, burst, rate, id]) = W := ⟨_, rfl⟩; have hcD := HC.out.ends (nC [(B1 : Int), 0, (B2 : Int), 3, 0, D - 1, burst, rate, id]) rfl; rw [hD] at hcD ⊢; have HCD := Lib.hid hcD; have HKD := Lib.hid (HK1.out.trans hcD.k); have q0 := (HX.out.keeps HKD.out).cell 0 rfl; have q2 := (HX.out.keeps HKD.out).cell 2 rfl; have q6 := (HX.out.keeps HKD.out).cell 6 rfl; have HDD := Lib.hid (HD.out.keeps HKD.out); have HTD := Lib.hid (HT.out.keeps HKD.out); clear hcD hD hC hY) | (refine dwp_ldG (g := 0) (l := wsS) HTD.out rfl _ rfl rfl ?_) | (refine wp_ldN (b := Y) HCD.out.z rfl rfl _ rfl rfl ?_) | (go_at_call 47; refine (HFI.out wD).mono ?_; rintro _ w2 ⟨rfl, k2⟩; have HK2 := Lib.hid k2; have q6 := ((HX.out.keeps HKD.out).keeps HK2.out).cell 6 rfl; have HD2 := Lib.hid (HDD.out.keeps HK2.out); have HT2 := Lib.hid (HTD.out.keeps HK2.out); have HC2 := Lib.hid (HCD.out.keeps HK2.out); clear k2) | (refine dwp_stP (b := X + 1) (off := 0) zD (HD2.out.z.there (by decide)) rfl _ _ rfl rfl rfl ?_))
  refine cs_ret2 Tryd.results19 (dlvP (HD2.out.ends (dsC zD) rfl).z.r) rfl rfl rfl ?_
  exact ⟨(by rw [HF.out]; rfl), (HD2.out.ends (dsC zD) rfl).k⟩
/-- The bytes of a Slice's numbers. -/
theorem ns_il {x : Slc} (h : numSl x) : nsI x = il [bn x.sl, 0, bn x.fec, 3, 0, x.rows.toNat / 256 - 1, x.burst.toNat, x.rate.toNat, x.id.toNat] := by
  obtain ⟨h1, h2, h3, h4⟩ := h
  unfold okR at h1
  have e5 : x.rows.tdiv 256 - 1 = ((x.rows.toNat / 256 - 1 : Nat) : Int) := by rcases h1 with h | h | h | h <;> rw [h] <;> rfl
  unfold nsI il
  simp only [List.map_cons, List.map_nil]
  rw [e5, show x.burst = Int.ofNat x.burst.toNat by show x.burst = ((x.burst.toNat : Nat) : Int); omega, show x.rate = Int.ofNat x.rate.toNat by show x.rate = ((x.rate.toNat : Nat) : Int); omega, show x.id = Int.ofNat x.id.toNat by show x.id = ((x.id.toNat : Nat) : Int); omega]
  rfl
theorem txS_of {x : Slc} (h : numSl x) : st (txW wsS [bn x.sl, 0, bn x.fec, 3, 0, x.rows.toNat / 256 - 1, x.burst.toNat, x.rate.toNat, x.id.toNat]) ++ x.more = (slD x).body := by
  obtain ⟨h1, h2, h3, h4⟩ := h
  have b0 : bn x.sl < 2 := by unfold bn; split <;> decide
  have b1 : bn x.fec < 2 := by unfold bn; split <;> decide
  unfold okR at h1
  have hR : 1 ≤ x.rows.toNat / 256 ∧ x.rows.toNat / 256 ≤ 4 := by omega
  rw [txS _ _ _ _ _ _ 0 ⟨b0, b1, by omega, by omega, by omega, by omega⟩]
  show _ = st (slB x)
  unfold slB slF
  rw [show 128 * bn x.sl + 32 * bn x.fec + 24 + (x.rows.toNat / 256 - 1) = 128 * bn x.sl + 32 * bn x.fec + 23 + x.rows.toNat / 256 by omega]
  rw [show ([Ds.u8 (128 * bn x.sl + 32 * bn x.fec + 23 + x.rows.toNat / 256), Ds.u8 x.burst.toNat, Ds.u8 (16 * x.rate.toNat + x.id.toNat)] : List UInt8) = [Ds.u8 (128 * bn x.sl + 32 * bn x.fec + 23 + x.rows.toNat / 256), Ds.u8 x.burst.toNat, Ds.u8 (16 * x.rate.toNat + x.id.toNat)] from rfl]
  rw [show st [Ds.u8 (128 * bn x.sl + 32 * bn x.fec + 23 + x.rows.toNat / 256), Ds.u8 x.burst.toNat, Ds.u8 (16 * x.rate.toNat + x.id.toNat)] ++ x.more = st ([Ds.u8 (128 * bn x.sl + 32 * bn x.fec + 23 + x.rows.toNat / 256), Ds.u8 x.burst.toNat, Ds.u8 (16 * x.rate.toNat + x.id.toNat)] ++ ls x.more) by rw [← st_append, st_ls]]
  rfl
set_option maxHeartbeats 3200000 in
theorem dmk_ok (x : Slc) (hr : inI x.rows) (h : numSl x) (k : ¬ 252 < x.more.size) (w : World) (hT : TS w) : Calls Tryd.prog 19 #[slV x] w (DmPost w (mkS x)) := by
  have HF := Lib.hid (mkS_ok (x := x) ⟨h, by omega⟩)
  obtain ⟨h1, h2⟩ := num_iff.2 h
  have hil := ns_il h
  have htx := txS_of h
  obtain ⟨NN, hNN⟩ : ∃ NN, NN = [bn x.sl, 0, bn x.fec, 3, 0, x.rows.toNat / 256 - 1, x.burst.toNat, x.rate.toNat, x.id.toNat] := ⟨_, rfl⟩
  rw [← hNN] at hil htx
  have hNl : NN.length = 9 := by rw [hNN]; rfl
  have hfN : ∀ k, k < 9 → gn NN k < 2 ^ gn wsS k := fun k hk => by
    have := (h2 k hk).2
    rw [hil, gi_il] at this
    exact_mod_cast this
  have hlen : (txW wsS NN).length = 3 := txW_length _ _
  have HTX := Lib.hid (fun W => dwtext_any (ws := wsS) (ns := NN) rfl hNl gn_S hfN rfl (by decide) W)
  rw [← hil] at HTX
  obtain ⟨TX, hTX⟩ : ∃ TX, st (txW wsS NN) = TX := ⟨_, rfl⟩
  have hTz : TX.size = 3 := by rw [← hTX, st_size, hlen]
  rw [hTX] at HTX htx
  have HBD := Lib.hid htx
  clear hNN hil hNl hfN hlen hTX htx
  obtain ⟨sl, fec, rows, burst, rate, id, more⟩ := x
  simp only at *
  obtain ⟨X, hX⟩ : ∃ X, w.heap.size = X := ⟨_, rfl⟩
  obtain ⟨wA, hA⟩ : ∃ wX, w.alloc (.cells #[.bool sl, .bool fec, .int .i64 rows, .int .i64 burst, .int .i64 rate, .int .i64 id, .string more] 42) = wX := ⟨_, rfl⟩
  obtain ⟨wB, hB⟩ : ∃ wX, wA.alloc (.cells #[.int .i64 0, .string ⟨#[]⟩] 37) = wX := ⟨_, rfl⟩
  have hz : wA.heap.size = X + 1 := by rw [← hA, World.size_alloc, hX]
  have kA : Keeps w wA := by rw [← hA]; exact (Keeps.refl w).alloc _
  have kB : Keeps wA wB := by rw [← hB]; exact (Keeps.refl wA).alloc _
  have HK := Lib.hid (kA.trans kB)
  have HX := Lib.hid (show CsAt X (slC ⟨sl, fec, rows, burst, rate, id, more⟩) wB from CsAt.keeps (w := wA) (by rw [← hX, ← hA]; exact CsAt.made w #[.bool sl, .bool fec, .int .i64 rows, .int .i64 burst, .int .i64 rate, .int .i64 id, .string more] _ (by simp)) kB)
  have HD := Lib.hid (show CsAns w (X + 1) (dsC zD) wB from ⟨by rw [← hz, ← hB]; exact CsAt.made wA #[.int .i64 0, .string ⟨#[]⟩] _ (by simp), kA.trans kB, by omega⟩)
  have HT := Lib.hid (hT.keeps HK.out)
  have q0 := HX.out.cell 0 rfl
  have q1 := HX.out.cell 1 rfl
  have q2 := HX.out.cell 2 rfl
  have q3 := HX.out.cell 3 rfl
  have q4 := HX.out.cell 4 rfl
  have q5 := HX.out.cell 5 rfl
  have q6 := HX.out.cell 6 rfl
  have HN := Lib.hid (fun W => dnums_any ⟨sl, fec, rows, burst, rate, id, more⟩ hr W)
  obtain ⟨D, hDD⟩ : ∃ D : Int, rows.tdiv 256 = D := ⟨_, rfl⟩
  obtain ⟨B1, hB1⟩ : ∃ D : Nat, bn sl = D := ⟨_, rfl⟩
  obtain ⟨B2, hB2⟩ : ∃ D : Nat, bn fec = D := ⟨_, rfl⟩
  have hns : nsI ⟨sl, fec, rows, burst, rate, id, more⟩ = [(B1 : Int), 0, (B2 : Int), 3, 0, D - 1, burst, rate, id] := by unfold nsI; rw [hDD, hB1, hB2]
  rw [hns] at HN
  have HNS := Lib.hid hns
  have r1 : (rows.tmod 256 != 0) = false := by rw [h1]; rfl
  have HFI := Lib.hid (fun W => dfit_any (ws := wsS) (ns := [(B1 : Int), 0, (B2 : Int), 3, 0, D - 1, burst, rate, id]) rfl rfl gn_S W)
  rw [decide_eq_true (by rw [← hns]; exact h2)] at HFI
  have r2 : ¬ (252 : Int) < (more.size : Int) := by omega
  rw [hns] at HTX
  obtain ⟨BD, hBD⟩ : ∃ BD, (slD ⟨sl, fec, rows, burst, rate, id, more⟩).body = BD := ⟨_, rfl⟩
  rw [hBD] at HBD
  have HSD := Lib.hid (show slD ⟨sl, fec, rows, burst, rate, id, more⟩ = ⟨119, BD⟩ by rw [← hBD]; rfl)
  have happ := HBD.out
  have hsz : ¬ 9223372036854775807 < TX.size + more.size := by omega
  clear h k hBD hTz
  clear kA kB hB1 hB2 hT hns
  go_enter Tryd.func19, Tryd.ntmps19
  go_wp2_with (first | (go_at_call 46; refine (HN.out _).mono ?_; rintro _ w1 ⟨rfl, k1⟩; have HK1 := Lib.hid k1; obtain ⟨Y, hY⟩ : ∃ Y, w1.heap.size = Y := ⟨_, rfl⟩; obtain ⟨wC, hC⟩ : ∃ W, w1.alloc (.cells #[.int .i64 0, .int .i64 0, .int .i64 0, .int .i64 0, .int .i64 0, .int .i64 0, .int .i64 0, .int .i64 0, .int .i64 0] 111) = W := ⟨_, rfl⟩; have HC := Lib.hid (show CsAns w1 Y (nC [0, 0, 0, 0, 0, 0, 0, 0, 0]) wC from ⟨by rw [← hY, ← hC]; exact CsAt.made w1 #[.int .i64 0, .int .i64 0, .int .i64 0, .int .i64 0, .int .i64 0, .int .i64 0, .int .i64 0, .int .i64 0, .int .i64 0] _ (by simp), by rw [← hC]; exact (Keeps.refl w1).alloc _, by omega⟩); clear k1 q0 q1 q2 q3 q4 q5 q6) | (refine wp_stN (b := Y) HC.out.z rfl (nC [(B1 : Int), 0, (B2 : Int), 3, 0, D - 1, burst, rate, id]) rfl (nC_one _) rfl _ _ rfl rfl rfl ?_; obtain ⟨wD, hD⟩ : ∃ W, wC.setCells Y 0 (nC [(B1 : Int), 0, (B2 : Int), 3, 0, D - 1, burst, rate, id]) = W := ⟨_, rfl⟩; have hcD := HC.out.ends (nC [(B1 : Int), 0, (B2 : Int), 3, 0, D - 1, burst, rate, id]) rfl; rw [hD] at hcD ⊢; have HCD := Lib.hid hcD; have HKD := Lib.hid (HK1.out.trans hcD.k); have q0 := (HX.out.keeps HKD.out).cell 0 rfl; have q2 := (HX.out.keeps HKD.out).cell 2 rfl; have q6 := (HX.out.keeps HKD.out).cell 6 rfl; have HDD := Lib.hid (HD.out.keeps HKD.out); have HTD := Lib.hid (HT.out.keeps HKD.out); clear hcD hD hC hY) | (refine dwp_ldG (g := 0) (l := wsS) HTD.out rfl _ rfl rfl ?_) | (refine wp_ldN (b := Y) HCD.out.z rfl rfl _ rfl rfl ?_) | (go_at_call 47; refine (HFI.out wD).mono ?_; rintro _ w2 ⟨rfl, k2⟩; have HK2 := Lib.hid k2; have q6 := ((HX.out.keeps HKD.out).keeps HK2.out).cell 6 rfl; have HD2 := Lib.hid (HDD.out.keeps HK2.out); have HT2 := Lib.hid (HTD.out.keeps HK2.out); have HC2 := Lib.hid (HCD.out.keeps HK2.out); clear k2))
  refine wp_draw_tail 7 (by kernel_rfl) [nV (il wsS), .agg #[.int .i64 (B1 : Int), .int .i64 0, .int .i64 (B2 : Int), .int .i64 3, .int .i64 0, .int .i64 (D - 1), .int .i64 burst, .int .i64 rate, .int .i64 id], .string TX, .pointer (some ⟨X, 6, none⟩), .string more, .string BD, dsV ⟨119, BD⟩]
    (fun _ W => Keeps w2 W) rfl (by kernel_rfl) (by kernel_rfl) (fin := ?fin0) ?hfin0 ((Keeps.refl w2).eqv (Eqv.drew w2)) ?each0 ?hend0
  case hfin0 => simp [seqA, dstOf, Act.put]; rfl
  case each0 =>
    refine ⟨?_, ?_, ?_, ?_, ?_, ?_, ?_, trivial⟩
    all_goals intro L w5 h0 hd hs hw
    · exact does_load _ _ rfl 0 0 rfl (nC (il wsS)) _ (HT2.out.keeps hw).2 Tryd.underlying113 rfl (by kernel_rfl) ⟨fun _ => rfl, fun _ _ => hw⟩
    · exact does_load _ _ rfl Y 0 rfl (nC [(B1 : Int), 0, (B2 : Int), 3, 0, D - 1, burst, rate, id]) _ (HC2.out.keeps hw).z.r Tryd.underlying111 rfl (by kernel_rfl) ⟨fun _ => rfl, fun _ _ => hw⟩
    all_goals unfold Does
    all_goals have y6 := (((HX.out.keeps HKD.out).keeps HK2.out).keeps hw).cell 6 rfl
    all_goals go_simp
    all_goals first | exact fun L' k => hw | (refine (HTX.out w5).mono ?_; rintro _ w6 ⟨rfl, k6⟩; exact ⟨_, rfl, rfl, fun _ _ => hw.trans k6⟩)
  case hend0 =>
  intro L w5 hL hw
  have HD5 := Lib.hid (HD2.out.keeps hw)
  simp only [List.drop_succ_cons, List.drop_zero]
  clear hw hL
  go_wp2_with (refine dwp_stP (b := X + 1) (off := 0) ⟨119, BD⟩ (HD5.out.z.there (by decide)) rfl _ _ rfl rfl rfl ?_)
  refine cs_ret2 Tryd.results19 (dlvP (s := ⟨119, BD⟩) (HD5.out.ends (dsC ⟨119, BD⟩) rfl).z.r) rfl rfl rfl ?_
  exact ⟨(by rw [HF.out, HSD.out]; rfl), (HD5.out.ends (dsC ⟨119, BD⟩) rfl).k⟩
/-- What Make of a Slice answers. -/
theorem dmk_any (x : Slc) (hr : inI x.rows) (w : World) (hT : TS w) : Calls Tryd.prog 19 #[slV x] w (DmPost w (mkS x)) := by
  by_cases h : x.rows.tmod 256 = 0
  · by_cases k : fits wsS (nsI x)
    · by_cases l : 252 < x.more.size
      · exact dmk_long x hr (num_iff.1 ⟨h, k⟩) l w hT
      · exact dmk_ok x hr (num_iff.1 ⟨h, k⟩) l w hT
    · exact dmk_fit x hr h k w hT
  · exact dmk_rows x hr h w hT
end Go.Proofs.YtlghkdkaifcliaaDoor
