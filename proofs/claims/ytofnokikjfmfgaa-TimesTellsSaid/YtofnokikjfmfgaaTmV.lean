/-
  Times in memory: a struct of four cells; when two are the same; how they are handed in. Of all values.
-/
import Derived.Laws.StructEq
import Derived.Test.YtofnokikjfmfgaaArgs
import Derived.Test.YtofnokikjfmfgaaTmTimes
namespace Go.Proofs.Ytofnokikjfmfgaa
open Go.RowKit Gf Tm
set_option maxRecDepth 100000
abbrev tmC (s : Tms) : List Value := [.int .i64 s.dt, .bool s.tb, .bool s.fr, .int .i64 s.ad]
abbrev tmV (s : Tms) : Value := .agg #[.int .i64 s.dt, .bool s.tb, .bool s.fr, .int .i64 s.ad]
theorem tmC_one (s : Tms) : ∀ u ∈ tmC s, u.oneCell' = true := by
  intro u hu
  simp only [tmC, List.mem_cons, List.not_mem_nil, or_false] at hu
  rcases hu with rfl | rfl | rfl | rfl <;> rfl
/-- Block b holds the times s, which may be written. -/
structure TmAt (b : Nat) (s : Tms) (w : World) : Prop where
  c0 : w.cell? ⟨b, 0, none⟩ = some (.int .i64 s.dt)
  c1 : w.cell? ⟨b, 1, none⟩ = some (.bool s.tb)
  c2 : w.cell? ⟨b, 2, none⟩ = some (.bool s.fr)
  c3 : w.cell? ⟨b, 3, none⟩ = some (.int .i64 s.ad)
  fz : ∀ i, i < 4 → w.frozen? ⟨b, i, none⟩ = false
theorem TmAt.old {b : Nat} {s : Tms} {w : World} (h : TmAt b s w) : b < w.heap.size := by
  obtain ⟨o, ho, _⟩ := cells_of_cell h.c0
  exact (Array.getElem?_eq_some_iff.1 ho).1
theorem TmAt.block {b : Nat} {s : Tms} {w w' : World} (h : TmAt b s w) (hb : w'.heap[b]? = w.heap[b]?) : TmAt b s w' := by
  have kc : ∀ i, w'.cell? ⟨b, i, none⟩ = w.cell? ⟨b, i, none⟩ := fun i => World.cell?_of_block (w := w) (a := ⟨b, i, none⟩) hb
  have kf : ∀ i, w'.frozen? ⟨b, i, none⟩ = w.frozen? ⟨b, i, none⟩ := fun i => World.frozen?_of_block (w := w) (a := ⟨b, i, none⟩) hb
  exact ⟨(kc 0).trans h.c0, (kc 1).trans h.c1, (kc 2).trans h.c2, (kc 3).trans h.c3, fun i hi => (kf i).trans (h.fz i hi)⟩
theorem TmAt.eqv {b : Nat} {s : Tms} {w w' : World} (h : TmAt b s w) (k : Eqv w w') : TmAt b s w' := h.block (by rw [k.heap])
theorem TmAt.keeps {b : Nat} {s : Tms} {w w' : World} (h : TmAt b s w) (k : Keeps w w') : TmAt b s w' := h.block (Below.block k b h.old)
theorem TmAt.only {b c : Nat} {s : Tms} {w w' : World} (h : TmAt b s w) (hn : b ≠ c) (k : Only c w w') : TmAt b s w' := h.block (k.block b h.old hn)
theorem TmAt.made (w : World) (s : Tms) (t : TypeId) : TmAt w.heap.size s (w.alloc (.cells #[.int .i64 s.dt, .bool s.tb, .bool s.fr, .int .i64 s.ad] t)) := by
  constructor
  case fz => exact fun i _ => World.frozen?_alloc_new _ _ _ _
  all_goals (rw [World.cell?_alloc_new]; rfl)
theorem TmAt.range {b : Nat} {s : Tms} {w : World} (h : TmAt b s w) : w.rangeAt b 0 (tmC s) := by
  intro j v hv
  rw [Nat.zero_add]
  match j, hv with
  | 0, hv => cases hv; exact h.c0
  | 1, hv => cases hv; exact h.c1
  | 2, hv => cases hv; exact h.c2
  | 3, hv => cases hv; exact h.c3
  | n + 4, hv => simp [tmC] at hv
theorem TmAt.there {b : Nat} {s : Tms} {w : World} (h : TmAt b s w) : w.there b 0 4 := by
  intro j hj
  rw [Nat.zero_add]
  refine ⟨?_, h.fz j hj⟩
  match j, hj with
  | 0, _ => rw [h.c0]; rfl
  | 1, _ => rw [h.c1]; rfl
  | 2, _ => rw [h.c2]; rfl
  | 3, _ => rw [h.c3]; rfl
theorem TmAt.of {b : Nat} {s : Tms} {w : World} (h : w.rangeAt b 0 (tmC s)) (f : ∀ i, i < 4 → w.frozen? ⟨b, i, none⟩ = false) : TmAt b s w := by
  have k : ∀ j v, (tmC s)[j]? = some v → w.cell? ⟨b, j, none⟩ = some v := fun j v hv => by have := h j v hv; rwa [Nat.zero_add] at this
  exact ⟨k 0 _ rfl, k 1 _ rfl, k 2 _ rfl, k 3 _ rfl, f⟩
theorem TmAt.store {b : Nat} {s : Tms} {w : World} (h : TmAt b s w) (t : Tms) : TmAt b t (w.setCells b 0 (tmC t)) :=
  TmAt.of (World.rangeAt_setCells_same w b 0 (tmC t) h.there) fun i hi => by rw [World.frozen?_setCells]; exact h.fz i hi
theorem TmAt.set0 {b : Nat} {s : Tms} {w : World} (h : TmAt b s w) (x : Int) : TmAt b { s with dt := x } (w.setCell ⟨b, 0, none⟩ (.int .i64 x)) :=
  ⟨set_same h.c0, (set_other (by decide)).trans h.c1, (set_other (by decide)).trans h.c2, (set_other (by decide)).trans h.c3, fun i hi => by simp [h.fz i hi]⟩
theorem TmAt.set1 {b : Nat} {s : Tms} {w : World} (h : TmAt b s w) (x : Bool) : TmAt b { s with tb := x } (w.setCell ⟨b, 1, none⟩ (.bool x)) :=
  ⟨(set_other (by decide)).trans h.c0, set_same h.c1, (set_other (by decide)).trans h.c2, (set_other (by decide)).trans h.c3, fun i hi => by simp [h.fz i hi]⟩
theorem TmAt.set2 {b : Nat} {s : Tms} {w : World} (h : TmAt b s w) (x : Bool) : TmAt b { s with fr := x } (w.setCell ⟨b, 2, none⟩ (.bool x)) :=
  ⟨(set_other (by decide)).trans h.c0, (set_other (by decide)).trans h.c1, set_same h.c2, (set_other (by decide)).trans h.c3, fun i hi => by simp [h.fz i hi]⟩
theorem TmAt.set3 {b : Nat} {s : Tms} {w : World} (h : TmAt b s w) (x : Int) : TmAt b { s with ad := x } (w.setCell ⟨b, 3, none⟩ (.int .i64 x)) :=
  ⟨(set_other (by decide)).trans h.c0, (set_other (by decide)).trans h.c1, (set_other (by decide)).trans h.c2, set_same h.c3, fun i hi => by simp [h.fz i hi]⟩
theorem lvT {w : World} {b : Nat} {s : Tms} (h : TmAt b s w) : (loadVar 34 ⟨b, 0, none⟩).run Try.prog w = .ok (tmV s) w := run_loadVar_mid (P := Try.prog) w b 0 _ (tmC s) _ h.range Try.underlying34 rfl (by kernel_rfl)
theorem ldT {w : World} {b o : Nat} {s : Tms} (h : w.rangeAt b o (tmC s)) : (Instr.loadAt 34 (.pointer (some ⟨b, o, none⟩))).run Try.prog w = .ok (tmV s) w := run_loadAt_mid (P := Try.prog) w b o _ (tmC s) _ h Try.underlying34 rfl (by kernel_rfl)
theorem wp_ldT {ops : Array Oper} {rest : List Oper} {o : Oper} {a : Act} {w : World} {Q : Exit → Act → World → Prop} {b off : Nat} {s : Tms} (h : w.rangeAt b off (tmC s)) (hgd : o.guard = none) (x : Operand) (ho : o.op = .load 34 x)
    (hx : a.eval x = .pointer (some ⟨b, off, none⟩)) (k : wpList Try.prog ops Q rest (a.put o.dst (tmV s)) w) : wpList Try.prog ops Q (o :: rest) a w :=
  wpList_load_mid hgd _ x ho b off hx (tmC s) _ h Try.underlying34 rfl (by kernel_rfl) k
theorem wp_stT {ops : Array Oper} {rest : List Oper} {o : Oper} {a : Act} {w : World} {Q : Exit → Act → World → Prop} {b off : Nat} (s : Tms) (h : w.there b off 4) (hgd : o.guard = none) (x y : Operand) (ho : o.op = .store 34 x y)
    (hx : a.eval x = .pointer (some ⟨b, off, none⟩)) (hy : a.eval y = tmV s) (k : wpList Try.prog ops Q rest (a.put o.dst undef) (w.setCells b off (tmC s))) : wpList Try.prog ops Q (o :: rest) a w :=
  wpList_store_mid hgd _ x y ho b off (tmC s).toArray hx hy h (by kernel_rfl) (all_oneCell_toArray (tmC_one s)) k
/-- Are two times the same? -/
def sameT (a b : Tms) : Bool := a.dt == b.dt && a.tb == b.tb && a.fr == b.fr && a.ad == b.ad
theorem sameT_iff {a b : Tms} : sameT a b = true ↔ a = b := by
  constructor
  · intro h
    unfold sameT at h
    simp only [Bool.and_eq_true, beq_iff_eq, and_assoc] at h
    obtain ⟨h1, h2, h3, h4⟩ := h
    exact tms_ext h1 h2 h3 h4
  · rintro rfl
    unfold sameT
    simp
theorem sameT_self (a : Tms) : sameT a a = true := sameT_iff.2 rfl
theorem sameT_no {a b : Tms} (h : a ≠ b) : sameT a b = false := by
  cases e : sameT a b with
  | false => rfl
  | true => exact absurd (sameT_iff.1 e) h
section
variable {a b : Tms} {w : World}
theorem eqT0 : (Op.equalIn 10000 34 (tmV a) (tmV b)).run Try.prog w = .ok (sameT a b) w := by
  have u1 := Try.underlying3
  have u2 := Try.underlying4
  have a1 := Try.isAgg3
  have a2 := Try.isAgg4
  have hS : Try.prog.underlying 34 = some (.struct (Try.prog.fieldsOf 34)) := by kernel_rfl
  have hp : Try.prog.stoodInHeld 34 = false := by kernel_rfl
  rw [show (10000 : Nat) = 9999 + 1 from rfl, run_equalIn_agg w 9999 _ _ _ hS hp]
  simp only [Program.fieldsOf, Try.underlying34]
  unfold sameT
  go_simp
  by_cases h1 : a.dt = b.dt <;> by_cases h2 : a.tb = b.tb <;> by_cases h3 : a.fr = b.fr <;> by_cases h4 : a.ad = b.ad <;> simp [h1, h2, h3, h4]
theorem eqT : (binOp .eql 34 (tmV a) (tmV b)).run Try.prog w = .ok (.bool (sameT a b)) w := by rw [run_eql_struct, eqT0]; rfl
theorem neT : (binOp .neq 34 (tmV a) (tmV b)).run Try.prog w = .ok (.bool (!sameT a b)) w := by rw [run_neq_struct, eqT0]; rfl
theorem egT : Try.prog.eqGuardType Try.prog.depth 34 = false := by kernel_rfl
end
theorem four_of {α : Type} {l : List α} (h : l.length = 4) : ∃ a b c d, l = [a, b, c, d] := by
  match l, h with
  | [a, b, c, d], _ => exact ⟨a, b, c, d, rfl⟩
/-- Times that are handed in. -/
theorem open_tms {H : Type} {enc : TypeId × Value → H} {W : World} {r : Reach} {b0 base : Nat} {spare : Nat → Bool} {held : Bool} {v : Value} {d : DataW H} {p : List MemPlace}
    (hv : Value.okWide Try.prog W r b0 34 v) (h : DataW.Trod enc Try.prog W base spare held 34 v d p) : ∃ s : Tms, v = tmV s := by
  obtain ⟨cs, rfl, hsz, _⟩ : ∃ cs, v = .agg cs ∧ cs.size = Try.prog.cellsOf 34 ∧ Row.okWide Try.prog W r b0 34 cs := by
    simpa [Value.okWide, Try.underlying34] using hv
  obtain ⟨l⟩ := cs
  obtain ⟨fuel, hf⟩ := h
  obtain ⟨xs, m, _, _, hl, hx, hi⟩ := DataW.trod_struct Try.underlying34 hf
  have c8 : Try.prog.cellsOf 34 = 4 := by kernel_rfl
  have ci : Try.prog.cellsOf 3 = 1 := by kernel_rfl
  have cb : Try.prog.cellsOf 4 = 1 := by kernel_rfl
  rw [c8] at hl
  obtain ⟨v0, v1, v2, v3, hl2⟩ := four_of hl
  obtain ⟨y0, y1, y2, y3, rfl⟩ := four_of (show xs.length = 4 from hx)
  subst hl2
  have h0 := hi 0 _ rfl
  have h1 := hi 1 _ rfl
  have h2 := hi 2 _ rfl
  have h3 := hi 3 _ rfl
  simp [ci, cb] at h0 h1 h2 h3
  obtain ⟨x0, e0, _⟩ := DataW.trod_int Try.underlying3 h0
  obtain ⟨x1, e1, _⟩ := DataW.trod_bool Try.underlying4 h1
  obtain ⟨x2, e2, _⟩ := DataW.trod_bool Try.underlying4 h2
  obtain ⟨x3, e3, _⟩ := DataW.trod_int Try.underlying3 h3
  obtain rfl : v0 = .int .i64 x0 := List.head_eq_of_cons_eq (show [v0] = [Value.int .i64 x0] from e0)
  obtain rfl : v1 = .bool x1 := List.head_eq_of_cons_eq (show [v1] = [Value.bool x1] from e1)
  obtain rfl : v2 = .bool x2 := List.head_eq_of_cons_eq (show [v2] = [Value.bool x2] from e2)
  obtain rfl : v3 = .int .i64 x3 := List.head_eq_of_cons_eq (show [v3] = [Value.int .i64 x3] from e3)
  exact ⟨⟨x0, x1, x2, x3⟩, rfl⟩
end Go.Proofs.Ytofnokikjfmfgaa
