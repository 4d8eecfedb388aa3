/-
  Sections in memory: a struct of eight cells, of the program's type and of the document's; rows of them; when two are the same. Of all values.
-/
import Derived.Laws.StructEq
import Derived.Test.YtofnokikjfmfgaaRowM
import Derived.Test.YtofnokikjfmfgaaScMath
namespace Go.Proofs.Ytofnokikjfmfgaa
open Go.RowKit Gf Sct
set_option maxRecDepth 100000
/-- A section's cells, and the struct. -/
abbrev secC (s : Sec) : List Value := [.int .i64 s.tb, .bool s.pv, .int .i64 s.ex, .int .i64 s.ver, .bool s.nw, .int .i64 s.num, .int .i64 s.la, .string s.body]
abbrev secV (s : Sec) : Value := .agg #[.int .i64 s.tb, .bool s.pv, .int .i64 s.ex, .int .i64 s.ver, .bool s.nw, .int .i64 s.num, .int .i64 s.la, .string s.body]
theorem secC_one (s : Sec) : ∀ u ∈ secC s, u.oneCell' = true := by
  intro u hu
  simp only [secC, List.mem_cons, List.not_mem_nil, or_false] at hu
  rcases hu with rfl | rfl | rfl | rfl | rfl | rfl | rfl | rfl <;> rfl
def secT : RowT Sec where
  E := 29
  S := 24
  sz := 8
  bs := 72
  z := secV zs
  enc := secC
  und := Try.underlying24
  info := by kernel_rfl
  zs := rfl
  pos := by decide
  small := by decide
  len := fun _ => rfl
  one := secC_one
/-- Block b holds the section s, which may be written. -/
structure SecAt (b : Nat) (s : Sec) (w : World) : Prop where
  c0 : w.cell? ⟨b, 0, none⟩ = some (.int .i64 s.tb)
  c1 : w.cell? ⟨b, 1, none⟩ = some (.bool s.pv)
  c2 : w.cell? ⟨b, 2, none⟩ = some (.int .i64 s.ex)
  c3 : w.cell? ⟨b, 3, none⟩ = some (.int .i64 s.ver)
  c4 : w.cell? ⟨b, 4, none⟩ = some (.bool s.nw)
  c5 : w.cell? ⟨b, 5, none⟩ = some (.int .i64 s.num)
  c6 : w.cell? ⟨b, 6, none⟩ = some (.int .i64 s.la)
  c7 : w.cell? ⟨b, 7, none⟩ = some (.string s.body)
  fz : ∀ i, i < 8 → w.frozen? ⟨b, i, none⟩ = false
theorem SecAt.old {b : Nat} {s : Sec} {w : World} (h : SecAt b s w) : b < w.heap.size := by
  obtain ⟨o, ho, _⟩ := cells_of_cell h.c0
  exact (Array.getElem?_eq_some_iff.1 ho).1
theorem SecAt.block {b : Nat} {s : Sec} {w w' : World} (h : SecAt b s w) (hb : w'.heap[b]? = w.heap[b]?) : SecAt b s w' := by
  have kc : ∀ i, w'.cell? ⟨b, i, none⟩ = w.cell? ⟨b, i, none⟩ := fun i => World.cell?_of_block (w := w) (a := ⟨b, i, none⟩) hb
  have kf : ∀ i, w'.frozen? ⟨b, i, none⟩ = w.frozen? ⟨b, i, none⟩ := fun i => World.frozen?_of_block (w := w) (a := ⟨b, i, none⟩) hb
  exact ⟨(kc 0).trans h.c0, (kc 1).trans h.c1, (kc 2).trans h.c2, (kc 3).trans h.c3, (kc 4).trans h.c4, (kc 5).trans h.c5, (kc 6).trans h.c6, (kc 7).trans h.c7, fun i hi => (kf i).trans (h.fz i hi)⟩
theorem SecAt.eqv {b : Nat} {s : Sec} {w w' : World} (h : SecAt b s w) (k : Eqv w w') : SecAt b s w' := h.block (by rw [k.heap])
theorem SecAt.keeps {b : Nat} {s : Sec} {w w' : World} (h : SecAt b s w) (k : Keeps w w') : SecAt b s w' := h.block (Below.block k b h.old)
theorem SecAt.only {b c : Nat} {s : Sec} {w w' : World} (h : SecAt b s w) (hn : b ≠ c) (k : Only c w w') : SecAt b s w' := h.block (k.block b h.old hn)
theorem SecAt.made (w : World) (s : Sec) (t : TypeId) : SecAt w.heap.size s (w.alloc (.cells #[.int .i64 s.tb, .bool s.pv, .int .i64 s.ex, .int .i64 s.ver, .bool s.nw, .int .i64 s.num, .int .i64 s.la, .string s.body] t)) := by
  constructor
  case fz => exact fun i _ => World.frozen?_alloc_new _ _ _ _
  all_goals (rw [World.cell?_alloc_new]; rfl)
theorem SecAt.range {b : Nat} {s : Sec} {w : World} (h : SecAt b s w) : w.rangeAt b 0 (secC s) := by
  intro j v hv
  rw [Nat.zero_add]
  match j, hv with
  | 0, hv => cases hv; exact h.c0
  | 1, hv => cases hv; exact h.c1
  | 2, hv => cases hv; exact h.c2
  | 3, hv => cases hv; exact h.c3
  | 4, hv => cases hv; exact h.c4
  | 5, hv => cases hv; exact h.c5
  | 6, hv => cases hv; exact h.c6
  | 7, hv => cases hv; exact h.c7
  | _ + 8, hv => simp at hv
theorem SecAt.there {b : Nat} {s : Sec} {w : World} (h : SecAt b s w) : w.there b 0 8 := by
  intro j hj
  rw [Nat.zero_add]
  refine ⟨?_, h.fz j hj⟩
  have : j = 0 ∨ j = 1 ∨ j = 2 ∨ j = 3 ∨ j = 4 ∨ j = 5 ∨ j = 6 ∨ j = 7 := by omega
  rcases this with rfl | rfl | rfl | rfl | rfl | rfl | rfl | rfl
  · rw [h.c0]; rfl
  · rw [h.c1]; rfl
  · rw [h.c2]; rfl
  · rw [h.c3]; rfl
  · rw [h.c4]; rfl
  · rw [h.c5]; rfl
  · rw [h.c6]; rfl
  · rw [h.c7]; rfl
theorem SecAt.of {b : Nat} {s : Sec} {w : World} (h : w.rangeAt b 0 (secC s)) (f : ∀ i, i < 8 → w.frozen? ⟨b, i, none⟩ = false) : SecAt b s w := by
  have k : ∀ j v, (secC s)[j]? = some v → w.cell? ⟨b, j, none⟩ = some v := fun j v hv => by have := h j v hv; rwa [Nat.zero_add] at this
  exact ⟨k 0 _ rfl, k 1 _ rfl, k 2 _ rfl, k 3 _ rfl, k 4 _ rfl, k 5 _ rfl, k 6 _ rfl, k 7 _ rfl, f⟩
/-- The whole struct is written. -/
theorem SecAt.store {b : Nat} {s : Sec} {w : World} (h : SecAt b s w) (t : Sec) : SecAt b t (w.setCells b 0 (secC t)) :=
  SecAt.of (World.rangeAt_setCells_same w b 0 (secC t) h.there) fun i hi => by rw [World.frozen?_setCells]; exact h.fz i hi
/-- One cell is written. -/
theorem SecAt.set0 {b : Nat} {s : Sec} {w : World} (h : SecAt b s w) (x : Int) : SecAt b { s with tb := x } (w.setCell ⟨b, 0, none⟩ (.int .i64 x)) :=
  ⟨set_same h.c0, (set_other (by decide)).trans h.c1, (set_other (by decide)).trans h.c2, (set_other (by decide)).trans h.c3, (set_other (by decide)).trans h.c4, (set_other (by decide)).trans h.c5, (set_other (by decide)).trans h.c6, (set_other (by decide)).trans h.c7, fun i hi => by simp [h.fz i hi]⟩
theorem SecAt.set1 {b : Nat} {s : Sec} {w : World} (h : SecAt b s w) (x : Bool) : SecAt b { s with pv := x } (w.setCell ⟨b, 1, none⟩ (.bool x)) :=
  ⟨(set_other (by decide)).trans h.c0, set_same h.c1, (set_other (by decide)).trans h.c2, (set_other (by decide)).trans h.c3, (set_other (by decide)).trans h.c4, (set_other (by decide)).trans h.c5, (set_other (by decide)).trans h.c6, (set_other (by decide)).trans h.c7, fun i hi => by simp [h.fz i hi]⟩
theorem SecAt.set2 {b : Nat} {s : Sec} {w : World} (h : SecAt b s w) (x : Int) : SecAt b { s with ex := x } (w.setCell ⟨b, 2, none⟩ (.int .i64 x)) :=
  ⟨(set_other (by decide)).trans h.c0, (set_other (by decide)).trans h.c1, set_same h.c2, (set_other (by decide)).trans h.c3, (set_other (by decide)).trans h.c4, (set_other (by decide)).trans h.c5, (set_other (by decide)).trans h.c6, (set_other (by decide)).trans h.c7, fun i hi => by simp [h.fz i hi]⟩
theorem SecAt.set3 {b : Nat} {s : Sec} {w : World} (h : SecAt b s w) (x : Int) : SecAt b { s with ver := x } (w.setCell ⟨b, 3, none⟩ (.int .i64 x)) :=
  ⟨(set_other (by decide)).trans h.c0, (set_other (by decide)).trans h.c1, (set_other (by decide)).trans h.c2, set_same h.c3, (set_other (by decide)).trans h.c4, (set_other (by decide)).trans h.c5, (set_other (by decide)).trans h.c6, (set_other (by decide)).trans h.c7, fun i hi => by simp [h.fz i hi]⟩
theorem SecAt.set4 {b : Nat} {s : Sec} {w : World} (h : SecAt b s w) (x : Bool) : SecAt b { s with nw := x } (w.setCell ⟨b, 4, none⟩ (.bool x)) :=
  ⟨(set_other (by decide)).trans h.c0, (set_other (by decide)).trans h.c1, (set_other (by decide)).trans h.c2, (set_other (by decide)).trans h.c3, set_same h.c4, (set_other (by decide)).trans h.c5, (set_other (by decide)).trans h.c6, (set_other (by decide)).trans h.c7, fun i hi => by simp [h.fz i hi]⟩
theorem SecAt.set5 {b : Nat} {s : Sec} {w : World} (h : SecAt b s w) (x : Int) : SecAt b { s with num := x } (w.setCell ⟨b, 5, none⟩ (.int .i64 x)) :=
  ⟨(set_other (by decide)).trans h.c0, (set_other (by decide)).trans h.c1, (set_other (by decide)).trans h.c2, (set_other (by decide)).trans h.c3, (set_other (by decide)).trans h.c4, set_same h.c5, (set_other (by decide)).trans h.c6, (set_other (by decide)).trans h.c7, fun i hi => by simp [h.fz i hi]⟩
theorem SecAt.set6 {b : Nat} {s : Sec} {w : World} (h : SecAt b s w) (x : Int) : SecAt b { s with la := x } (w.setCell ⟨b, 6, none⟩ (.int .i64 x)) :=
  ⟨(set_other (by decide)).trans h.c0, (set_other (by decide)).trans h.c1, (set_other (by decide)).trans h.c2, (set_other (by decide)).trans h.c3, (set_other (by decide)).trans h.c4, (set_other (by decide)).trans h.c5, set_same h.c6, (set_other (by decide)).trans h.c7, fun i hi => by simp [h.fz i hi]⟩
theorem SecAt.set7 {b : Nat} {s : Sec} {w : World} (h : SecAt b s w) (x : ByteArray) : SecAt b { s with body := x } (w.setCell ⟨b, 7, none⟩ (.string x)) :=
  ⟨(set_other (by decide)).trans h.c0, (set_other (by decide)).trans h.c1, (set_other (by decide)).trans h.c2, (set_other (by decide)).trans h.c3, (set_other (by decide)).trans h.c4, (set_other (by decide)).trans h.c5, (set_other (by decide)).trans h.c6, set_same h.c7, fun i hi => by simp [h.fz i hi]⟩
/-- Of a range of eight cells each one is read. -/
theorem range_cells {b o : Nat} {s : Sec} {w : World} (h : w.rangeAt b o (secC s)) : w.cell? ⟨b, o, none⟩ = some (.int .i64 s.tb) ∧ w.cell? ⟨b, o + 1, none⟩ = some (.bool s.pv) ∧ w.cell? ⟨b, o + 2, none⟩ = some (.int .i64 s.ex) ∧ w.cell? ⟨b, o + 3, none⟩ = some (.int .i64 s.ver) ∧ w.cell? ⟨b, o + 4, none⟩ = some (.bool s.nw) ∧ w.cell? ⟨b, o + 5, none⟩ = some (.int .i64 s.num) ∧ w.cell? ⟨b, o + 6, none⟩ = some (.int .i64 s.la) ∧ w.cell? ⟨b, o + 7, none⟩ = some (.string s.body) :=
  ⟨h 0 _ rfl, h 1 _ rfl, h 2 _ rfl, h 3 _ rfl, h 4 _ rfl, h 5 _ rfl, h 6 _ rfl, h 7 _ rfl⟩
/-- The struct is loaded whole. -/
theorem ldS {w : World} {b o : Nat} {s : Sec} (h : w.rangeAt b o (secC s)) : (Instr.loadAt 29 (.pointer (some ⟨b, o, none⟩))).run Try.prog w = .ok (secV s) w := run_loadAt_mid (P := Try.prog) w b o _ (secC s) _ h Try.underlying29 rfl (by kernel_rfl)
/-- The struct is stored whole. -/
theorem stS {w : World} {b o : Nat} (s : Sec) (h : w.there b o 8) : (Instr.storeAt 29 (.pointer (some ⟨b, o, none⟩)) (secV s)).run Try.prog w = .ok () (w.setCells b o (secC s)) := run_storeAt_mid (P := Try.prog) w b o _ (secC s).toArray h (by kernel_rfl) (all_oneCell_toArray (secC_one s))
/-- As the walk meets them. -/
theorem wp_ldS {ops : Array Oper} {rest : List Oper} {o : Oper} {a : Act} {w : World} {Q : Exit → Act → World → Prop} {b off : Nat} {s : Sec} (h : w.rangeAt b off (secC s)) (hgd : o.guard = none) (x : Operand) (ho : o.op = .load 29 x)
    (hx : a.eval x = .pointer (some ⟨b, off, none⟩)) (k : wpList Try.prog ops Q rest (a.put o.dst (secV s)) w) : wpList Try.prog ops Q (o :: rest) a w :=
  wpList_load_mid hgd _ x ho b off hx (secC s) _ h Try.underlying29 rfl (by kernel_rfl) k
theorem wp_stS {ops : Array Oper} {rest : List Oper} {o : Oper} {a : Act} {w : World} {Q : Exit → Act → World → Prop} {b off : Nat} (s : Sec) (h : w.there b off 8) (hgd : o.guard = none) (x y : Operand) (ho : o.op = .store 29 x y)
    (hx : a.eval x = .pointer (some ⟨b, off, none⟩)) (hy : a.eval y = secV s) (k : wpList Try.prog ops Q rest (a.put o.dst undef) (w.setCells b off (secC s))) : wpList Try.prog ops Q (o :: rest) a w :=
  wpList_store_mid hgd _ x y ho b off (secC s).toArray hx hy h (by kernel_rfl) (all_oneCell_toArray (secC_one s)) k
/-- Are two sections the same? -/
def sameB (a b : Sec) : Bool := a.tb == b.tb && a.pv == b.pv && a.ex == b.ex && a.ver == b.ver && a.nw == b.nw && a.num == b.num && a.la == b.la && a.body.toList == b.body.toList
theorem sameB_iff {a b : Sec} : sameB a b = true ↔ a = b := by
  constructor
  · intro h
    unfold sameB at h
    simp only [Bool.and_eq_true, beq_iff_eq, and_assoc] at h
    obtain ⟨h1, h2, h3, h4, h5, h6, h7, h8⟩ := h
    exact sec_ext h1 h2 h3 h4 h5 h6 h7 (by rw [← ls_toList, ← ls_toList]; exact h8)
  · rintro rfl; simp [sameB]
section
variable (a b : Sec) (w : World)
theorem eqS0 : (Op.equalIn 10000 29 (secV a) (secV b)).run Try.prog w = .ok (sameB a b) w := by
  have u1 := Try.underlying3
  have u2 := Try.underlying4
  have u3 := Try.underlying9
  have a1 := Try.isAgg3
  have a2 := Try.isAgg4
  have a3 := Try.isAgg9
  have hS : Try.prog.underlying 29 = some (.struct (Try.prog.fieldsOf 29)) := by kernel_rfl
  have hp : Try.prog.stoodInHeld 29 = false := by kernel_rfl
  rw [show (10000 : Nat) = 9999 + 1 from rfl, run_equalIn_agg w 9999 _ _ _ hS hp]
  simp only [Program.fieldsOf, Try.underlying29]
  unfold sameB
  go_simp
  by_cases h1 : a.tb = b.tb <;> by_cases h2 : a.pv = b.pv <;> by_cases h3 : a.ex = b.ex <;> by_cases h4 : a.ver = b.ver <;> by_cases h5 : a.nw = b.nw <;> by_cases h6 : a.num = b.num <;> by_cases h7 : a.la = b.la <;> by_cases h8 : a.body.toList = b.body.toList <;> simp [h1, h2, h3, h4, h5, h6, h7, h8]
/-- '==' and '!=' of two sections. -/
theorem eqS : (binOp .eql 29 (secV a) (secV b)).run Try.prog w = .ok (.bool (sameB a b)) w := by rw [run_eql_struct, eqS0]; rfl
theorem neS : (binOp .neq 29 (secV a) (secV b)).run Try.prog w = .ok (.bool (!sameB a b)) w := by rw [run_neq_struct, eqS0]; rfl
theorem egS : Try.prog.eqGuardType Try.prog.depth 29 = false := by kernel_rfl
end
end Go.Proofs.Ytofnokikjfmfgaa
