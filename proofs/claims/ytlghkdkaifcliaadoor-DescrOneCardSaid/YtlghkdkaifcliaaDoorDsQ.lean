/-
  Descriptors, Slices and Places of package descr compared, loaded and stored whole. No function of the program.
-/
import Derived.Test.YtlghkdkaifcliaaDoorDsC
namespace Go.Proofs.YtlghkdkaifcliaaDoor
open Go.RowKit Gf Ds
set_option maxRecDepth 100000
set_option linter.unusedVariables false
set_option linter.unusedSimpArgs false
abbrev plC (x : Plc) : List Value := [.int .i64 x.a, .int .i64 x.b, .int .i64 x.c, .int .i64 x.d, .int .i64 x.t]
abbrev plV (x : Plc) : Value := .agg #[.int .i64 x.a, .int .i64 x.b, .int .i64 x.c, .int .i64 x.d, .int .i64 x.t]
theorem plC_one (s : Plc) : ∀ u ∈ plC s, u.oneCell' = true := by
  intro u hu
  simp only [plC, List.mem_cons, List.not_mem_nil, or_false] at hu
  rcases hu with rfl | rfl | rfl | rfl | rfl <;> rfl
theorem plc_ext {a b : Plc} (h1 : a.a = b.a) (h2 : a.b = b.b) (h3 : a.c = b.c) (h4 : a.d = b.d) (h5 : a.t = b.t) : a = b := by
  obtain ⟨a1, a2, a3, a4, a5⟩ := a
  obtain ⟨b1, b2, b3, b4, b5⟩ := b
  simp only at h1 h2 h3 h4 h5
  subst h1 h2 h3 h4 h5; rfl
def sameDd (a b : Dsc) : Bool := a.tag == b.tag && a.body.toList == b.body.toList
theorem sameDd_self (a : Dsc) : sameDd a a = true := by unfold sameDd; simp
theorem sameDd_eq {a b : Dsc} (h : sameDd a b = true) : a = b := by
  unfold sameDd at h
  simp only [Bool.and_eq_true, beq_iff_eq, and_assoc] at h
  obtain ⟨h0, h1⟩ := h
  exact dsc_ext h0 (by rw [← ls_toList, ← ls_toList]; exact h1)
theorem sameDd_iff {a b : Dsc} : sameDd a b = true ↔ a = b := ⟨sameDd_eq, fun h => by rw [h]; exact sameDd_self b⟩
theorem sameDd_no {a b : Dsc} (h : a ≠ b) : sameDd a b = false := by
  cases e : sameDd a b with
  | false => rfl
  | true => exact absurd (sameDd_eq e) h
theorem dqDd (a b : Dsc) (w : World) (d : Nat) : (Op.equalIn (d + 1 + 1) 37 (dsV a) (dsV b)).run Tryd.prog w = .ok (sameDd a b) w := by
  have u1 := Tryd.underlying3
  have u2 := Tryd.underlying4
  have u3 := Tryd.underlying9
  have a1 := Tryd.isAgg3
  have a2 := Tryd.isAgg4
  have a3 := Tryd.isAgg9
  have hS : Tryd.prog.underlying 37 = some (.struct (Tryd.prog.fieldsOf 37)) := by kernel_rfl
  have hp : Tryd.prog.stoodInHeld 37 = false := by kernel_rfl
  rw [run_equalIn_agg w (d + 1) _ _ _ hS hp]
  simp only [Program.fieldsOf, Tryd.underlying37]
  unfold sameDd
  go_simp
  by_cases h0 : a.tag = b.tag <;> by_cases h1 : a.body.toList = b.body.toList <;> simp [h0, h1]
theorem eqdDd (a b : Dsc) (w : World) : (binOp .eql 37 (dsV a) (dsV b)).run Tryd.prog w = .ok (.bool (sameDd a b)) w := by rw [run_eql_struct, show (10000 : Nat) = 9998 + 1 + 1 from rfl, dqDd]; rfl
theorem nedDd (a b : Dsc) (w : World) : (binOp .neq 37 (dsV a) (dsV b)).run Tryd.prog w = .ok (.bool (!sameDd a b)) w := by rw [run_neq_struct, show (10000 : Nat) = 9998 + 1 + 1 from rfl, dqDd]; rfl
theorem egdDd : Tryd.prog.eqGuardType Tryd.prog.depth 37 = false := by kernel_rfl
def sameSl (a b : Slc) : Bool := a.sl == b.sl && a.fec == b.fec && a.rows == b.rows && a.burst == b.burst && a.rate == b.rate && a.id == b.id && a.more.toList == b.more.toList
theorem sameSl_self (a : Slc) : sameSl a a = true := by unfold sameSl; simp
theorem sameSl_eq {a b : Slc} (h : sameSl a b = true) : a = b := by
  unfold sameSl at h
  simp only [Bool.and_eq_true, beq_iff_eq, and_assoc] at h
  obtain ⟨h0, h1, h2, h3, h4, h5, h6⟩ := h
  exact slc_ext h0 h1 h2 h3 h4 h5 (by rw [← ls_toList, ← ls_toList]; exact h6)
theorem sameSl_iff {a b : Slc} : sameSl a b = true ↔ a = b := ⟨sameSl_eq, fun h => by rw [h]; exact sameSl_self b⟩
theorem sameSl_no {a b : Slc} (h : a ≠ b) : sameSl a b = false := by
  cases e : sameSl a b with
  | false => rfl
  | true => exact absurd (sameSl_eq e) h
theorem dqSl (a b : Slc) (w : World) (d : Nat) : (Op.equalIn (d + 1 + 1) 42 (slV a) (slV b)).run Tryd.prog w = .ok (sameSl a b) w := by
  have u1 := Tryd.underlying3
  have u2 := Tryd.underlying4
  have u3 := Tryd.underlying9
  have a1 := Tryd.isAgg3
  have a2 := Tryd.isAgg4
  have a3 := Tryd.isAgg9
  have hS : Tryd.prog.underlying 42 = some (.struct (Tryd.prog.fieldsOf 42)) := by kernel_rfl
  have hp : Tryd.prog.stoodInHeld 42 = false := by kernel_rfl
  rw [run_equalIn_agg w (d + 1) _ _ _ hS hp]
  simp only [Program.fieldsOf, Tryd.underlying42]
  unfold sameSl
  go_simp
  by_cases h0 : a.sl = b.sl <;> by_cases h1 : a.fec = b.fec <;> by_cases h2 : a.rows = b.rows <;> by_cases h3 : a.burst = b.burst <;> by_cases h4 : a.rate = b.rate <;> by_cases h5 : a.id = b.id <;> by_cases h6 : a.more.toList = b.more.toList <;> simp [h0, h1, h2, h3, h4, h5, h6]
theorem eqdSl (a b : Slc) (w : World) : (binOp .eql 42 (slV a) (slV b)).run Tryd.prog w = .ok (.bool (sameSl a b)) w := by rw [run_eql_struct, show (10000 : Nat) = 9998 + 1 + 1 from rfl, dqSl]; rfl
theorem nedSl (a b : Slc) (w : World) : (binOp .neq 42 (slV a) (slV b)).run Tryd.prog w = .ok (.bool (!sameSl a b)) w := by rw [run_neq_struct, show (10000 : Nat) = 9998 + 1 + 1 from rfl, dqSl]; rfl
theorem egdSl : Tryd.prog.eqGuardType Tryd.prog.depth 42 = false := by kernel_rfl
def samePl (a b : Plc) : Bool := a.a == b.a && a.b == b.b && a.c == b.c && a.d == b.d && a.t == b.t
theorem samePl_self (a : Plc) : samePl a a = true := by unfold samePl; simp
theorem samePl_eq {a b : Plc} (h : samePl a b = true) : a = b := by
  unfold samePl at h
  simp only [Bool.and_eq_true, beq_iff_eq, and_assoc] at h
  obtain ⟨h0, h1, h2, h3, h4⟩ := h
  exact plc_ext h0 h1 h2 h3 h4
theorem samePl_iff {a b : Plc} : samePl a b = true ↔ a = b := ⟨samePl_eq, fun h => by rw [h]; exact samePl_self b⟩
theorem samePl_no {a b : Plc} (h : a ≠ b) : samePl a b = false := by
  cases e : samePl a b with
  | false => rfl
  | true => exact absurd (samePl_eq e) h
theorem dqPl (a b : Plc) (w : World) (d : Nat) : (Op.equalIn (d + 1 + 1) 55 (plV a) (plV b)).run Tryd.prog w = .ok (samePl a b) w := by
  have u1 := Tryd.underlying3
  have u2 := Tryd.underlying4
  have u3 := Tryd.underlying9
  have a1 := Tryd.isAgg3
  have a2 := Tryd.isAgg4
  have a3 := Tryd.isAgg9
  have hS : Tryd.prog.underlying 55 = some (.struct (Tryd.prog.fieldsOf 55)) := by kernel_rfl
  have hp : Tryd.prog.stoodInHeld 55 = false := by kernel_rfl
  rw [run_equalIn_agg w (d + 1) _ _ _ hS hp]
  simp only [Program.fieldsOf, Tryd.underlying55]
  unfold samePl
  go_simp
  by_cases h0 : a.a = b.a <;> by_cases h1 : a.b = b.b <;> by_cases h2 : a.c = b.c <;> by_cases h3 : a.d = b.d <;> by_cases h4 : a.t = b.t <;> simp [h0, h1, h2, h3, h4]
theorem eqdPl (a b : Plc) (w : World) : (binOp .eql 55 (plV a) (plV b)).run Tryd.prog w = .ok (.bool (samePl a b)) w := by rw [run_eql_struct, show (10000 : Nat) = 9998 + 1 + 1 from rfl, dqPl]; rfl
theorem nedPl (a b : Plc) (w : World) : (binOp .neq 55 (plV a) (plV b)).run Tryd.prog w = .ok (.bool (!samePl a b)) w := by rw [run_neq_struct, show (10000 : Nat) = 9998 + 1 + 1 from rfl, dqPl]; rfl
theorem egdPl : Tryd.prog.eqGuardType Tryd.prog.depth 55 = false := by kernel_rfl
theorem dlvSl {w : World} {b : Nat} {s : Slc} (h : w.rangeAt b 0 (slC s)) : (loadVar 42 ⟨b, 0, none⟩).run Tryd.prog w = .ok (slV s) w := run_loadVar_mid (P := Tryd.prog) w b 0 _ (slC s) _ h Tryd.underlying42 rfl (by kernel_rfl)
theorem dwp_ldSl {ops : Array Oper} {rest : List Oper} {o : Oper} {a : Act} {w : World} {Q : Exit → Act → World → Prop} {b off : Nat} {s : Slc} (h : w.rangeAt b off (slC s)) (hgd : o.guard = none) (x : Operand) (ho : o.op = .load 42 x)
    (hx : a.eval x = .pointer (some ⟨b, off, none⟩)) (k : wpList Tryd.prog ops Q rest (a.put o.dst (slV s)) w) : wpList Tryd.prog ops Q (o :: rest) a w :=
  wpList_load_mid hgd _ x ho b off hx (slC s) _ h Tryd.underlying42 rfl (by kernel_rfl) k
theorem dwp_stSl {ops : Array Oper} {rest : List Oper} {o : Oper} {a : Act} {w : World} {Q : Exit → Act → World → Prop} {b off : Nat} (s : Slc) (h : w.there b off 7) (hgd : o.guard = none) (x y : Operand) (ho : o.op = .store 42 x y)
    (hx : a.eval x = .pointer (some ⟨b, off, none⟩)) (hy : a.eval y = slV s) (k : wpList Tryd.prog ops Q rest (a.put o.dst undef) (w.setCells b off (slC s))) : wpList Tryd.prog ops Q (o :: rest) a w :=
  wpList_store_mid hgd _ x y ho b off (slC s).toArray hx hy h (by kernel_rfl) (all_oneCell_toArray (slC_one s)) k
theorem dlvPl {w : World} {b : Nat} {s : Plc} (h : w.rangeAt b 0 (plC s)) : (loadVar 55 ⟨b, 0, none⟩).run Tryd.prog w = .ok (plV s) w := run_loadVar_mid (P := Tryd.prog) w b 0 _ (plC s) _ h Tryd.underlying55 rfl (by kernel_rfl)
theorem dwp_ldPl {ops : Array Oper} {rest : List Oper} {o : Oper} {a : Act} {w : World} {Q : Exit → Act → World → Prop} {b off : Nat} {s : Plc} (h : w.rangeAt b off (plC s)) (hgd : o.guard = none) (x : Operand) (ho : o.op = .load 55 x)
    (hx : a.eval x = .pointer (some ⟨b, off, none⟩)) (k : wpList Tryd.prog ops Q rest (a.put o.dst (plV s)) w) : wpList Tryd.prog ops Q (o :: rest) a w :=
  wpList_load_mid hgd _ x ho b off hx (plC s) _ h Tryd.underlying55 rfl (by kernel_rfl) k
theorem dwp_stPl {ops : Array Oper} {rest : List Oper} {o : Oper} {a : Act} {w : World} {Q : Exit → Act → World → Prop} {b off : Nat} (s : Plc) (h : w.there b off 5) (hgd : o.guard = none) (x y : Operand) (ho : o.op = .store 55 x y)
    (hx : a.eval x = .pointer (some ⟨b, off, none⟩)) (hy : a.eval y = plV s) (k : wpList Tryd.prog ops Q rest (a.put o.dst undef) (w.setCells b off (plC s))) : wpList Tryd.prog ops Q (o :: rest) a w :=
  wpList_store_mid hgd _ x y ho b off (plC s).toArray hx hy h (by kernel_rfl) (all_oneCell_toArray (plC_one s)) k
end Go.Proofs.YtlghkdkaifcliaaDoor
