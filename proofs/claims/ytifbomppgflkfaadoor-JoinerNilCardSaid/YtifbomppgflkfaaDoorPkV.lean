/-
  Packets in memory: how one is loaded, stored, compared; Plain. The memory that was there stays.
-/
import Derived.Test.YtifbomppgflkfaaDoorCell
import Derived.Test.YtifbomppgflkfaaDoorPkMath
namespace Go.Proofs.YtifbomppgflkfaaDoor
open Go.RowKit Gf Pk
set_option maxRecDepth 100000
abbrev pkC (p : Pkt) : List Value := [.int .i64 p.pid, .bool p.start, .int .i64 p.count, .bool p.bad, .string p.body]
abbrev pkV (p : Pkt) : Value := .agg #[.int .i64 p.pid, .bool p.start, .int .i64 p.count, .bool p.bad, .string p.body]
theorem pkC_one (s : Pkt) : ∀ u ∈ pkC s, u.oneCell' = true := by
  intro u hu
  simp only [pkC, List.mem_cons, List.not_mem_nil, or_false] at hu
  rcases hu with rfl | rfl | rfl | rfl | rfl <;> rfl
/-- Are two packets the same? -/
def sameP (a b : Pkt) : Bool := a.pid == b.pid && a.start == b.start && a.count == b.count && a.bad == b.bad && a.body.toList == b.body.toList
theorem sameP_iff {a b : Pkt} : sameP a b = true ↔ a = b := by
  constructor
  · intro h
    unfold sameP at h
    simp only [Bool.and_eq_true, beq_iff_eq, and_assoc] at h
    obtain ⟨h1, h2, h3, h4, h5⟩ := h
    exact pkt_ext h1 h2 h3 h4 (by rw [← ls_toList, ← ls_toList]; exact h5)
  · rintro rfl
    unfold sameP
    simp
theorem sameP_self (a : Pkt) : sameP a a = true := sameP_iff.2 rfl
theorem sameP_no {a b : Pkt} (h : a ≠ b) : sameP a b = false := by
  cases e : sameP a b with
  | false => rfl
  | true => exact absurd (sameP_iff.1 e) h
theorem lvP {w : World} {b : Nat} {s : Pkt} (h : w.rangeAt b 0 (pkC s)) : (loadVar 32 ⟨b, 0, none⟩).run Tryd.prog w = .ok (pkV s) w := run_loadVar_mid (P := Tryd.prog) w b 0 _ (pkC s) _ h Tryd.underlying32 rfl (by kernel_rfl)
theorem ldP {w : World} {b o : Nat} {s : Pkt} (h : w.rangeAt b o (pkC s)) : (Instr.loadAt 32 (.pointer (some ⟨b, o, none⟩))).run Tryd.prog w = .ok (pkV s) w := run_loadAt_mid (P := Tryd.prog) w b o _ (pkC s) _ h Tryd.underlying32 rfl (by kernel_rfl)
theorem wp_ldP {ops : Array Oper} {rest : List Oper} {o : Oper} {a : Act} {w : World} {Q : Exit → Act → World → Prop} {b off : Nat} {s : Pkt} (h : w.rangeAt b off (pkC s)) (hgd : o.guard = none) (x : Operand) (ho : o.op = .load 32 x)
    (hx : a.eval x = .pointer (some ⟨b, off, none⟩)) (k : wpList Tryd.prog ops Q rest (a.put o.dst (pkV s)) w) : wpList Tryd.prog ops Q (o :: rest) a w :=
  wpList_load_mid hgd _ x ho b off hx (pkC s) _ h Tryd.underlying32 rfl (by kernel_rfl) k
theorem wp_stP {ops : Array Oper} {rest : List Oper} {o : Oper} {a : Act} {w : World} {Q : Exit → Act → World → Prop} {b off : Nat} (s : Pkt) (h : w.there b off 5) (hgd : o.guard = none) (x y : Operand) (ho : o.op = .store 32 x y)
    (hx : a.eval x = .pointer (some ⟨b, off, none⟩)) (hy : a.eval y = pkV s) (k : wpList Tryd.prog ops Q rest (a.put o.dst undef) (w.setCells b off (pkC s))) : wpList Tryd.prog ops Q (o :: rest) a w :=
  wpList_store_mid hgd _ x y ho b off (pkC s).toArray hx hy h (by kernel_rfl) (all_oneCell_toArray (pkC_one s)) k
theorem eqPd (a b : Pkt) (w : World) (d : Nat) : (Op.equalIn (d + 1 + 1) 32 (pkV a) (pkV b)).run Tryd.prog w = .ok (sameP a b) w := by
  have u1 := Tryd.underlying3
  have u2 := Tryd.underlying4
  have u3 := Tryd.underlying9
  have a1 := Tryd.isAgg3
  have a2 := Tryd.isAgg4
  have a3 := Tryd.isAgg9
  have hS : Tryd.prog.underlying 32 = some (.struct (Tryd.prog.fieldsOf 32)) := by kernel_rfl
  have hp : Tryd.prog.stoodInHeld 32 = false := by kernel_rfl
  rw [run_equalIn_agg w (d + 1) _ _ _ hS hp]
  simp only [Program.fieldsOf, Tryd.underlying32]
  unfold sameP
  go_simp
  by_cases h1 : a.pid = b.pid <;> by_cases h2 : a.start = b.start <;> by_cases h3 : a.count = b.count <;> by_cases h4 : a.bad = b.bad <;> by_cases h5 : a.body.toList = b.body.toList <;> simp [h1, h2, h3, h4, h5]
theorem eqP (a b : Pkt) (w : World) : (binOp .eql 32 (pkV a) (pkV b)).run Tryd.prog w = .ok (.bool (sameP a b)) w := by rw [run_eql_struct, show (10000 : Nat) = 9998 + 1 + 1 from rfl, eqPd]; rfl
theorem neP (a b : Pkt) (w : World) : (binOp .neq 32 (pkV a) (pkV b)).run Tryd.prog w = .ok (.bool (!sameP a b)) w := by rw [run_neq_struct, show (10000 : Nat) = 9998 + 1 + 1 from rfl, eqPd]; rfl
theorem egP : Tryd.prog.eqGuardType Tryd.prog.depth 32 = false := by kernel_rfl
theorem lvQ {w : World} {b : Nat} {s : Pkt} (h : w.rangeAt b 0 (pkC s)) : (loadVar 37 ⟨b, 0, none⟩).run Tryd.prog w = .ok (pkV s) w := run_loadVar_mid (P := Tryd.prog) w b 0 _ (pkC s) _ h Tryd.underlying37 rfl (by kernel_rfl)
theorem ldQ {w : World} {b o : Nat} {s : Pkt} (h : w.rangeAt b o (pkC s)) : (Instr.loadAt 37 (.pointer (some ⟨b, o, none⟩))).run Tryd.prog w = .ok (pkV s) w := run_loadAt_mid (P := Tryd.prog) w b o _ (pkC s) _ h Tryd.underlying37 rfl (by kernel_rfl)
theorem wp_ldQ {ops : Array Oper} {rest : List Oper} {o : Oper} {a : Act} {w : World} {Q : Exit → Act → World → Prop} {b off : Nat} {s : Pkt} (h : w.rangeAt b off (pkC s)) (hgd : o.guard = none) (x : Operand) (ho : o.op = .load 37 x)
    (hx : a.eval x = .pointer (some ⟨b, off, none⟩)) (k : wpList Tryd.prog ops Q rest (a.put o.dst (pkV s)) w) : wpList Tryd.prog ops Q (o :: rest) a w :=
  wpList_load_mid hgd _ x ho b off hx (pkC s) _ h Tryd.underlying37 rfl (by kernel_rfl) k
theorem wp_stQ {ops : Array Oper} {rest : List Oper} {o : Oper} {a : Act} {w : World} {Q : Exit → Act → World → Prop} {b off : Nat} (s : Pkt) (h : w.there b off 5) (hgd : o.guard = none) (x y : Operand) (ho : o.op = .store 37 x y)
    (hx : a.eval x = .pointer (some ⟨b, off, none⟩)) (hy : a.eval y = pkV s) (k : wpList Tryd.prog ops Q rest (a.put o.dst undef) (w.setCells b off (pkC s))) : wpList Tryd.prog ops Q (o :: rest) a w :=
  wpList_store_mid hgd _ x y ho b off (pkC s).toArray hx hy h (by kernel_rfl) (all_oneCell_toArray (pkC_one s)) k
theorem eqQd (a b : Pkt) (w : World) (d : Nat) : (Op.equalIn (d + 1 + 1) 37 (pkV a) (pkV b)).run Tryd.prog w = .ok (sameP a b) w := by
  have u1 := Tryd.underlying3
  have u2 := Tryd.underlying4
  have u3 := Tryd.underlying9
  have a1 := Tryd.isAgg3
  have a2 := Tryd.isAgg4
  have a3 := Tryd.isAgg9
  have hS : Tryd.prog.underlying 37 = some (.struct (Tryd.prog.fieldsOf 37)) := by kernel_rfl
  have hp : Tryd.prog.stoodInHeld 37 = false := by kernel_rfl
  rw [run_equalIn_agg w (d + 1) _ _ _ hS hp]
  simp only [Program.fieldsOf, Tryd.underlying37]
  unfold sameP
  go_simp
  by_cases h1 : a.pid = b.pid <;> by_cases h2 : a.start = b.start <;> by_cases h3 : a.count = b.count <;> by_cases h4 : a.bad = b.bad <;> by_cases h5 : a.body.toList = b.body.toList <;> simp [h1, h2, h3, h4, h5]
theorem eqQ (a b : Pkt) (w : World) : (binOp .eql 37 (pkV a) (pkV b)).run Tryd.prog w = .ok (.bool (sameP a b)) w := by rw [run_eql_struct, show (10000 : Nat) = 9998 + 1 + 1 from rfl, eqQd]; rfl
theorem neQ (a b : Pkt) (w : World) : (binOp .neq 37 (pkV a) (pkV b)).run Tryd.prog w = .ok (.bool (!sameP a b)) w := by rw [run_neq_struct, show (10000 : Nat) = 9998 + 1 + 1 from rfl, eqQd]; rfl
theorem egQ : Tryd.prog.eqGuardType Tryd.prog.depth 37 = false := by kernel_rfl
theorem pkplain_any (p : Pkt) (w : World) : Calls Tryd.prog 12 #[pkV p] w fun e w' => e = .returned (pkV p) ∧ Keeps w w' := by
  obtain ⟨b, hb⟩ : ∃ b, w.heap.size = b := ⟨_, rfl⟩
  obtain ⟨pid, start, count, bad, body⟩ := p
  go_enter Tryd.func12, Tryd.ntmps12
  go_wp2
  have E := CsAt.made (w.alloc (.cells #[.int .i64 pid, .bool start, .int .i64 count, .bool bad, .string body] 32)) #[.int .i64 pid, .bool start, .int .i64 count, .bool bad, .string body] 37 (by simp)
  refine cs_ret Tryd.results12 (lvQ (s := ⟨pid, start, count, bad, body⟩) E.r) ?_ rfl ⟨rfl, ((Keeps.refl w).alloc _).alloc _⟩
  rw [World.size_alloc, hb]; rfl
end Go.Proofs.YtifbomppgflkfaaDoor
