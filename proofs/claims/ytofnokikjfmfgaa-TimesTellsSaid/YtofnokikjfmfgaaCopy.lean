/-
  The builtin copy, from a text and from a row of bytes: what it writes. For all lengths.
-/
import Derived.Test.YtofnokikjfmfgaaBas
import Derived.Lib.LazyBuf
namespace Go.Proofs.Ytofnokikjfmfgaa
open Go.RowKit Gf
set_option maxRecDepth 100000
theorem Does.copy {P : Program} {o : Oper} {ρ : Operand → Value} {w : World} {R : Value → World → Prop} (d s : Operand) (ats : Array TypeId) (ho : o.op = Op.call { callee := Callee.builtin Builtin.copy, args := #[d, s], argTypes := ats }) {ty : TypeId} (hty : o.type = ty)
    {vd vs v : Value} {w' : World} (hd : ρ d = vd) (hs : ρ s = vs) (hrun : (Builtin.copy_ ats ty #[vd, vs]).run P w = .ok v w') (h : R v w') : Does P o ρ w R := by
  unfold Does
  have e : (execOp ρ o).run P w = .ok (.value v) w' := by
    unfold execOp
    simp [ho, resolve, invoke, builtin, hd, hs, hty, hrun, Result.andThen]
  rw [e]; exact h
theorem _root_.Go.RowKit.Below.eqvL {B : Nat} {w w' w'' : World} (h : Below B w' w'') (e : Eqv w w') : Below B w w'' :=
  ⟨h.os.trans e.os, h.tape.trans e.tape, h.output.trans e.output, by rw [← e.heap]; exact h.size, fun k hk => (h.block k hk).trans (by rw [e.heap])⟩
/-- Bytes that are written over others. -/
theorem Blk.put {b : Nat} {l : List UInt8} {w : World} (h : Blk b l w) (o : Nat) (vs l' : List UInt8) (ho : o + vs.length ≤ l.length) (hl : l'.length = l.length) (hc : ∀ i, i < l.length → cf l' i = if o ≤ i ∧ i < o + vs.length then cf vs (i - o) else cf l i) :
    Blk b l' (w.setCells b o (vs.map B)) := by
  refine ⟨Nat.lt_of_lt_of_le h.old (only_setCells b _ o w).size, fun i hi => ?_, fun i hi => ?_⟩
  · rw [hl] at hi
    rw [hc i hi]
    by_cases e : o ≤ i ∧ i < o + vs.length
    · rw [if_pos e]
      have hj : i - o < (vs.map B).length := by rw [List.length_map]; omega
      have h2 := World.cell?_setCells_in b (vs.map B) o w (fun j hj => by
        rw [List.length_map] at hj
        rw [h.cell (o + j) (by omega)]; rfl) (i - o) hj
      rw [show o + (i - o) = i by omega, List.getElem_map] at h2
      rw [h2, cf_lt (by omega)]; rfl
    · rw [if_neg e, World.cell?_setCells_out b _ _ _ _ (fun _ _ => by
        rw [List.length_map]
        show i < o ∨ o + vs.length ≤ i
        omega)]
      exact h.cell i hi
  · rw [hl] at hi
    rw [World.frozen?_setCells]; exact h.free i hi
theorem size8 : ∀ w, (Go.sizeOf 5).run Try.prog w = .ok 1 w := Try.sizeOf5
/-- 'copy(row, s)', s a string: as many bytes as there is room for. -/
theorem copy_str {b o dLen dCap cnt : Nat} {w : World} {t : ByteArray} (hn : Nat.min t.size dLen = cnt) (ht : w.there b o cnt) (ty : TypeId) :
    (Builtin.copy_ #[44, 9] ty #[.slice (some ⟨b, o, none⟩) dLen dCap, .string t]).run Try.prog w = .ok (.int .i64 (cnt : Int)) (w.setCells b o (((ls t).take cnt).map B)) := by
  have hl : ((ls t).take cnt).length = cnt := by rw [List.length_take, ← ls_size, ← hn]; exact Nat.min_eq_left (Nat.min_le_left _ _)
  have hst := run_storeCells_cells (P := Try.prog) b o (((ls t).take cnt).map B) 0 w (by rw [List.length_map, hl]; intro j hj; rw [Nat.add_zero]; exact (ht j hj).1) (by rw [List.length_map, hl]; intro j hj; rw [Nat.add_zero]; exact (ht j hj).2) (by
    intro v hv
    obtain ⟨x, _, rfl⟩ := List.mem_map.1 hv
    rfl)
  have e : List.take cnt (List.map (fun b => Value.int IntKind.u8 (b.toNat : Int)) t.data.toList) = ((ls t).take cnt).map B := by rw [List.map_take]; rfl
  simp [Builtin.copy_, run_underlying Try.underlying44, Builtin.lenOf, Builtin.firstCells, hn]
  rw [e]
  simp only [List.map_take] at hst ⊢
  simp at hst
  rw [hst]
  simp [goInt]
/-- 'copy(row, from)': as many bytes as there are in both. -/
theorem copy_row {b o dLen dCap c p sLen sCap : Nat} {w : World} {l : List UInt8} (hn : l.length = Nat.min sLen dLen) (hs : ∀ j, j < l.length → w.cell? ⟨c, p + j, none⟩ = some (B (cf l j))) (ht : w.there b o l.length) (ty : TypeId) :
    (Builtin.copy_ #[44, 44] ty #[.slice (some ⟨b, o, none⟩) dLen dCap, .slice (some ⟨c, p, none⟩) sLen sCap]).run Try.prog w = .ok (.int .i64 (l.length : Int)) (w.setCells b o (l.map B)) := by
  have hm : (l.map B).length = l.length := List.length_map _
  have hz : (Try.prog.info? 5).map (·.size) = some 1 := by kernel_rfl
  have e := run_copy_cells (P := Try.prog) w 44 44 ty 5 b o dLen dCap ⟨c, p, none⟩ sLen sCap (l.map B) Try.underlying44 hz (by rw [hm]; exact hn) (by
    intro j v hj
    have hlt : j < l.length := by rw [← hm]; exact (List.getElem?_eq_some_iff.1 hj).1
    rw [Addr.add_mid, hs j hlt, ← hj, List.getElem?_map, List.getElem?_eq_getElem hlt, cf_lt hlt]
    rfl) (by rw [hm]; intro j hj; exact (ht j hj).1) (by rw [hm]; intro j hj; exact (ht j hj).2) (by
    intro v hv
    obtain ⟨x, _, rfl⟩ := List.mem_map.1 hv
    rfl)
  rw [hm] at e
  rw [e]; rfl
end Go.Proofs.Ytofnokikjfmfgaa
