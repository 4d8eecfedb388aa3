/-
  What may turn in a call: only the blocks of a set, and new ones. No function of the program.
-/
import Derived.Lib.AppendStr
import Derived.Test.YtlghkdkaifcliaaDoorCell
namespace Go.Proofs.YtlghkdkaifcliaaDoor
open Go.RowKit Gf
set_option maxRecDepth 100000
/-- Nothing that was there in w has turned but blocks of S. -/
structure Foot (S : Nat → Prop) (w w' : World) : Prop where
  os : w'.os = w.os
  tape : w'.tape = w.tape
  output : w'.output = w.output
  size : w.heap.size ≤ w'.heap.size
  block : ∀ k, k < w.heap.size → ¬ S k → w'.heap[k]? = w.heap[k]?
/-- S' has grown out of S by blocks that are new since w. -/
def Grew (S S' : Nat → Prop) (w : World) : Prop := ∀ k, S' k → S k ∨ w.heap.size ≤ k
section
variable {S S' S'' T : Nat → Prop} {w0 w w' w'' : World}
theorem Foot.refl (S : Nat → Prop) (w : World) : Foot S w w := ⟨rfl, rfl, rfl, Nat.le_refl _, fun _ _ _ => rfl⟩
theorem Foot.trans (h : Foot S w w') (g : Grew S S' w) (k : Foot S' w' w'') : Foot S w w'' :=
  ⟨k.os.trans h.os, k.tape.trans h.tape, k.output.trans h.output, Nat.le_trans h.size k.size, fun i hi hn => (k.block i (Nat.lt_of_lt_of_le hi h.size) fun x => by
    rcases g i x with y | y
    · exact hn y
    · omega).trans (h.block i hi hn)⟩
theorem Foot.same (h : Foot S w w') (k : Foot S w' w'') : Foot S w w'' := h.trans (fun _ x => .inl x) k
theorem Grew.refl (S : Nat → Prop) (w : World) : Grew S S w := fun _ x => .inl x
theorem Grew.trans (g : Grew S S' w) (h : w.heap.size ≤ w'.heap.size) (k : Grew S' S'' w') : Grew S S'' w := fun i x => by
  rcases k i x with y | y
  · exact g i y
  · exact .inr (by omega)
theorem Foot.mono (h : Foot S w w') (k : ∀ i, S i → T i) : Foot T w w' := ⟨h.os, h.tape, h.output, h.size, fun i hi hn => h.block i hi fun x => hn (k i x)⟩
theorem Foot.keeps (h : Foot S w w') (hk : Keeps w0 w) (hs : ∀ k, S k → w0.heap.size ≤ k) : Keeps w0 w' :=
  Below.trans hk ⟨h.os, h.tape, h.output, h.size, fun k hlt => h.block k (Nat.lt_of_lt_of_le hlt (Below.size hk)) fun x => by have := hs k x; omega⟩
theorem Keeps.foot (h : Keeps w w') (S : Nat → Prop) : Foot S w w' := ⟨h.os, h.tape, h.output, h.size, fun k hk _ => h.block k hk⟩
theorem Only.foot {b : Nat} (h : Only b w w') (hb : S b) : Foot S w w' := ⟨h.os, h.tape, h.output, h.size, fun k hk hn => h.block k hk fun e => hn (e ▸ hb)⟩
theorem Foot.eqv (h : Eqv w w') : Foot S w w' := ⟨h.os, h.tape, h.output, by rw [h.heap]; exact Nat.le_refl _, fun _ _ _ => by rw [h.heap]⟩
theorem Foot.alloc (S : Nat → Prop) (w : World) (o : Obj) : Foot S w (w.alloc o) := ⟨rfl, rfl, rfl, by simp, fun k hk _ => Below.heap_alloc w o k hk⟩
theorem Foot.grown {row : Option Nat} (h : w.grownBy w' row) (hr : ∀ r, row = some r → S r) : Foot S w w' :=
  ⟨h.os, h.tape, h.output, h.size, fun k hk hn => h.block k hk fun e => hn (hr k e.symm)⟩
theorem Foot.setCell {p : Addr} {v : Value} (h : S p.block) : Foot S w (w.setCell p v) := (Only.setCell w p v).foot h
theorem Foot.setCells {b o : Nat} {vs : List Value} (h : S b) : Foot S w (w.setCells b o vs) := (only_setCells b vs o w).foot h
theorem CsAt.foot {b : Nat} {cs : List Value} (h : CsAt b cs w) (k : Foot S w w') (hn : ¬ S b) : CsAt b cs w' := h.block (k.block b h.old hn)
theorem Blk.foot {b : Nat} {l : List UInt8} (h : Blk b l w) (k : Foot S w w') (hn : ¬ S b) : Blk b l w' := by
  have e := k.block b h.old hn
  exact ⟨Nat.lt_of_lt_of_le h.old k.size, fun i hi => (World.cell?_of_block (w := w) (a := ⟨b, i, none⟩) e).trans (h.cell i hi), fun i hi => (World.frozen?_of_block (w := w) (a := ⟨b, i, none⟩) e).trans (h.free i hi)⟩
theorem OwnE.foot {α : Type} {T : RowT α} {base : Nat} {v : Value} {l : List α} (h : OwnE T w base v l) (k : Foot S w w') (hn : ∀ g, v.ownBlock = some g → ¬ S g) : OwnE T w' base v l :=
  h.at fun g hg => k.block g (h.old hg) (hn g hg)
theorem Own.at {base : Nat} {v : Value} {l : List UInt8} (h : Own w base v l) (k : ∀ g, v.ownBlock = some g → w'.heap[g]? = w.heap[g]?) : Own w' base v l := by
  obtain ⟨hl, h⟩ := h
  refine ⟨hl, ?_⟩
  rcases h with h | ⟨g, cap, cur, hv, hb, hh, h5⟩
  · exact .inl h
  · exact .inr ⟨g, cap, cur, hv, hb, (k g (by rw [hv]; rfl)).trans hh, h5⟩
theorem Own.foot {base : Nat} {v : Value} {l : List UInt8} (h : Own w base v l) (k : Foot S w w') (hn : ∀ g, v.ownBlock = some g → ¬ S g) : Own w' base v l :=
  h.at fun g hg => k.block g (h.old hg) (hn g hg)
theorem IsT.foot {a : Option Addr} {len : Nat} {l : List (List UInt8)} (h : IsT w a len l) (k : Foot S w w') (hn : ∀ p, a = some p → ¬ S p.block) : IsT w' a len l :=
  ⟨h.1, fun h0 => by
    obtain ⟨b, off, ha, hb, hc⟩ := h.2 h0
    exact ⟨b, off, ha, Nat.lt_of_lt_of_le hb k.size, fun i hi => (World.cell?_of_block (w := w) (a := ⟨b, off + i, none⟩) (k.block b hb (hn _ ha))).trans (hc i hi)⟩⟩
theorem IsE.foot {α : Type} {T : RowT α} {a : Option Addr} {len : Nat} {l : List α} (h : IsE T w a len l) (k : Foot S w w') (hn : ∀ p, a = some p → ¬ S p.block) : IsE T w' a len l :=
  ⟨h.1, fun h0 => by
    obtain ⟨b, off, ha, hb, hc⟩ := h.2 h0
    exact ⟨b, off, ha, Nat.lt_of_lt_of_le hb k.size, fun i u hu => (World.cell?_of_block (w := w) (a := ⟨b, off + i, none⟩) (k.block b hb (hn _ ha))).trans (hc i u hu)⟩⟩
/-- What stays apart from S stays apart from what S grows into. -/
theorem Grew.apart (g : Grew S S' w) (h : ∀ k, T k → ¬ S k) (ho : ∀ k, T k → k < w.heap.size) : ∀ k, T k → ¬ S' k := fun k hk x => by
  rcases g k x with y | y
  · exact h k hk y
  · have := ho k hk; omega
theorem Grew.above {n : Nat} (g : Grew S S' w) (h : ∀ k, S k → n ≤ k) (hn : n ≤ w.heap.size) : ∀ k, S' k → n ≤ k := fun k x => by
  rcases g k x with y | y
  · exact h k y
  · omega
end
section
variable {α : Type} {T : RowT α}
/-- 'append(v, x...)', as an operation of a region that draws its order. -/
theorem Does.cat {o : Oper} {ρ : Operand → Value} {w : World} {R : Value → World → Prop} (s x : Operand) (ho : o.op = .call { callee := .builtin .append, args := #[s, x], argTypes := #[T.S, T.S] }) {base : Nat} {v : Value} {l L : List α} (hown : OwnE T w base v l)
    {ax : Option Addr} {n c : Nat} (hs : ρ s = v) (hx : ρ x = .slice ax n c) (hI : IsE T w ax n L) (h0 : L ≠ []) (hl : l.length + L.length ≤ 1000000000) (hb : base ≤ w.heap.size)
    (h : ∀ v' w', OwnE T w' base v' (l ++ L) → w.grownBy w' v.ownBlock → (v'.ownBlock = v.ownBlock ∨ v'.ownBlock = some w.heap.size) → R v' w') : Does Tryd.prog o ρ w R := by
  obtain ⟨i0, hi, hz0, hz1, hz2⟩ := info_parts T.info
  obtain ⟨hn, hc⟩ := hI
  obtain ⟨b, off, rfl, hbb, hc⟩ := hc (List.length_pos_iff.2 h0)
  have hown0 : w.ownsRow base T.E T.sz v l.length (T.cells l) := hown
  have hsm := T.small
  obtain ⟨v', w', hr, h2, h3, h4, h5⟩ := run_append_own_at (P := Tryd.prog) w base T.S o.type T.E i0 T.z T.sz T.bs T.und hi hz0 hz1 hz2 T.zs T.pos v l.length (T.cells l) hown0 ⟨b, off, none⟩ n c (T.cells L) (by rw [T.cells_length, hn])
    (fun j u hj => by rw [Addr.add_mid]; exact hc j u hj) (T.cells_one' L) (by unfold maxLen; omega) (by have : (l.length + n) * T.bs ≤ 1000000000 * 1000 := Nat.mul_le_mul (by omega) hsm; omega) hb
  unfold Does execOp
  simp only [ho, resolve, invoke, builtin, Sem.run_bind, Sem.run_pure, Result.andThen_ok, List.map_toArray, List.map_cons, List.map_nil, hs, hx, hr]
  refine h v' w' ?_ h3 h5
  unfold OwnE; rw [List.length_append, T.cells_append, ← hn]; exact h2
end
/-- A row of n bytes' room, none of which is told yet. -/
theorem make80 (c : Nat) (h : c ≤ 1000000) (w : World) :
    (Instr.makeSlice 74 (.int .i64 0) (.int .i64 (c : Int))).run Tryd.prog w = .ok (.slice (some ⟨w.heap.size, 0, none⟩) 0 c) (w.alloc (.cells (zr c) 5)) := by
  obtain ⟨i0, hi, hz0, hz1, hz2⟩ := info_parts info8
  have hr := run_make (P := Tryd.prog) w 74 5 i0 (.int .u8 0) Tryd.underlying74 hi hz0 .i64 .i64 0 c (by omega) (by omega) (by rw [hz2]; omega) (by omega)
  simp only [Int.toNat_natCast, hz1, Nat.mul_one, Int.toNat_zero] at hr
  exact hr
theorem Rw.made (w : World) (base c : Nat) (h : c ≤ 1000000) (hb : base ≤ w.heap.size) : Rw (w.alloc (.cells (zr c) 5)) base w.heap.size c [] :=
  ⟨hb, Nat.zero_le _, by unfold maxLen; omega, zr c, heap_alloc_new w _, by unfold zr; rw [size_madeCells], rfl⟩
/-- 'v = append(v, s...)', s a string for which there is room. -/
theorem wp_fitS {ops : Array Oper} {rest : List Oper} {o : Oper} {a : Act} {Q : Exit → Act → World → Prop} {w : World} (hgd : o.guard = none) (sl x : Operand)
    (ho : o.op = .call { callee := .builtin .append, args := #[sl, x], argTypes := #[74, 9] }) {base g cap : Nat} {l : List UInt8} (h : Rw w base g cap l) {n : Nat} (hn : l.length = n) (s : ByteArray)
    (hs : a.eval sl = .slice (some ⟨g, 0, none⟩) n cap) (hx : a.eval x = .string s) (hr : n + s.size ≤ cap)
    (k : ∀ w', Rw w' base g cap (l ++ ls s) → Only g w w' → wpList Tryd.prog ops Q rest (a.put o.dst (.slice (some ⟨g, 0, none⟩) (n + s.size) cap)) w') : wpList Tryd.prog ops Q (o :: rest) a w := by
  obtain ⟨h1, h2, h3, cur, h4, h5, h6⟩ := h
  obtain ⟨i0, hi, hz0, hz1, hz2⟩ := info_parts info8
  subst hn
  have hrun := Go.Lib.run_append_room_string (P := Tryd.prog) w 74 9 o.type 5 i0 Tryd.underlying74 Tryd.underlying9 hi hz1 g l.length cap cur h4 s hr (by omega)
  refine wpList_plain hgd fun K hK => ?_
  unfold Oper.wp execOp
  simp only [ho, resolve, invoke, builtin, Sem.run_bind, Sem.run_pure, Result.andThen_ok, List.map_toArray, List.map_cons, List.map_nil, hs, hx, hrun]
  have hsl : (Go.Lib.strCells s).length = s.size := Go.Lib.strCells_length s
  have hsm : Go.Lib.strCells s = (ls s).map B := rfl
  refine hK _ _ (k _ ⟨h1, by rw [List.length_append, ← ls_size]; exact hr, h3, _, setRow_heap w g cur _ 5 _ h4, ?_, ?_⟩ ⟨rfl, rfl, rfl, by simp, fun i hi hne => setRow_other w g i _ hne⟩)
  · simp only [List.size_toArray, List.length_append, List.length_take, List.length_drop, Array.length_toList, hsl]
    omega
  · rw [h6, hsm, ← List.map_append]
    have : (l ++ ls s).length = ((l ++ ls s).map B).length := (List.length_map ..).symm
    rw [this]
    exact List.take_left
/-- A row of the call's own, and where it lies. -/
theorem OwnE.row16 {α : Type} {T : RowT α} {w : World} {base : Nat} {v : Value} {l : List α} (h : OwnE T w base v l) : ∃ a cap, v = .slice a l.length cap ∧ IsE T w a l.length l ∧ ∀ x, a = some x → base ≤ x.block := by
  obtain ⟨a, cap, e, hi, _⟩ := h.is
  refine ⟨a, cap, e, hi, fun x hx => ?_⟩
  obtain ⟨_, h'⟩ := h
  rcases h' with ⟨hv, _⟩ | ⟨g, cap', cur, hv, hb, _⟩
  · rw [e] at hv
    simp only [Value.slice.injEq] at hv
    rw [hv.1] at hx; cases hx
  · rw [e] at hv
    simp only [Value.slice.injEq] at hv
    rw [hv.1] at hx; cases hx; exact hb
/-- Rows of ints. -/
def rowN : RowT Int where
  E := 3
  S := 64
  sz := 1
  bs := 8
  z := .int .i64 0
  enc := fun t => [.int .i64 t]
  und := Tryd.underlying64
  info := by kernel_rfl
  zs := rfl
  pos := by decide
  small := by decide
  len := fun _ => rfl
  one := fun a u hu => by rw [List.mem_singleton.1 hu]; rfl
theorem rowN_cells (l : List Int) : rowN.cells l = l.map fun t => .int .i64 t := by
  unfold RowT.cells
  induction l with
  | nil => rfl
  | cons a r ih => rw [List.flatMap_cons, ih]; rfl
end Go.Proofs.YtlghkdkaifcliaaDoor
