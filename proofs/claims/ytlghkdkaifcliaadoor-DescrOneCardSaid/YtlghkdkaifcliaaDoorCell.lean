/-
  A struct in memory, told by its cells: a block that begins with a list of cells, which may be written. No function of the program.
-/
import Derived.Laws.StructEq
import Derived.Test.YtlghkdkaifcliaaDoorBase
namespace Go.Proofs.YtlghkdkaifcliaaDoor
open Go.RowKit Gf
set_option maxRecDepth 100000
/-- Block b holds these cells, from its beginning on, and they may be written. -/
structure CsAt (b : Nat) (cs : List Value) (w : World) : Prop where
  r : w.rangeAt b 0 cs
  fz : ∀ i, i < cs.length → w.frozen? ⟨b, i, none⟩ = false
  n : cs ≠ []
section
variable {b c : Nat} {cs ds : List Value} {w w' : World}
theorem CsAt.cell (h : CsAt b cs w) (i : Nat) {v : Value} (hv : cs[i]? = some v) : w.cell? ⟨b, i, none⟩ = some v := by
  have := h.r i v hv
  rwa [Nat.zero_add] at this
theorem CsAt.old (h : CsAt b cs w) : b < w.heap.size := by
  obtain ⟨_ | ⟨v, r⟩, hr⟩ : ∃ l, cs = l := ⟨_, rfl⟩
  · exact absurd hr h.n
  · obtain ⟨o, ho, _⟩ := cells_of_cell (h.cell 0 (v := v) (by rw [hr]; rfl))
    exact (Array.getElem?_eq_some_iff.1 ho).1
theorem CsAt.block (h : CsAt b cs w) (hb : w'.heap[b]? = w.heap[b]?) : CsAt b cs w' :=
  ⟨fun j v hv => (World.cell?_of_block (w := w) (a := ⟨b, 0 + j, none⟩) hb).trans (h.r j v hv), fun i hi => (World.frozen?_of_block (w := w) (a := ⟨b, i, none⟩) hb).trans (h.fz i hi), h.n⟩
theorem CsAt.eqv (h : CsAt b cs w) (k : Eqv w w') : CsAt b cs w' := h.block (by rw [k.heap])
theorem CsAt.keeps (h : CsAt b cs w) (k : Keeps w w') : CsAt b cs w' := h.block (Below.block k b h.old)
theorem CsAt.only (h : CsAt b cs w) (hn : b ≠ c) (k : Only c w w') : CsAt b cs w' := h.block (k.block b h.old hn)
theorem CsAt.made (w : World) (a : Array Value) (t : TypeId) (hn : a.toList ≠ []) : CsAt w.heap.size a.toList (w.alloc (.cells a t)) := by
  refine ⟨fun j v hv => ?_, fun i _ => World.frozen?_alloc_new _ _ _ _, hn⟩
  rw [World.cell?_alloc_new]
  simpa using hv
theorem CsAt.mid (h : CsAt b cs w) (p m s : List Value) (e : cs = p ++ (m ++ s)) {o : Nat} (ho : p.length = o) : w.rangeAt b o m := by
  intro j v hv
  subst ho
  refine h.cell _ ?_
  rw [e, List.getElem?_append_right (by omega), Nat.add_sub_cancel_left, List.getElem?_append_left (List.getElem?_eq_some_iff.1 hv).1]
  exact hv
theorem CsAt.there (h : CsAt b cs w) {o n : Nat} (hl : o + n ≤ cs.length) : w.there b o n := by
  intro j hj
  refine ⟨?_, h.fz _ (by omega)⟩
  rw [h.cell (o + j) (List.getElem?_eq_getElem (by omega))]; rfl
theorem CsAt.store (h : CsAt b cs w) (ds : List Value) (hl : ds.length = cs.length) : CsAt b ds (w.setCells b 0 ds) :=
  ⟨World.rangeAt_setCells_same w b 0 ds (h.there (by omega)), fun i hi => by rw [World.frozen?_setCells]; exact h.fz i (by omega), fun e => h.n (by rw [e] at hl; exact List.length_eq_zero_iff.1 hl.symm)⟩
/-- Some cells in the middle are written. -/
theorem CsAt.put (h : CsAt b cs w) (p m d s : List Value) (e : cs = p ++ (m ++ s)) (hl : d.length = m.length) {o : Nat} (ho : p.length = o) : CsAt b (p ++ (d ++ s)) (w.setCells b o d) := by
  subst ho
  have hc : cs.length = p.length + (m.length + s.length) := by rw [e, List.length_append, List.length_append]
  refine ⟨fun j v hv => ?_, fun i hi => ?_, fun x => h.n ?_⟩
  · by_cases h1 : j < p.length
    · rw [World.cell?_setCells_out b d p.length w _ (fun _ _ => .inl (by show 0 + j < _; omega))]
      rw [List.getElem?_append_left h1] at hv
      exact h.r j v (by rw [e, List.getElem?_append_left h1]; exact hv)
    · rw [List.getElem?_append_right (by omega)] at hv
      by_cases h2 : j - p.length < d.length
      · rw [List.getElem?_append_left h2] at hv
        have := World.rangeAt_setCells_same w b p.length d (h.there (by omega)) _ _ hv
        rwa [show p.length + (j - p.length) = 0 + j by omega] at this
      · rw [World.cell?_setCells_out b d p.length w _ (fun _ _ => .inr (by show _ ≤ 0 + j; omega))]
        rw [List.getElem?_append_right (by omega)] at hv
        exact h.r j v (by rw [e, List.getElem?_append_right (by omega), List.getElem?_append_right (by omega), ← hl]; exact hv)
  · rw [World.frozen?_setCells]
    simp only [List.length_append] at hi
    exact h.fz i (by omega)
  · have := congrArg List.length x
    simp only [List.length_append, List.length_nil] at this
    exact List.length_eq_zero_iff.1 (by omega)
theorem CsAt.set (h : CsAt b cs w) (i : Nat) (hi : i < cs.length) (v : Value) : CsAt b (cs.set i v) (w.setCell ⟨b, i, none⟩ v) := by
  refine ⟨fun j u hu => ?_, fun j hj => ?_, fun x => h.n ?_⟩
  · rw [Nat.zero_add]
    by_cases e : i = j
    · subst e
      rw [List.getElem?_set_self hi] at hu
      cases hu
      exact set_same (h.cell i (List.getElem?_eq_getElem hi))
    · rw [List.getElem?_set_ne e] at hu
      rw [set_other e]; exact h.cell j hu
  · rw [List.length_set] at hj
    simp [h.fz j hj]
  · have := congrArg List.length x
    simp only [List.length_set, List.length_nil] at this
    exact List.length_eq_zero_iff.1 this
end
/-- What is answered lies in block b, which is the call's own. -/
structure CsAns (w0 : World) (b : Nat) (cs : List Value) (W : World) : Prop where
  z : CsAt b cs W
  k : Keeps w0 W
  m : w0.heap.size ≤ b
section
variable {w0 W W' : World} {b : Nat} {cs : List Value}
theorem CsAns.keeps (h : CsAns w0 b cs W) (k : Keeps W W') : CsAns w0 b cs W' := ⟨h.z.keeps k, h.k.trans k, h.m⟩
theorem CsAns.eqv (h : CsAns w0 b cs W) (k : Eqv W W') : CsAns w0 b cs W' := ⟨h.z.eqv k, h.k.eqv k, h.m⟩
theorem CsAns.alloc (h : CsAns w0 b cs W) (o : Obj) : CsAns w0 b cs (W.alloc o) := h.keeps ((Keeps.refl W).alloc o)
theorem CsAns.ends (h : CsAns w0 b cs W) (ds : List Value) (hl : ds.length = cs.length) : CsAns w0 b ds (W.setCells b 0 ds) := ⟨h.z.store ds hl, (only_setCells b ds 0 W).keeps h.k h.m, h.m⟩
theorem CsAns.set (h : CsAns w0 b cs W) (i : Nat) (hi : i < cs.length) (v : Value) : CsAns w0 b (cs.set i v) (W.setCell ⟨b, i, none⟩ v) := ⟨h.z.set i hi v, (Only.setCell W ⟨b, i, none⟩ v).keeps h.k h.m, h.m⟩
theorem CsAns.put (h : CsAns w0 b cs W) (p m d s : List Value) (e : cs = p ++ (m ++ s)) (hl : d.length = m.length) {o : Nat} (ho : p.length = o) : CsAns w0 b (p ++ (d ++ s)) (W.setCells b o d) :=
  ⟨h.z.put p m d s e hl ho, (only_setCells b d o W).keeps h.k h.m, h.m⟩
end
theorem CsAns.start {w0 w wA : World} (hk : Keeps w0 w) {b : Nat} {T : TypeId} {a : Array Value} (hn : a.toList ≠ []) (hb : w.heap.size = b) (hA : w.alloc (.cells a T) = wA) : CsAns w0 b a.toList wA := by
  subst hb
  subst hA
  exact ⟨CsAt.made w a T hn, hk.alloc _, Below.size hk⟩
/-- Two structs are compared, as is told ahead. -/
theorem wp_cmp {ops : Array Oper} {rest : List Oper} {o : Oper} {a : Act} {w : World} {Q : Exit → Act → World → Prop} {op : BinOp} {T U : TypeId} {xs ys : Array Value} {r : Bool} (hrun : (binOp op T (.agg xs) (.agg ys)).run Tryd.prog w = .ok (.bool r) w)
    (hm : Tryd.prog.eqGuardType Tryd.prog.depth T = false) (hgd : o.guard = none) (x y : Operand) (ho : o.op = .binOp op T x y U) (hx : a.eval x = .agg xs) (hy : a.eval y = .agg ys)
    (k : wpList Tryd.prog ops Q rest (a.put o.dst (.bool r)) w) : wpList Tryd.prog ops Q (o :: rest) a w := by
  refine wpList_plain hgd fun _ hK => ?_
  have e : (execOp a.eval o).run Tryd.prog w = .ok (.value (.bool r)) w := by
    unfold execOp
    simp only [ho, hx, hy, Sem.run_bind, run_eqGuard_agg w op T x y xs ys hm, hrun, Result.andThen_ok]
    rfl
  unfold Oper.wp
  rw [e, Oper.upon_value]
  exact hK _ _ k
/-- The end of a function that answers a struct in a cell. -/
theorem cs_ret {W : World} {a : Act} {fn : Func} {T : TypeId} {b p : Nat} {v : Value} {Q : Ending → World → Prop} (hres : fn.results = #[.cell p T])
    (hl : (loadVar T ⟨b, 0, none⟩).run Tryd.prog W = .ok v W) (h2 : a.tmps.getD p undef = .pointer (some ⟨b, 0, none⟩)) (hd : a.defers = [])
    (h : Q (.returned v) W) : bodyPost Tryd.prog fn Q Exit.ret a W := by
  have h2' : a.tmps[p]?.getD undef = .pointer (some ⟨b, 0, none⟩) := by rw [← h2, Array.getD_eq_getD_getElem?]
  exact bodyPost_ret (v := v) (by simp only [results, hres]; simp [asAddr, h2', hl]) hd h
/-- The end of a function that answers a struct, in a cell, and another value. -/
theorem cs_ret2 {W : World} {a : Act} {fn : Func} {T : TypeId} {b p q : Nat} {v u : Value} {Q : Ending → World → Prop} (hres : fn.results = #[.cell p T, .tmp q])
    (hl : (loadVar T ⟨b, 0, none⟩).run Tryd.prog W = .ok v W) (h2 : a.tmps.getD p undef = .pointer (some ⟨b, 0, none⟩)) (h3 : a.tmps.getD q undef = u) (hd : a.defers = [])
    (h : Q (.returned (.tuple #[v, u])) W) : bodyPost Tryd.prog fn Q Exit.ret a W := by
  have h2' : a.tmps[p]?.getD undef = .pointer (some ⟨b, 0, none⟩) := by rw [← h2, Array.getD_eq_getD_getElem?]
  have h3' : a.tmps[q]?.getD undef = u := by rw [← h3, Array.getD_eq_getD_getElem?]
  exact bodyPost_ret (v := .tuple #[v, u]) (by simp only [results, hres]; simp [Result.andThen, asAddr, h2', h3', hl]) hd h
end Go.Proofs.YtlghkdkaifcliaaDoor
