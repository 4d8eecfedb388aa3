/-
  A row of bytes of the call's own that was made of a string ('[]byte(s)'): it may be grown. No function of the program.
-/
import Derived.Test.YtifbomppgflkfaaDoorBase
namespace Go.Proofs.YtifbomppgflkfaaDoor
open Go.RowKit Gf
set_option maxRecDepth 100000
/-- The slice v is a row of the call's own (from block 'base' on) that holds the bytes l; nothing of its room is shared with a string. -/
def OwnT (w : World) (base : Nat) (v : Value) (l : List UInt8) : Prop :=
  ∃ g cap cur fz, v = .slice (some ⟨g, 0, none⟩) l.length cap ∧ base ≤ g ∧ w.heap[g]? = some (.cells cur 5 fz) ∧ (fz = (0, 0) ∨ cap ≤ fz.1) ∧ l.length ≤ cap ∧ cap ≤ maxLen ∧ cur.size = cap ∧ cur.toList.take l.length = l.map B
theorem OwnT.is {w : World} {base : Nat} {v : Value} {l : List UInt8} (h : OwnT w base v l) {n : Nat} (hn : l.length = n) : ∃ g cap, v = .slice (some ⟨g, 0, none⟩) n cap := by
  obtain ⟨g, cap, _, _, e, _⟩ := h
  subst hn
  exact ⟨g, cap, e⟩
theorem OwnT.old {w : World} {base : Nat} {v : Value} {l : List UInt8} (h : OwnT w base v l) {b : Nat} (hb : v.ownBlock = some b) : base ≤ b ∧ b < w.heap.size := by
  obtain ⟨g, cap, cur, fz, rfl, h1, h2, _⟩ := h
  cases hb
  exact ⟨h1, (Array.getElem?_eq_some_iff.1 h2).1⟩
theorem OwnT.at {w w' : World} {base : Nat} {v : Value} {l : List UInt8} (h : OwnT w base v l) (k : ∀ g, v.ownBlock = some g → w'.heap[g]? = w.heap[g]?) : OwnT w' base v l := by
  obtain ⟨g, cap, cur, fz, rfl, h1, h2, h3⟩ := h
  exact ⟨g, cap, cur, fz, rfl, h1, (k g rfl).trans h2, h3⟩
theorem OwnT.keeps {w w' : World} {base : Nat} {v : Value} {l : List UInt8} (h : OwnT w base v l) (k : Keeps w w') : OwnT w' base v l := h.at fun g hg => Below.block k g (h.old hg).2
theorem OwnT.eqv {w w' : World} {base : Nat} {v : Value} {l : List UInt8} (h : OwnT w base v l) (e : Eqv w w') : OwnT w' base v l := h.at fun g _ => by rw [e.heap]
/-- '[]byte(s)'. -/
theorem OwnT.bytes (w : World) (s : ByteArray) (base : Nat) (hb : base ≤ w.heap.size) (hc : grownCap w s.size 0 5 ≤ maxLen) :
    OwnT (Lib.bytesWorld w 5 s) base (.slice (some ⟨w.heap.size, 0, none⟩) s.size (grownCap w s.size 0 5)) (ls s) := by
  have hge := grownCap_ge w s.size 0 5
  have hsz : (Lib.bytesCells w 5 s).size = grownCap w s.size 0 5 := by
    unfold Lib.bytesCells
    rw [Array.size_append, Array.size_map, Array.size_replicate]
    have : s.data.size = s.size := rfl
    omega
  refine ⟨w.heap.size, _, _, _, by rw [← ls_size], hb, Lib.bytesWorld_at_new w 5 s, .inr (by show _ ≤ (Lib.bytesCells w 5 s).size; omega), by rw [← ls_size]; exact hge, hc, hsz, ?_⟩
  unfold Lib.bytesCells
  rw [Array.toList_append, Array.toList_map]
  have : (ls s).length = (s.data.toList.map fun b => Value.int .u8 (b.toNat : Int)).length := by rw [List.length_map]; rfl
  rw [this]
  exact List.take_left
theorem OwnT.text {w : World} {base : Nat} {v : Value} {l : List UInt8} (h : OwnT w base v l) : (convert 79 9 v).run Tryd.prog w = .ok (.string (st l)) w := by
  obtain ⟨g, cap, cur, fz, rfl, hb, hh, _, hn, hc, hsz, htake⟩ := h
  have e := run_convert_bytes_arg (P := Tryd.prog) w 79 5 Tryd.underlying79 Tryd.underlying5 g 0 l.length cap (l.map fun x => (x.toNat : Int)) (by simp) (fun i hi => by
    have h1 : cur.toList[i]? = some (B (cf l i)) := by
      have h2 : (cur.toList.take l.length)[i]? = (l.map B)[i]? := by rw [htake]
      rw [List.getElem?_take_of_lt hi] at h2
      rw [h2, List.getElem?_map, List.getElem?_eq_getElem hi, cf_lt hi]; rfl
    have h3 : cur[i]? = some (B (cf l i)) := by rw [← Array.getElem?_toList]; exact h1
    show w.cell? ⟨g, 0 + i, none⟩ = _
    rw [Nat.zero_add]
    have h4 : w.cell? ⟨g, i, none⟩ = cur[i]? := by simp [World.cell?, hh]
    rw [h4, h3, List.getD_eq_getElem?_getD, List.getElem?_map, List.getElem?_eq_getElem hi, cf_lt hi]; rfl) 9 Tryd.underlying9
  rw [e]
  have hs : strOfNums (l.map fun x => (x.toNat : Int)) = st l := by
    simp only [strOfNums, st, List.map_map]
    congr 2
    have : ((fun n : Int => UInt8.ofNat n.toNat) ∘ fun x : UInt8 => (x.toNat : Int)) = id := by
      funext x; simp
    rw [this, List.map_id]
  rw [hs]
theorem run_storeCells_atT (g o : Nat) (t : TypeId) (fz : Nat × Nat) : ∀ (vs : List Value) (i : Nat) (cur : Array Value) (w : World), w.heap[g]? = some (.cells cur t fz) → (fz = (0, 0) ∨ cur.size ≤ fz.1) → o + i + vs.length ≤ cur.size → (∀ v ∈ vs, v.oneCell' = true) →
    (storeCells ⟨g, o, none⟩ vs i).run Tryd.prog w = .ok () (w.setRow g (cur.toList.take (o + i) ++ vs ++ cur.toList.drop (o + i + vs.length)).toArray)
  | [], i, cur, w, hg, _, _, _ => by
    simp only [storeCells, List.append_nil, List.length_nil, Nat.add_zero, List.take_append_drop, Array.toArray_toList]
    rw [setRow_self w g cur t fz hg]
    rfl
  | v :: rest, i, cur, w, hg, hfz, hl, h1 => by
    have hi : o + i < cur.size := by simp at hl; omega
    have hadd : (⟨g, o, none⟩ : Addr).add i = ⟨g, o + i, none⟩ := by unfold Addr.add; split <;> simp_all
    have hcell : w.cell? ⟨g, o + i, none⟩ = some cur[o + i] := by simp [World.cell?, hg, hi]
    have hfro : w.frozen? ⟨g, o + i, none⟩ = false := by
      obtain ⟨lo, hi'⟩ := fz
      simp only [World.frozen?, hg, Bool.and_eq_false_iff, decide_eq_false_iff_not]
      rcases hfz with e | e
      · cases e; right; omega
      · left; simp only at e; omega
    have hst : (store ((⟨g, o, none⟩ : Addr).add i) v).run Tryd.prog w = .ok () (w.setRow g (cur.setIfInBounds (o + i) v)) := by
      rw [hadd, run_store Tryd.prog w _ v _ (h1 v (by simp)), hcell]
      simp [hfro, setCell_eq_setRow w g (o + i) cur t fz v hg]
    have ih := run_storeCells_atT g o t fz rest (i + 1) (cur.setIfInBounds (o + i) v) (w.setRow g (cur.setIfInBounds (o + i) v)) (setRow_heap w g cur _ t _ hg) (by simpa using hfz) (by simp at hl ⊢; omega) (fun x hx => h1 x (by simp [hx]))
    simp only [storeCells, Sem.run_bind, hst, Result.andThen_ok, ih, setRow_setRow]
    congr 3
    have e := list_seg_step cur.toList (o + i) v rest (by simp at hl ⊢; omega)
    simpa [Array.toList_setIfInBounds, Nat.add_assoc] using e
/-- 'v = append(v, y)'. -/
theorem wp_pushT {ops : Array Oper} {rest : List Oper} {o : Oper} {a : Act} {Q : Exit → Act → World → Prop} {wr : World} (hgd : o.guard = none) (s x : Operand)
    (ho : o.op = .call { callee := .builtin .append, args := #[s, x], argTypes := #[79, 79] }) {w0 : World} {v : Value} {l : List UInt8} (y : UInt8) {yv : Value} (hyv : yv = B y) (H : Nat) (hH : wr.heap.size = H) (hown : OwnT wr w0.heap.size v l)
    (hs : a.eval s = v) (hx : a.eval x = .slice (some ⟨H, 0, none⟩) 1 1) (hl : l.length ≤ 1000000000) (hk : Keeps w0 wr)
    (h : ∀ v' w', OwnT w' w0.heap.size v' (l ++ [y]) → Keeps w0 w' → wpList Tryd.prog ops Q rest (a.put o.dst v') w') :
    wpList Tryd.prog ops Q (o :: rest) a (wr.alloc (.cells #[yv] 5)) := by
  subst hyv
  subst hH
  obtain ⟨i0, hi, hz0, hz1, hz2⟩ := info_parts info8
  obtain ⟨g, cap, cur, fz, rfl, hb, hh, hfz, hn, hc, hsz, htake⟩ := hown
  have hg := (Array.getElem?_eq_some_iff.1 hh).1
  have hbs := Below.size hk
  have hhA : (wr.alloc (.cells #[B y] 5)).heap[g]? = some (.cells cur 5 fz) := (heap_alloc_old wr _ g hg).trans hh
  have hnews : ∀ j u, [B y][j]? = some u → (wr.alloc (.cells #[B y] 5)).cell? ((⟨wr.heap.size, 0, none⟩ : Addr).add j) = some u := cell_one_new wr (B y) 5
  refine wpList_plain hgd fun K hK => ?_
  by_cases hroom : l.length + 1 ≤ cap
  · have hf := run_firstCells_some (P := Tryd.prog) (wr.alloc (.cells #[B y] 5)) 1 1 ⟨wr.heap.size, 0, none⟩ 1 1 [B y] rfl hnews
    have hst := run_storeCells_atT g l.length 5 fz [B y] 0 cur _ hhA (by rw [hsz]; exact hfz) (by simp; omega) (fun u hu => by rw [List.mem_singleton.1 hu]; rfl)
    simp only [Nat.add_zero] at hst
    have hrun : (Builtin.append_ #[79, 79] o.type #[.slice (some ⟨g, 0, none⟩) l.length cap, .slice (some ⟨wr.heap.size, 0, none⟩) 1 1]).run Tryd.prog (wr.alloc (.cells #[B y] 5)) =
        .ok (.slice (some ⟨g, 0, none⟩) (l.length + 1) cap) ((wr.alloc (.cells #[B y] 5)).setRow g (cur.toList.take l.length ++ [B y] ++ cur.toList.drop (l.length + [B y].length)).toArray) := by
      simp [Builtin.append_, run_underlying Tryd.underlying79, sizeOf, typeInfo, hi, hz1, Builtin.lenOf, hroom, hf, Addr.add_lit, hst]
    unfold Oper.wp execOp
    simp only [ho, resolve, invoke, builtin, Sem.run_bind, Sem.run_pure, Result.andThen_ok, List.map_toArray, List.map_cons, List.map_nil, hs, hx, hrun]
    refine hK _ _ (h _ _ ⟨g, cap, _, fz, by rw [List.length_append]; rfl, hb, setRow_heap _ g cur _ 5 _ hhA, hfz, by rw [List.length_append]; exact hroom, hc, ?_, ?_⟩ ?_)
    · simp only [List.size_toArray, List.length_append, List.length_take, List.length_drop, Array.length_toList, List.length_singleton]
      omega
    · rw [htake, List.length_append, List.map_append]
      have : l.length + [y].length = (l.map B ++ [B y]).length := by rw [List.length_append, List.length_map]; rfl
      rw [this]
      exact List.take_left
    · have h1 := hk.alloc (.cells #[B y] 5)
      exact Below.grown h1 (row := some g) ⟨rfl, rfl, rfl, by simp, fun k _ hk => setRow_other _ g k _ (fun e => hk (by rw [e]))⟩ (Below.size h1) (fun k e => by cases e; exact hb)
  · have holds : ∀ j u, (l.map B)[j]? = some u → (wr.alloc (.cells #[B y] 5)).cell? ((⟨g, 0, none⟩ : Addr).add j) = some u := by
      intro j u hu
      have hj : j < l.length := by have := (List.getElem?_eq_some_iff.1 hu).1; rwa [List.length_map] at this
      have hadd : (⟨g, 0, none⟩ : Addr).add j = ⟨g, j, none⟩ := by unfold Addr.add; split <;> simp_all
      rw [hadd, cell_of_row _ g j cur 5 fz hhA, ← hu, ← htake, List.getElem?_take_of_lt hj, Array.getElem?_toList]
    have hr := run_append_grow (P := Tryd.prog) (wr.alloc (.cells #[B y] 5)) 79 o.type 5 i0 (.int .u8 0) Tryd.underlying79 hi hz0 ⟨g, 0, none⟩ l.length cap (l.map B) (by rw [hz1, List.length_map, Nat.mul_one]) holds ⟨wr.heap.size, 0, none⟩ 1 1 [B y] (by rw [hz1]; rfl) hnews (by omega) (by omega) (growslice_fits (by omega) (by rw [hz2]; omega))
    unfold Oper.wp execOp
    simp only [ho, resolve, invoke, builtin, Sem.run_bind, Sem.run_pure, Result.andThen_ok, List.map_toArray, List.map_cons, List.map_nil, hs, hx, hr]
    have hge := grownCap_ge (wr.alloc (.cells #[B y] 5)) (l.length + 1) cap 5
    have hcm := grownCap_le_maxLen (wr.alloc (.cells #[B y] 5)) (l.length + 1) cap 5 (by unfold maxLen; omega)
    refine hK _ _ (h _ _ ⟨_, _, _, (0, 0), by rw [List.length_append]; rfl, Nat.le_trans hbs (by show _ ≤ (wr.alloc _).heap.size; rw [World.size_alloc]; omega), heap_alloc_new _ _, .inl rfl, by rw [List.length_append]; exact hge, hcm, ?_, ?_⟩ ?_)
    · simp only [Array.size_append, List.size_toArray, size_zeroCells, List.length_map, Value.cells]
      simp only [List.length_singleton]
      omega
    · simp only [Array.toList_append, List.append_assoc, List.length_append, List.map_append]
      have : l.length + [y].length = (l.map B ++ [B y]).length := by rw [List.length_append, List.length_map]; rfl
      rw [this, ← List.append_assoc]
      exact List.take_left
    · exact ((hk.alloc _).eqv (Eqv.drew _)).alloc _
end Go.Proofs.YtifbomppgflkfaaDoor
