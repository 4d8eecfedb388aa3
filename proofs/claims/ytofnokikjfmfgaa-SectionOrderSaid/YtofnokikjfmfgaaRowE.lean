/-
  Rows in memory of elements of some cells each: what they hold, rows of the call's own that grow. Of all values; a row's type is told once.
-/
import Derived.Test.YtofnokikjfmfgaaBas
namespace Go.Proofs.Ytofnokikjfmfgaa
open Go.RowKit Gf
set_option maxRecDepth 100000
/-- What is to be known of a type of rows. -/
structure RowT (α : Type) where
  E : TypeId
  S : TypeId
  sz : Nat
  bs : Nat
  z : Value
  enc : α → List Value
  und : Try.prog.underlying S = some (.slice E)
  info : (Try.prog.info? E).map (fun i => (i.zero, i.size, i.bytes)) = some (some z, sz, bs)
  zs : z.cells.size = sz
  pos : 0 < sz
  small : bs ≤ 1000
  len : ∀ a, (enc a).length = sz
  one : ∀ a, ∀ u ∈ enc a, u.oneCell' = true
section
variable {α : Type} (T : RowT α)
/-- The cells of a row. -/
def RowT.cells (l : List α) : List Value := l.flatMap T.enc
theorem RowT.cells_length (l : List α) : (T.cells l).length = l.length * T.sz := by
  unfold RowT.cells
  induction l with
  | nil => simp
  | cons a r ih => rw [List.flatMap_cons, List.length_append, T.len, ih, List.length_cons, Nat.add_mul]; omega
theorem RowT.cells_append (l r : List α) : T.cells (l ++ r) = T.cells l ++ T.cells r := by unfold RowT.cells; rw [List.flatMap_append]
theorem RowT.cells_one (a : α) : T.cells [a] = T.enc a := by unfold RowT.cells; simp
theorem RowT.cells_get : ∀ (l : List α) (i : Nat) (h : i < l.length) (j : Nat), j < T.sz → (T.cells l)[i * T.sz + j]? = (T.enc l[i])[j]?
  | a :: r, 0, _, j, hj => by
    show (T.enc a ++ T.cells r)[0 * T.sz + j]? = _
    rw [Nat.zero_mul, Nat.zero_add, List.getElem?_append_left (by rw [T.len]; exact hj)]; rfl
  | a :: r, i + 1, h, j, hj => by
    show (T.enc a ++ T.cells r)[(i + 1) * T.sz + j]? = _
    rw [List.getElem?_append_right (by rw [T.len, Nat.add_mul]; omega), T.len, show (i + 1) * T.sz + j - T.sz = i * T.sz + j by rw [Nat.add_mul]; omega, RowT.cells_get r i (by simpa using h) j hj]; rfl
theorem RowT.cells_one' (l : List α) : ∀ u ∈ T.cells l, u.oneCell' = true := by
  intro u hu
  obtain ⟨a, _, ha⟩ := List.mem_flatMap.1 hu
  exact T.one a u ha
/-- The slice v is a row of the call's own (from block 'base' on). -/
def OwnE (w : World) (base : Nat) (v : Value) (l : List α) : Prop := w.ownsRow base T.E T.sz v l.length (T.cells l)
/-- The slice (a, len) reads as the row l. -/
def IsE (W : World) (a : Option Addr) (len : Nat) (l : List α) : Prop :=
  len = l.length ∧ (0 < l.length → ∃ b off, a = some ⟨b, off, none⟩ ∧ b < W.heap.size ∧ ∀ i u, (T.cells l)[i]? = some u → W.cell? ⟨b, off + i, none⟩ = some u)
variable {T}
theorem OwnE.nil (w : World) (base : Nat) : OwnE T w base (.slice none 0 0) [] := World.ownsRow_nil _ _ _ _
theorem OwnE.block {w : World} {base : Nat} {v : Value} {l : List α} (h : OwnE T w base v l) : ∀ k, v.ownBlock = some k → base ≤ k := by
  intro k hk
  obtain ⟨_, h⟩ := h
  rcases h with ⟨rfl, _⟩ | ⟨g, cap, cur, rfl, hb, _⟩
  · simp [Value.ownBlock] at hk
  · simp [Value.ownBlock] at hk; omega
theorem OwnE.old {w : World} {base : Nat} {v : Value} {l : List α} (h : OwnE T w base v l) {b : Nat} (hb : v.ownBlock = some b) : b < w.heap.size := by
  obtain ⟨_, h⟩ := h
  rcases h with ⟨rfl, _⟩ | ⟨g, cap, cur, rfl, _, hh, _⟩
  · cases hb
  · cases hb; exact (Array.getElem?_eq_some_iff.1 hh).1
theorem OwnE.at {w w' : World} {base : Nat} {v : Value} {l : List α} (h : OwnE T w base v l) (k : ∀ g, v.ownBlock = some g → w'.heap[g]? = w.heap[g]?) : OwnE T w' base v l := by
  obtain ⟨hl, h⟩ := h
  refine ⟨hl, ?_⟩
  rcases h with h | ⟨g, cap, cur, hv, hb, hh, h5⟩
  · exact .inl h
  · exact .inr ⟨g, cap, cur, hv, hb, (k g (by rw [hv]; rfl)).trans hh, h5⟩
theorem OwnE.keeps {w w' : World} {base : Nat} {v : Value} {l : List α} (h : OwnE T w base v l) (k : Keeps w w') : OwnE T w' base v l :=
  h.at fun g hg => Below.block k g (h.old hg)
theorem OwnE.eqv {w w' : World} {base : Nat} {v : Value} {l : List α} (h : OwnE T w base v l) (k : Eqv w w') : OwnE T w' base v l := h.at fun g _ => by rw [k.heap]
theorem OwnE.only {w w' : World} {base b : Nat} {v : Value} {l : List α} (h : OwnE T w base v l) (k : Only b w w') (hn : v.ownBlock ≠ some b) : OwnE T w' base v l :=
  h.at fun g hg => k.block g (h.old hg) fun e => hn (by rw [hg, e])
theorem OwnE.stays {w w' : World} {base : Nat} {v : Value} {l : List α} {row : Option Nat} (h : OwnE T w base v l) (k : w.grownBy w' row) (hn : ∀ b, row = some b → v.ownBlock ≠ some b) : OwnE T w' base v l :=
  h.at fun g hg => k.block g (h.old hg) fun e => hn g e.symm hg
theorem OwnE.lower {w : World} {base base' : Nat} {v : Value} {l : List α} (h : OwnE T w base v l) (hb : base' ≤ base) : OwnE T w base' v l := by
  obtain ⟨hl, h⟩ := h
  refine ⟨hl, ?_⟩
  rcases h with h | ⟨g, cap, cur, hv, hb2, h5⟩
  · exact .inl h
  · exact .inr ⟨g, cap, cur, hv, by omega, h5⟩
theorem OwnE.is {w : World} {base : Nat} {v : Value} {l : List α} (h : OwnE T w base v l) : ∃ a cap, v = .slice a l.length cap ∧ IsE T w a l.length l ∧ l.length ≤ cap := by
  obtain ⟨hl, h⟩ := h
  rcases h with ⟨rfl, h0⟩ | ⟨g, cap, cur, rfl, hb, hh, hn, hc, hsz, htake⟩
  · exact ⟨none, 0, by rw [h0], ⟨rfl, fun h => by omega⟩, by omega⟩
  · refine ⟨_, cap, rfl, ⟨rfl, fun _ => ⟨g, 0, rfl, (Array.getElem?_eq_some_iff.1 hh).1, fun i u hu => ?_⟩⟩, hn⟩
    have hi : i < l.length * T.sz := by have := (List.getElem?_eq_some_iff.1 hu).1; rwa [T.cells_length] at this
    have h1 : cur.toList[i]? = some u := by
      have h2 : (cur.toList.take (l.length * T.sz))[i]? = (T.cells l)[i]? := by rw [htake]
      rw [List.getElem?_take_of_lt hi] at h2
      rw [h2, hu]
    have h4 : w.cell? ⟨g, i, none⟩ = cur[i]? := by simp [World.cell?, hh]
    rw [Nat.zero_add, h4, ← Array.getElem?_toList, h1]
theorem IsE.keeps {w w' : World} {a : Option Addr} {len : Nat} {l : List α} (h : IsE T w a len l) (k : Keeps w w') : IsE T w' a len l :=
  ⟨h.1, fun h0 => by obtain ⟨b, off, ha, hb, hc⟩ := h.2 h0; exact ⟨b, off, ha, Nat.lt_of_lt_of_le hb (Below.size k), fun i u hu => (Below.cell k (p := ⟨b, off + i, none⟩) hb).trans (hc i u hu)⟩⟩
theorem IsE.eqv {w w' : World} {a : Option Addr} {len : Nat} {l : List α} (h : IsE T w a len l) (k : Eqv w w') : IsE T w' a len l :=
  ⟨h.1, fun h0 => by obtain ⟨b, off, ha, hb, hc⟩ := h.2 h0; exact ⟨b, off, ha, by rw [k.size]; exact hb, fun i u hu => (k.cell _).trans (hc i u hu)⟩⟩
theorem IsE.nil (w : World) (a : Option Addr) : IsE T w a 0 [] := ⟨rfl, fun h => by simp at h⟩
/-- A literal in a new block. -/
theorem IsE.lit (w : World) (l : List α) (cs : Array Value) (t : TypeId) (hc : (T.cells l).toArray = cs) {b : Nat} (hb : w.heap.size = b) : IsE T (w.alloc (.cells cs t)) (some ⟨b, 0, none⟩) l.length l := by
  subst hb; subst hc
  refine ⟨rfl, fun _ => ⟨_, _, rfl, by simp, fun i u hu => ?_⟩⟩
  rw [World.cell?_alloc_new, Nat.zero_add, List.getElem?_toArray, hu]
/-- Cell j of element i. -/
theorem IsE.get {w : World} {a : Option Addr} {len : Nat} {l : List α} (h : IsE T w a len l) {i : Nat} (hi : i < l.length) : ∃ b off, a = some ⟨b, off, none⟩ ∧ b < w.heap.size ∧ ∀ j u, (T.enc l[i])[j]? = some u → w.cell? ⟨b, off + (i * T.sz + j), none⟩ = some u := by
  obtain ⟨b, off, ha, hb, hc⟩ := h.2 (by omega)
  refine ⟨b, off, ha, hb, fun j u hu => ?_⟩
  have hj : j < T.sz := by have := (List.getElem?_eq_some_iff.1 hu).1; rwa [T.len] at this
  exact hc _ u ((T.cells_get l i hi j hj).trans hu)
/-- 'v = append(v, x...)', v a row of the call's own (of what was made since block 'base'), x another row that is not empty. -/
theorem wp_catE {ops : Array Oper} {rest : List Oper} {o : Oper} {a : Act} {Q : Exit → Act → World → Prop} {wr : World} (hgd : o.guard = none) (s x : Operand)
    (ho : o.op = .call { callee := .builtin .append, args := #[s, x], argTypes := #[T.S, T.S] }) {base : Nat} {v : Value} {l L : List α} (hown : OwnE T wr base v l)
    {ax : Option Addr} {n c : Nat} (hs : a.eval s = v) (hx : a.eval x = .slice ax n c) (hI : IsE T wr ax n L) (h0 : L ≠ []) (hl : l.length + L.length ≤ 1000000000) (hb : base ≤ wr.heap.size)
    (h : ∀ v' w', OwnE T w' base v' (l ++ L) → wr.grownBy w' v.ownBlock → (v'.ownBlock = v.ownBlock ∨ v'.ownBlock = some wr.heap.size) → wpList Try.prog ops Q rest (a.put o.dst v') w') :
    wpList Try.prog ops Q (o :: rest) a wr := by
  obtain ⟨i0, hi, hz0, hz1, hz2⟩ := info_parts T.info
  obtain ⟨hn, hc⟩ := hI
  obtain ⟨b, off, rfl, hbb, hc⟩ := hc (List.length_pos_iff.2 h0)
  have hown0 : wr.ownsRow base T.E T.sz v l.length (T.cells l) := hown
  have hsm := T.small
  refine wpList_append_own_at _ hgd s x T.S ho base T.E i0 T.z T.sz T.bs T.und hi hz0 hz1 hz2 T.zs T.pos v l.length (T.cells l) hs hown0
    ⟨b, off, none⟩ n c (T.cells L) hx (by rw [T.cells_length, hn]) ?_ (T.cells_one' L) ?_ ?_ hb ?_
  · intro j u hj
    rw [Addr.add_mid]; exact hc j u hj
  · unfold maxLen; omega
  · have : (l.length + n) * T.bs ≤ 1000000000 * 1000 := Nat.mul_le_mul (by omega) hsm
    omega
  · intro v' w' h1 h2 _ h4
    refine h v' w' ?_ h2 h4
    unfold OwnE; rw [List.length_append, T.cells_append, ← hn]; exact h1
/-- 'v = append(v, y)'. -/
theorem wp_pushE {ops : Array Oper} {rest : List Oper} {o : Oper} {a : Act} {Q : Exit → Act → World → Prop} {wr : World} (hgd : o.guard = none) (s x : Operand)
    (ho : o.op = .call { callee := .builtin .append, args := #[s, x], argTypes := #[T.S, T.S] }) {base : Nat} {v : Value} {l : List α} (y : α) (cs : Array Value) (hcs : (T.enc y).toArray = cs) (H : Nat) (hH : wr.heap.size = H) (hown : OwnE T wr base v l)
    (hs : a.eval s = v) (hx : a.eval x = .slice (some ⟨H, 0, none⟩) 1 1) (hl : l.length ≤ 100000000) (hb : base ≤ wr.heap.size) (t : TypeId)
    (h : ∀ v' w', OwnE T w' base v' (l ++ [y]) → (wr.alloc (.cells cs t)).grownBy w' v.ownBlock → (v'.ownBlock = v.ownBlock ∨ v'.ownBlock = some (H + 1)) → wpList Try.prog ops Q rest (a.put o.dst v') w') :
    wpList Try.prog ops Q (o :: rest) a (wr.alloc (.cells cs t)) := by
  refine wp_catE (T := T) hgd s x ho (hown.at fun g hg => Below.heap_alloc wr _ g (hown.old hg)) hs hx (IsE.lit wr [y] cs t (by rw [T.cells_one]; exact hcs) hH) (by simp) (by simp; omega) (by simp; omega) ?_
  intro v' w' h1 h2 h3
  refine h v' w' h1 h2 ?_
  rwa [World.size_alloc, hH] at h3
end
/-- Rows of texts. -/
def rowT : RowT (List UInt8) where
  E := 9
  S := 111
  sz := 1
  bs := 16
  z := .string ⟨#[]⟩
  enc := fun t => [.string (st t)]
  und := Try.underlying111
  info := by kernel_rfl
  zs := rfl
  pos := by decide
  small := by decide
  len := fun _ => rfl
  one := fun a u hu => by rw [List.mem_singleton.1 hu]; rfl
theorem rowT_cells (l : List (List UInt8)) : rowT.cells l = l.map fun t => .string (st t) := by
  unfold RowT.cells
  induction l with
  | nil => rfl
  | cons a r ih => rw [List.flatMap_cons, ih]; rfl
theorem IsE.texts {w : World} {a : Option Addr} {len : Nat} {l : List (List UInt8)} (h : IsE rowT w a len l) : IsT w a len l :=
  ⟨h.1, fun h0 => by
    obtain ⟨b, off, ha, hb, hc⟩ := h.2 h0
    refine ⟨b, off, ha, hb, fun i hi => hc i _ ?_⟩
    rw [rowT_cells, List.getElem?_map, List.getElem?_eq_getElem hi, List.getD_eq_getElem?_getD, List.getElem?_eq_getElem hi]; rfl⟩
end Go.Proofs.Ytofnokikjfmfgaa
