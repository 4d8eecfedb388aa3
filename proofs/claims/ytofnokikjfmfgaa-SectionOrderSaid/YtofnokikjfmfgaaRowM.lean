/-
  Rows of elements of some cells each that are made at once, written in place, or read in part. Of all values.
-/
import Derived.Test.YtofnokikjfmfgaaRowE
namespace Go.Proofs.Ytofnokikjfmfgaa
open Go.RowKit Gf
set_option maxRecDepth 100000
/-- The cells of a block behind a store. -/
theorem setCells_block {g : Nat} {t : TypeId} {fr : Nat × Nat} : ∀ (vs : List Value) (o : Nat) (w : World) (cur : Array Value), w.heap[g]? = some (.cells cur t fr) → o + vs.length ≤ cur.size →
    ∃ cur' : Array Value, (w.setCells g o vs).heap[g]? = some (.cells cur' t fr) ∧ cur'.toList = cur.toList.take o ++ vs ++ cur.toList.drop (o + vs.length)
  | [], o, w, cur, h, hl => ⟨cur, h, by simp⟩
  | v :: r, o, w, cur, h, hl => by
    rw [List.length_cons] at hl
    have hg := (Array.getElem?_eq_some_iff.1 h).1
    have h1 : (w.setCell ⟨g, o, none⟩ v).heap[g]? = some (.cells (cur.setIfInBounds o v) t fr) := by
      simp [World.setCell, Array.getElem?_modify, h]
    obtain ⟨cur', h2, h3⟩ := setCells_block r (o + 1) _ _ h1 (by rw [Array.size_setIfInBounds]; omega)
    refine ⟨cur', h2, ?_⟩
    have ho : o < cur.toList.length := by rw [Array.length_toList]; omega
    rw [h3, Array.toList_setIfInBounds, List.drop_set_of_lt (by omega), List.length_cons]
    rw [show (cur.toList.set o v).take (o + 1) = cur.toList.take o ++ [v] by
      rw [List.take_set, List.take_add_one, List.getElem?_eq_getElem ho]
      show (cur.toList.take o ++ [cur.toList[o]]).set o v = _
      rw [List.set_append_right _ _ (by rw [List.length_take]; omega), List.length_take, Nat.min_eq_left (by omega), Nat.sub_self]; rfl]
    rw [show o + 1 + r.length = o + (r.length + 1) by omega]
    simp
theorem take_splice {β : Type} (L vs : List β) (o N : Nat) (ho : o + vs.length ≤ N) (hN : N ≤ L.length) : (L.take o ++ vs ++ L.drop (o + vs.length)).take N = (L.take N).take o ++ vs ++ (L.take N).drop (o + vs.length) := by
  have hA : (L.take o ++ vs).length = o + vs.length := by rw [List.length_append, List.length_take]; omega
  rw [List.take_take, Nat.min_eq_left (by omega), List.drop_take, List.take_append, hA, List.take_of_length_le (by omega)]
section
variable {α : Type} (T : RowT α)
theorem RowT.cells_replicate (a : α) : ∀ n, T.cells (List.replicate n a) = (List.replicate n (T.enc a)).flatten
  | 0 => rfl
  | n + 1 => by rw [List.replicate_succ, List.replicate_succ, List.flatten_cons, ← RowT.cells_replicate a n]; rfl
/-- The cells of a row that was made. -/
theorem made_toList (z : α) (hz : T.z.cells.toList = T.enc z) (n : Nat) : (madeCells T.z.cells (n * T.sz)).toList = T.cells (List.replicate n z) := by
  have hs : T.z.cells.size = T.sz := T.zs
  have hp := T.pos
  refine List.ext_getElem? fun j => ?_
  by_cases hj : j < n * T.sz
  · have hm : (madeCells T.z.cells (n * T.sz)).toList[j]? = (T.enc z)[j % T.sz]? := by
      rw [Array.getElem?_toList]
      unfold madeCells
      rw [Array.getElem?_map, Array.getElem?_range]
      rw [if_pos hj]
      have h2 : j % T.z.cells.size < T.z.cells.size := Nat.mod_lt _ (by omega)
      show some (T.z.cells[j % T.z.cells.size]!) = _
      rw [getElem!_pos T.z.cells _ h2, ← hz, Array.getElem?_toList, ← hs, Array.getElem?_eq_getElem h2]
    rw [hm]
    have hq : j / T.sz < n := (Nat.div_lt_iff_lt_mul hp).2 hj
    have e : j = j / T.sz * T.sz + j % T.sz := by rw [Nat.mul_comm]; exact (Nat.div_add_mod j T.sz).symm
    conv => rhs; rw [e]
    rw [T.cells_get _ (j / T.sz) (by rw [List.length_replicate]; exact hq) _ (Nat.mod_lt _ hp), List.getElem_replicate]
  · rw [List.getElem?_eq_none (by rw [Array.length_toList, size_madeCells]; omega), List.getElem?_eq_none (by rw [T.cells_length, List.length_replicate]; omega)]
/-- make: a row of n zero elements. -/
theorem makeE (n : Nat) (h : n ≤ 1000000) (w : World) :
    (Instr.makeSlice T.S (.int .i64 (n : Int)) (.int .i64 (n : Int))).run Try.prog w = .ok (.slice (some ⟨w.heap.size, 0, none⟩) n n) (w.alloc (.cells (madeCells T.z.cells (n * T.sz)) T.E)) := by
  obtain ⟨i0, hi, hz0, hz1, hz2⟩ := info_parts T.info
  have hsm := T.small
  have hb : (T.bs : Int) * (n : Int) ≤ 281474976710656 := by
    have : T.bs * n ≤ 1000 * 1000000 := Nat.mul_le_mul hsm h
    have e : ((T.bs * n : Nat) : Int) = (T.bs : Int) * (n : Int) := Int.natCast_mul _ _
    omega
  have hr := run_make (P := Try.prog) w T.S T.E i0 T.z T.und hi hz0 .i64 .i64 n n (by omega) (Int.le_refl _) (by rw [hz2]; exact hb) (by omega)
  simp only [Int.toNat_natCast, hz1] at hr
  exact hr
theorem OwnE.made (z : α) (hz : T.z.cells.toList = T.enc z) (w : World) (n : Nat) (h : n ≤ 1000000) :
    OwnE T (w.alloc (.cells (madeCells T.z.cells (n * T.sz)) T.E)) w.heap.size (.slice (some ⟨w.heap.size, 0, none⟩) n n) (List.replicate n z) := by
  unfold OwnE
  rw [List.length_replicate, ← made_toList T z hz]
  exact World.ownsRow_lit w _ n (Nat.le_refl _) (by unfold maxLen; omega) (by rw [size_madeCells])
variable {T}
/-- Some cells of an own row are written. -/
theorem OwnE.write {w : World} {base g cap n : Nat} {l l' : List α} (h : OwnE T w base (.slice (some ⟨g, 0, none⟩) n cap) l) {o : Nat} (vs : List Value) (ho : o + vs.length ≤ l.length * T.sz) (hl : l'.length = l.length)
    (hc : T.cells l' = (T.cells l).take o ++ vs ++ (T.cells l).drop (o + vs.length)) : OwnE T (w.setCells g o vs) base (.slice (some ⟨g, 0, none⟩) n cap) l' := by
  obtain ⟨_, h⟩ := h
  rcases h with ⟨h, _⟩ | ⟨g', cap', cur, hv, hb, hh, hn, hc2, hsz, htake⟩
  · cases h
  · simp only [Value.slice.injEq, Option.some.injEq, Addr.mk.injEq] at hv
    obtain ⟨⟨rfl, _⟩, rfl, rfl⟩ := hv
    have hcs : l.length * T.sz ≤ cur.size := by rw [hsz]; exact Nat.mul_le_mul_right _ hn
    obtain ⟨cur', h2, h3⟩ := setCells_block vs o w cur hh (by omega)
    refine ⟨by rw [T.cells_length], .inr ⟨g, cap, cur', by rw [hl], hb, h2, by rw [hl]; exact hn, hc2, ?_, ?_⟩⟩
    · rw [← Array.length_toList, h3]; simp; omega
    · rw [h3, hl, hc, ← htake, take_splice _ _ _ _ ho (by rw [Array.length_toList]; exact hcs)]
theorem RowT.cells_take (l : List α) (i : Nat) (h : i ≤ l.length) : (T.cells l).take (i * T.sz) = T.cells (l.take i) := by
  have e : T.cells l = T.cells (l.take i) ++ T.cells (l.drop i) := by rw [← T.cells_append, List.take_append_drop]
  have hl : (T.cells (l.take i)).length = i * T.sz := by rw [T.cells_length, List.length_take, Nat.min_eq_left h]
  rw [e, List.take_left' hl]
theorem RowT.cells_drop (l : List α) (i : Nat) (h : i ≤ l.length) : (T.cells l).drop (i * T.sz) = T.cells (l.drop i) := by
  have e : T.cells l = T.cells (l.take i) ++ T.cells (l.drop i) := by rw [← T.cells_append, List.take_append_drop]
  have hl : (T.cells (l.take i)).length = i * T.sz := by rw [T.cells_length, List.length_take, Nat.min_eq_left h]
  rw [e, List.drop_left' hl]
/-- Element i is written. -/
theorem OwnE.put {w : World} {base g cap n : Nat} {l : List α} (h : OwnE T w base (.slice (some ⟨g, 0, none⟩) n cap) l) {i : Nat} (hi : i < l.length) (y : α) :
    OwnE T (w.setCells g (i * T.sz) (T.enc y)) base (.slice (some ⟨g, 0, none⟩) n cap) (l.set i y) := by
  have hle : (i + 1) * T.sz ≤ l.length * T.sz := Nat.mul_le_mul_right _ hi
  have e1 : i * T.sz + (T.enc y).length = (i + 1) * T.sz := by rw [T.len, Nat.succ_mul]
  refine h.write (T.enc y) (by rw [e1]; exact hle) (List.length_set ..) ?_
  rw [e1, RowT.cells_take l i (by omega), RowT.cells_drop l (i + 1) (by omega), List.set_eq_take_append_cons_drop, if_pos hi, T.cells_append]
  show _ ++ (T.enc y ++ T.cells (l.drop (i + 1))) = _
  rw [List.append_assoc]
/-- There is memory for element i of an own row, and it may be written. -/
theorem OwnE.there {w : World} {base g cap n : Nat} {l : List α} (h : OwnE T w base (.slice (some ⟨g, 0, none⟩) n cap) l) {i : Nat} (hi : i < l.length) : w.there g (i * T.sz) T.sz := by
  obtain ⟨_, h⟩ := h
  rcases h with ⟨h, _⟩ | ⟨g', cap', cur, hv, hb, hh, hn, hc2, hsz, htake⟩
  · cases h
  · simp only [Value.slice.injEq, Option.some.injEq, Addr.mk.injEq] at hv
    obtain ⟨⟨rfl, _⟩, rfl, rfl⟩ := hv
    intro j hj
    have h1 : (i + 1) * T.sz ≤ cap * T.sz := Nat.mul_le_mul_right _ (by omega)
    rw [Nat.succ_mul] at h1
    refine ⟨?_, ?_⟩
    · simp [World.cell?, hh]; omega
    · simp [World.frozen?, hh]
/-- A slice of a row that is read. -/
theorem IsE.take {w : World} {a : Option Addr} {len : Nat} {l : List α} (h : IsE T w a len l) {i : Nat} (hi : i ≤ l.length) : IsE T w a i (l.take i) := by
  refine ⟨by rw [List.length_take]; omega, fun h0 => ?_⟩
  rw [List.length_take] at h0
  obtain ⟨b, off, ha, hb, hc⟩ := h.2 (by omega)
  refine ⟨b, off, ha, hb, fun j u hu => hc j u ?_⟩
  rw [← RowT.cells_take l i hi] at hu
  have hj : j < i * T.sz := by have := (List.getElem?_eq_some_iff.1 hu).1; rw [List.length_take] at this; omega
  rwa [List.getElem?_take_of_lt hj] at hu
theorem IsE.drop {w : World} {b off : Nat} {len : Nat} {l : List α} (h : IsE T w (some ⟨b, off, none⟩) len l) {i : Nat} (hi : i ≤ l.length) : IsE T w (some ⟨b, off + i * T.sz, none⟩) (len - i) (l.drop i) := by
  refine ⟨by rw [List.length_drop, h.1], fun h0 => ?_⟩
  rw [List.length_drop] at h0
  obtain ⟨b', off', ha, hb, hc⟩ := h.2 (by omega)
  cases ha
  refine ⟨_, _, rfl, hb, fun j u hu => ?_⟩
  rw [← RowT.cells_drop l i hi, List.getElem?_drop] at hu
  have := hc _ u hu
  rwa [← Nat.add_assoc] at this
/-- An element is read whole. -/
theorem IsE.range {w : World} {a : Option Addr} {len : Nat} {l : List α} (h : IsE T w a len l) {i : Nat} (hi : i < l.length) : ∃ b off, a = some ⟨b, off, none⟩ ∧ b < w.heap.size ∧ w.rangeAt b (off + i * T.sz) (T.enc l[i]) := by
  obtain ⟨b, off, ha, hb, hc⟩ := h.get hi
  exact ⟨b, off, ha, hb, fun j v hv => by rw [Nat.add_assoc]; exact hc j v hv⟩
end
end Go.Proofs.Ytofnokikjfmfgaa
