/-
  Rows of numbers and rows of bytes that a call writes beside one another; more of texts that are near words. For all numbers and bytes.
-/
import Derived.Test.YtdlcloenihkkgaaMendMath
import Derived.Deep.MidRow
namespace Go.Proofs.Ytdlcloenihkkgaa
open Go.RowKit Gf
set_option maxRecDepth 100000
theorem OwnI.only {w w' : World} {base b : Nat} {v : Value} {l : List Int} (h : OwnI w base v l) (k : Only b w w') (hb : b < base) : OwnI w' base v l := by
  obtain ⟨hl, h⟩ := h
  refine ⟨hl, ?_⟩
  rcases h with h | ⟨g, cap, cur, hv, hg, hh, h5⟩
  · exact .inl h
  · exact .inr ⟨g, cap, cur, hv, hg, (k.block g (Array.getElem?_eq_some_iff.1 hh).1 (by omega)).trans hh, h5⟩
theorem OwnI.kept {w w' : World} {base : Nat} {v : Value} {l : List Int} (h : OwnI w base v l) (k : Keeps w w') : OwnI w' base v l := by
  obtain ⟨hl, h⟩ := h
  refine ⟨hl, ?_⟩
  rcases h with h | ⟨g, cap, cur, hv, hg, hh, h5⟩
  · exact .inl h
  · exact .inr ⟨g, cap, cur, hv, hg, (Below.block k g (Array.getElem?_eq_some_iff.1 hh).1).trans hh, h5⟩
theorem Blk.grown {b : Nat} {l : List UInt8} {w w' : World} {row : Option Nat} (h : Blk b l w) (hg : w.grownBy w' row) (hn : row ≠ some b) : Blk b l w' := by
  have e : w'.heap[b]? = w.heap[b]? := hg.block b h.old fun x => hn x.symm
  exact ⟨Nat.lt_of_lt_of_le h.old hg.size, fun i hi => (World.cell?_of_block (w := w) (a := ⟨b, i, none⟩) e).trans (h.cell i hi), fun i hi => (World.frozen?_of_block (w := w) (a := ⟨b, i, none⟩) e).trans (h.free i hi)⟩
/-- 'v = append(v, y)', v a row of numbers of the call's own: and nothing else turns. -/
theorem wp_pushIg {ops : Array Oper} {rest : List Oper} {o : Oper} {a : Act} {Q : Exit → Act → World → Prop} {wr : World} (hgd : o.guard = none) (s x : Operand)
    (ho : o.op = .call { callee := .builtin .append, args := #[s, x], argTypes := #[22, 22] }) {base : Nat} {v : Value} {l : List Int} (y : Int) (hown : OwnI wr base v l)
    (hs : a.eval s = v) (hx : a.eval x = .slice (some ⟨wr.heap.size, 0, none⟩) 1 1) (hl : l.length ≤ 1000000000) (hb : base ≤ wr.heap.size)
    (h : ∀ v' w', OwnI w' base v' (l ++ [y]) → (wr.alloc (.cells #[.int .i64 y] 3)).grownBy w' v.ownBlock → wpList Try.prog ops Q rest (a.put o.dst v') w') :
    wpList Try.prog ops Q (o :: rest) a (wr.alloc (.cells #[.int .i64 y] 3)) := by
  obtain ⟨i0, hi, hz0, hz1, hz2⟩ := info_parts infoI
  have hown0 : wr.ownsRow base 3 1 v l.length (l.map (Value.int .i64)) := hown
  refine wpList_append_own _ hgd s x 22 ho base 3 i0 (.int .i64 0) 1 8 Try.underlying22 hi hz0 hz1 hz2 rfl (by decide) v l.length (l.map (Value.int .i64)) hs (hown0.alloc _)
    ⟨wr.heap.size, 0, none⟩ 1 1 [.int .i64 y] hx rfl ?_ ?_ ?_ ?_ ?_ ?_
  · intro j u hj
    match j, hj with
    | 0, hj => simp at hj; subst hj; simp [Addr.add]
  · intro u hu; simp at hu; subst hu; rfl
  · unfold maxLen; omega
  · omega
  · simp; omega
  · intro v' w' h1 h2 _
    refine h v' w' ?_ h2
    unfold OwnI; rw [List.length_append, List.map_append]; exact h1
/-- k places, one behind the other, going round. -/
def ring (f : Int) (k : Nat) : List Int := (List.range k).map fun j => (f + (j : Nat)) % 255
theorem ring_length (f : Int) (k : Nat) : (ring f k).length = k := by simp [ring]
theorem ring_succ (f : Int) (k : Nat) : ring f (k + 1) = ring f k ++ [(f + (k : Nat)) % 255] := by simp [ring, List.range_succ]
theorem ring_mem {f x : Int} {k : Nat} : x ∈ ring f k ↔ ∃ j, j < k ∧ (f + (j : Nat)) % 255 = x := by simp [ring]
theorem ring_ok (f : Int) {k : Nat} (hk : k ≤ 255) : OkP (ring f k) (ring f k).length := by
  rw [okp_iff]
  refine ⟨fun x hx => ?_, ?_⟩
  · obtain ⟨j, _, rfl⟩ := ring_mem.1 hx
    omega
  · rw [List.nodup_iff_pairwise_ne, ring, List.pairwise_map]
    refine List.Pairwise.imp_of_mem (fun {a b} ha hb hne e => hne ?_) (List.nodup_iff_pairwise_ne.1 List.nodup_range)
    rw [List.mem_range] at ha hb
    omega
theorem ring_not {f : Int} {k j : Nat} (hk : k ≤ j) (hj : j < 255) : (f + (j : Nat)) % 255 ∉ ring f k := fun h => by
  obtain ⟨i, hi, e⟩ := ring_mem.1 h
  omega
theorem dif_zero {s v : List UInt8} {L : List Int} (h : ∀ i : Nat, (i : Int) ∉ L → cf s i = cf v i) : dif s v L = 0 := by
  unfold dif
  rw [List.countP_eq_zero]
  intro i _ hi
  simp only [Bool.and_eq_true, decide_eq_true_eq, Bool.not_eq_true', decide_eq_false_iff_not] at hi
  exact hi.1 (h i hi.2)
theorem near_at {s v : List UInt8} {L : List Int} (h : Near s L v) (h64 : L.length = 64 ∨ L.length = 63) {i : Nat} (hi : i < 255) (hn : (i : Int) ∉ L) : cf s i = cf v i := by
  have h2 := h.2
  have hz : roomZ L.length = 0 := by unfold roomZ; rw [if_neg (by omega)]; omega
  rw [hz] at h2
  have h3 : dif s v L = 0 := by omega
  unfold dif at h3
  rw [List.countP_eq_zero] at h3
  have := h3 i (List.mem_range.2 hi)
  simp only [Bool.and_eq_true, decide_eq_true_eq, Bool.not_eq_true', decide_eq_false_iff_not, not_and, Decidable.not_not] at this
  by_cases e : cf s i = cf v i
  · exact e
  · exact absurd (this e) hn
theorem dif_reverse (s v : List UInt8) (L : List Int) : dif s v L.reverse = dif s v L := by unfold dif; simp only [List.mem_reverse]
theorem near_reverse {s v : List UInt8} {L : List Int} : Near s L.reverse v ↔ Near s L v := by unfold Near; rw [dif_reverse, List.length_reverse]
theorem okp_reverse {L : List Int} : OkP L.reverse L.reverse.length ↔ OkP L L.length := by
  rw [okp_iff, okp_iff]; simp only [List.mem_reverse]
  rw [List.nodup_iff_pairwise_ne, List.nodup_iff_pairwise_ne, List.pairwise_reverse]
  have e : (List.Pairwise (fun a b => b ≠ a) L) ↔ List.Pairwise (fun a b => a ≠ b) L := ⟨fun h => h.imp fun h => h.symm, fun h => h.imp fun h => h.symm⟩
  rw [e]
theorem MAns.reverse {s : List UInt8} {L : List Int} {r : List UInt8} {ps : List Int} {e : Int} (h : MAns s L.reverse r ps e) : MAns s L r ps e := by
  unfold MAns at *
  rw [okp_reverse] at h
  simp only [near_reverse] at h
  exact h
theorem okp_take {L : List Int} (h : OkP L L.length) (n : Nat) : OkP (L.take n) (L.take n).length := by
  rw [okp_iff] at *
  exact ⟨fun x hx => h.1 x (List.mem_of_mem_take hx), List.Nodup.sublist (List.take_sublist n L) h.2⟩
theorem unl_mem {a b : List UInt8} : ∀ {n : Nat} {x : Int}, x ∈ unl a b n ↔ ∃ i : Nat, i < n ∧ (i : Int) = x ∧ cf a i ≠ cf b i
  | 0, x => by simp [unl]
  | n + 1, x => by
    rw [unl, List.mem_append, unl_mem]
    constructor
    · rintro (⟨i, h1, h2, h3⟩ | h)
      · exact ⟨i, by omega, h2, h3⟩
      · by_cases e : cf a n = cf b n
        · rw [if_pos e] at h; cases h
        · rw [if_neg e, List.mem_singleton] at h
          exact ⟨n, by omega, h.symm, e⟩
    · rintro ⟨i, h1, h2, h3⟩
      by_cases e : i = n
      · subst e; right; rw [if_neg h3]; simp [h2]
      · exact .inl ⟨i, by omega, h2, h3⟩
/-- Fewer places are told, and none of the others was turned. -/
theorem near_take {s v : List UInt8} {L : List Int} {n : Nat} (hs : s.length = 255) (h : Near s L v) (hl : L.length ≤ 64) (ho : ∀ m, n ≤ m → m < L.length → L.getD m 0 ∉ unlAll s v) : Near s (L.take n) v := by
  refine ⟨h.1, ?_⟩
  have h1 : dif s v (L.take n) ≤ dif s v L := by
    unfold dif
    refine count_le _ fun i hi hp => ?_
    simp only [Bool.and_eq_true, decide_eq_true_eq, Bool.not_eq_true', decide_eq_false_iff_not] at hp ⊢
    refine ⟨hp.1, fun hm => hp.2 ?_⟩
    obtain ⟨m, hm1, hm2⟩ := mem_getD hm
    by_cases hmn : m < n
    · have hlt : m < (L.take n).length := by rw [List.length_take]; omega
      have e : (L.take n).getD m 0 = L.getD m 0 := by rw [List.getD_eq_getElem?_getD, List.getD_eq_getElem?_getD, List.getElem?_take_of_lt hmn]
      rw [← hm2, ← e]; exact getD_mem hlt
    · refine absurd ?_ (ho m (by omega) hm1)
      rw [hm2]
      exact unl_mem.2 ⟨i, by rw [hs]; exact List.mem_range.1 hi, rfl, hp.1⟩
  have h2 := h.2
  have h3 : roomZ L.length ≤ roomZ (L.take n).length := by
    unfold roomZ
    rw [List.length_take, if_neg (by omega), if_neg (by omega)]; omega
  omega
/-- How many of the places that are unlike are not lost. -/
theorem unl_count (s v : List UInt8) (L : List Int) : ∀ n, (unl s v n).countP (fun x => !decide (x ∈ L)) = (List.range n).countP (fun i => decide (cf s i ≠ cf v i) && !decide ((i : Int) ∈ L))
  | 0 => rfl
  | n + 1 => by
    rw [unl, List.countP_append, unl_count s v L n, List.range_succ, List.countP_append]
    congr 1
    by_cases e : cf s n = cf v n
    · simp [e]
    · simp [e]
theorem unlAll_count {s v : List UInt8} (hs : s.length = 255) (L : List Int) : (unlAll s v).countP (fun x => !decide (x ∈ L)) = dif s v L := by
  unfold unlAll dif; rw [hs]; exact unl_count s v L 255
theorem unlAll_length (s v : List UInt8) : (unlAll s v).length ≤ s.length := unl_length s v _
/-- 'v = append(v, x...)', v a row of numbers of the call's own (of what was made since w0), x another list. -/
theorem wp_catI {ops : Array Oper} {rest : List Oper} {o : Oper} {a : Act} {Q : Exit → Act → World → Prop} {wr : World} (hgd : o.guard = none) (s x : Operand)
    (ho : o.op = .call { callee := .builtin .append, args := #[s, x], argTypes := #[22, 22] }) {w0 : World} {v : Value} {l L : List Int} {b off n c : Nat} (hown : OwnI wr w0.heap.size v l)
    (hs : a.eval s = v) (hx : a.eval x = .slice (some ⟨b, off, none⟩) n c) (hL : L.length = n) (hc : ∀ i, i < n → wr.cell? ⟨b, off + i, none⟩ = some (.int .i64 (L.getD i 0))) (hl : l.length + L.length ≤ 1000000000) (hk : Keeps w0 wr)
    (h : ∀ v' w', OwnI w' w0.heap.size v' (l ++ L) → Keeps w0 w' → wpList Try.prog ops Q rest (a.put o.dst v') w') :
    wpList Try.prog ops Q (o :: rest) a wr := by
  obtain ⟨i0, hi, hz0, hz1, hz2⟩ := info_parts infoI
  have hsz := Below.size hk
  have hown0 : wr.ownsRow w0.heap.size 3 1 v l.length (l.map (Value.int .i64)) := hown
  refine wpList_append_own _ hgd s x 22 ho w0.heap.size 3 i0 (.int .i64 0) 1 8 Try.underlying22 hi hz0 hz1 hz2 rfl (by decide) v l.length (l.map (Value.int .i64)) hs hown0
    ⟨b, off, none⟩ n c (L.map (Value.int .i64)) hx (by rw [List.length_map, hL, Nat.mul_one]) ?_ ?_ ?_ ?_ hsz ?_
  · intro j u hj
    have hlt : j < n := by have := (List.getElem?_eq_some_iff.1 hj).1; rw [List.length_map] at this; omega
    rw [Addr.add_mid, hc j hlt, ← hj, List.getElem?_map, List.getElem?_eq_getElem (by omega), List.getD_eq_getElem?_getD, List.getElem?_eq_getElem (by omega)]
    rfl
  · intro u hu
    obtain ⟨y, _, rfl⟩ := List.mem_map.1 hu
    rfl
  · unfold maxLen; omega
  · omega
  · intro v' w' h1 h2 _
    refine h v' w' ?_ ?_
    · unfold OwnI; rw [List.length_append, List.map_append, hL]; exact h1
    · exact Below.grown hk h2 hsz hown.block
theorem run_append_zero (ax : Option Addr) (c : Nat) (ty : TypeId) (w : World) : (Builtin.append_ #[22, 22] ty #[.slice none 0 0, .slice ax 0 c]).run Try.prog w = .ok (.slice none 0 0) w := by
  cases ax <;> simp [Builtin.append_, run_underlying Try.underlying22, Builtin.lenOf, Builtin.firstCells, Try.sizeOf3, loadCells, loadCellsFrom]
/-- 'v = append(nil, x...)'. -/
theorem wp_catN {ops : Array Oper} {rest : List Oper} {o : Oper} {a : Act} {Q : Exit → Act → World → Prop} {wr : World} (hgd : o.guard = none) (s x : Operand)
    (ho : o.op = .call { callee := .builtin .append, args := #[s, x], argTypes := #[22, 22] }) {w0 : World} {L : List Int} {ax : Option Addr} {n c : Nat}
    (hs : a.eval s = .slice none 0 0) (hx : a.eval x = .slice ax n c) (hI : IsI wr ax n L) (hl : L.length ≤ 1000000000) (hk : Keeps w0 wr)
    (h : ∀ v' w', OwnI w' w0.heap.size v' L → Keeps w0 w' → wpList Try.prog ops Q rest (a.put o.dst v') w') :
    wpList Try.prog ops Q (o :: rest) a wr := by
  by_cases hn : n = 0
  · subst hn
    have hL : L = [] := List.length_eq_zero_iff.1 hI.1
    subst hL
    refine wpList_plain hgd fun _ hK => ?_
    have e : (execOp a.eval o).run Try.prog wr = .ok (.value (.slice none 0 0)) wr := by
      unfold execOp
      simp [ho, resolve, invoke, builtin, hs, hx, run_append_zero, Result.andThen]
    unfold Oper.wp
    rw [e, Oper.upon_value]
    exact hK _ _ (h _ _ (OwnI.nil _ _) hk)
  · obtain ⟨b, off, rfl, _, hc⟩ := hI.2 (by omega)
    refine wp_catI hgd s x ho (OwnI.nil wr w0.heap.size) hs hx hI.1 hc (by simpa using hl) hk ?_
    intro v' w' h1 h2
    rw [List.nil_append] at h1
    exact h v' w' h1 h2
/-- A text that is turned at places that are lost, and at no more others than there is room for, is near the word. -/
theorem find_near {r v : List UInt8} {L O : List Int} (hv : IsWord v) (hO : (O.length : Int) ≤ roomZ L.length) (h : ∀ j : Nat, (j : Int) ∉ L ++ O → cf r j = cf v j) : Near r L v := by
  refine ⟨hv, ?_⟩
  have h1 : dif r v L ≤ (List.range 255).countP (fun i : Nat => decide ((i : Int) ∈ O)) := by
    unfold dif
    refine count_le _ fun i _ hp => ?_
    simp only [Bool.and_eq_true, decide_eq_true_eq, Bool.not_eq_true', decide_eq_false_iff_not] at hp ⊢
    refine Decidable.byContradiction fun hn => hp.1 (h i fun hm => ?_)
    rcases List.mem_append.1 hm with hm | hm
    · exact hp.2 hm
    · exact hn hm
  have h2 := count_in O (List.range 255) List.nodup_range
  omega
end Go.Proofs.Ytdlcloenihkkgaa
