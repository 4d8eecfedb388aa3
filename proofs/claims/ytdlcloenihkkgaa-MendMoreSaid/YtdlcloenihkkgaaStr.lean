/-
  Texts and rows of bytes in memory, as lists of bytes; the document's products and sums of bytes, as bytes; a row that the call itself makes. For all bytes.
-/
import Derived.Test.YtdlcloenihkkgaaPolyList
import Derived.Test.YtdlcloenihkkgaaGfC
import Derived.Laws.BytesArg
import Derived.OwnWalk
import Derived.WalkSpells
namespace Go.Proofs.Ytdlcloenihkkgaa
open Go.RowKit Gf
set_option maxRecDepth 100000

/-- A text's bytes; and the text of bytes. -/
def ls (s : ByteArray) : List UInt8 := s.data.toList
def st (l : List UInt8) : ByteArray := ⟨l.toArray⟩
theorem ls_st (l : List UInt8) : ls (st l) = l := rfl
theorem st_ls (s : ByteArray) : st (ls s) = s := by cases s; simp [st, ls]
theorem ls_size (s : ByteArray) : s.size = (ls s).length := Array.length_toList.symm
theorem st_size (l : List UInt8) : (st l).size = l.length := by simp [st, ByteArray.size]
theorem st_toList (l : List UInt8) : (st l).toList = l := ByteArray.toList_mk l
theorem ls_get (s : ByteArray) (k : Nat) (h : k < s.size) : s[k] = cf (ls s) k := by
  rw [cf_lt (by rw [← ls_size]; exact h)]; rfl
/-- A byte as Go's number. -/
def B (x : UInt8) : Value := .int .u8 (x.toNat : Int)
theorem xr8 (a b : UInt8) : xr (a.toNat : Int) (b.toNat : Int) = ((a ^^^ b).toNat : Int) := by
  unfold xr; rw [Int.toNat_natCast, Int.toNat_natCast, xor_toNat]
theorem gm8 (a b : UInt8) : gm (a.toNat : Int) (b.toNat : Int) = ((fm a b).toNat : Int) := by
  unfold gm; rw [Int.toNat_natCast, Int.toNat_natCast, fm_toNat]
theorem u8_bd (a : UInt8) : 0 ≤ (a.toNat : Int) ∧ (a.toNat : Int) ≤ 255 := by have := a.toNat_lt; omega
theorem radd8 (a b : UInt8) (w : World) : Calls Try.prog 41 #[.int .u8 (a.toNat : Int), .int .u8 (b.toNat : Int)] w fun e w' => e = .returned (.int .u8 ((a ^^^ b).toNat : Int)) ∧ w = w' := by
  have h := refadd_any (a.toNat : Int) (b.toNat : Int) w (u8_bd a).1 (u8_bd a).2 (u8_bd b).1 (u8_bd b).2
  rw [xr8] at h; exact h
theorem rmul8 (a b : UInt8) (w : World) : Calls Try.prog 42 #[.int .u8 (a.toNat : Int), .int .u8 (b.toNat : Int)] w fun e w' => e = .returned (.int .u8 ((fm a b).toNat : Int)) ∧ w = w' := by
  have h := refmul_any (a.toNat : Int) (b.toNat : Int) w (u8_bd a).1 (u8_bd a).2 (u8_bd b).1 (u8_bd b).2
  rw [gm8] at h; exact h

/-- The slice v is a row of the call's own (from block 'base' on) that holds the bytes l. -/
def Own (w : World) (base : Nat) (v : Value) (l : List UInt8) : Prop := w.ownsRow base 5 1 v l.length (l.map B)
theorem Own.nil (w : World) (base : Nat) : Own w base (.slice none 0 0) [] := World.ownsRow_nil _ _ _ _
theorem info8 : (Try.prog.info? 5).map (fun i => (i.zero, i.size, i.bytes)) = some (some (.int .u8 0), 1, 1) := by kernel_rfl
/-- string(v), v such a row. -/
theorem Own.text {w : World} {base : Nat} {v : Value} {l : List UInt8} (h : Own w base v l) :
    (convert 34 9 v).run Try.prog w = .ok (.string (st l)) w := by
  obtain ⟨hl, h⟩ := h
  rcases h with ⟨rfl, h0⟩ | ⟨g, cap, cur, rfl, hb, hh, hn, hc, hsz, htake⟩
  · have : l = [] := List.length_eq_zero_iff.1 h0
    subst this
    rw [run_convert_bytes_string w _ _ _ _ _ _ Try.underlying34 Try.underlying5 Try.underlying9]
    rfl
  · have e := run_convert_bytes_arg (P := Try.prog) w 34 5 Try.underlying34 Try.underlying5 g 0 l.length cap (l.map fun x => (x.toNat : Int)) (by simp) (fun i hi => by
      have h1 : cur.toList[i]? = some (B (cf l i)) := by
        have h2 : (cur.toList.take (l.length * 1))[i]? = (l.map B)[i]? := by rw [htake]
        rw [List.getElem?_take_of_lt (by omega)] at h2
        rw [h2, List.getElem?_map, List.getElem?_eq_getElem hi, cf_lt hi]; rfl
      have h3 : cur[i]? = some (B (cf l i)) := by rw [← Array.getElem?_toList]; exact h1
      show w.cell? ⟨g, 0 + i, none⟩ = _
      rw [Nat.zero_add]
      have h4 : w.cell? ⟨g, i, none⟩ = cur[i]? := by simp [World.cell?, hh]
      rw [h4, h3, List.getD_eq_getElem?_getD, List.getElem?_map, List.getElem?_eq_getElem hi, cf_lt hi]; rfl) 9 Try.underlying9
    rw [e]
    have hs : strOfNums (l.map fun x => (x.toNat : Int)) = st l := by
      simp only [strOfNums, st, List.map_map]
      congr 2
      have : ((fun n : Int => UInt8.ofNat n.toNat) ∘ fun x : UInt8 => (x.toNat : Int)) = id := by
        funext x; simp
      rw [this, List.map_id]
    rw [hs]
theorem Own.block {w : World} {base : Nat} {v : Value} {l : List UInt8} (h : Own w base v l) : ∀ k, v.ownBlock = some k → base ≤ k := by
  intro k hk
  obtain ⟨_, h⟩ := h
  rcases h with ⟨rfl, _⟩ | ⟨g, cap, cur, rfl, hb, _⟩
  · simp [Value.ownBlock] at hk
  · simp [Value.ownBlock] at hk; omega
/-- What is owned stays owned where everything that was there stays. -/
theorem Own.kept {w0 wr w1 : World} {v : Value} {l : List UInt8} (h : Own wr w0.heap.size v l) (_hk : Keeps w0 wr) (k : Keeps wr w1) : Own w1 w0.heap.size v l := by
  obtain ⟨hl, h⟩ := h
  refine ⟨hl, ?_⟩
  rcases h with h | ⟨g, cap, cur, hv, hb, hh, hn, hc, hsz, ht⟩
  · exact Or.inl h
  · have hg : g < wr.heap.size := (Array.getElem?_eq_some_iff.1 hh).1
    exact Or.inr ⟨g, cap, cur, hv, hb, (Below.block k g hg).trans hh, hn, hc, hsz, ht⟩
/-- 'v = append(v, y)', v a row of the call's own (of what was made since w0). -/
theorem wp_push8 {ops : Array Oper} {rest : List Oper} {o : Oper} {a : Act} {Q : Exit → Act → World → Prop} {wr : World} (hgd : o.guard = none) (s x : Operand)
    (ho : o.op = .call { callee := .builtin .append, args := #[s, x], argTypes := #[34, 34] }) {w0 : World} {v : Value} {l : List UInt8} (y : UInt8) (hown : Own wr w0.heap.size v l)
    (hs : a.eval s = v) (hx : a.eval x = .slice (some ⟨wr.heap.size, 0, none⟩) 1 1) (hl : l.length ≤ 1000000000) (hk : Keeps w0 wr)
    (h : ∀ v' w', Own w' w0.heap.size v' (l ++ [y]) → Keeps w0 w' → wpList Try.prog ops Q rest (a.put o.dst v') w') :
    wpList Try.prog ops Q (o :: rest) a (wr.alloc (.cells #[.int .u8 (y.toNat : Int)] 5)) := by
  obtain ⟨i0, hi, hz0, hz1, hz2⟩ := info_parts info8
  have hsz := Below.size hk
  have hown0 : wr.ownsRow w0.heap.size 5 1 v l.length (l.map B) := hown
  refine wpList_append_own _ hgd s x 34 ho w0.heap.size 5 i0 (.int .u8 0) 1 1 Try.underlying34 hi hz0 hz1 hz2 rfl (by decide) v l.length (l.map B) hs (hown0.alloc _)
    ⟨wr.heap.size, 0, none⟩ 1 1 [B y] hx rfl ?_ ?_ ?_ ?_ ?_ ?_
  · intro j u hj
    match j, hj with
    | 0, hj => simp at hj; subst hj; simp [Addr.add, B]
  · intro u hu; simp at hu; subst hu; rfl
  · unfold maxLen; omega
  · omega
  · simp; omega
  · intro v' w' h1 h2 _
    refine h v' w' ?_ ?_
    · unfold Own; rw [List.length_append, List.map_append]; exact h1
    · exact Below.grown (Below.alloc hk hsz _) h2 (by simp; omega) hown.block
end Go.Proofs.Ytdlcloenihkkgaa
