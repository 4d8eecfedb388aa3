/-
  What the statements of layer 6 share: the chapter's example holds. The memory that was there stays.
-/
import Derived.Test.YtofnokikjfmfgaaBitsI
namespace Go.Proofs.Ytofnokikjfmfgaa
open Go.RowKit Go.Shelf Gf Bit
set_option maxRecDepth 100000
def zout : Array Value := #[.pointer none] ++ Array.replicate 128 (.int .u8 0) ++ #[.int .i64 0]
theorem infoOut : (Try.prog.info? 82).map (·.zero) = some (some (.agg zout)) := by kernel_rfl
theorem zout_get {i : Nat} (h : i < 128) : zout[1 + i]? = some (.int .u8 0) := by
  unfold zout
  rw [Array.getElem?_append_left (by simp; omega), Array.getElem?_append_right (by simp)]
  simp [h]
theorem out_zero (w : World) : OutAt w.heap.size [] (w.alloc (.cells zout 82)) := by
  refine ⟨?_, fun k hk => ?_, fun k _ => World.frozen?_alloc_new _ _ _ _, .pointer none, ?_, rfl⟩
  · rw [World.cell?_alloc_new]; rfl
  · rw [World.cell?_alloc_new, zout_get hk]; rfl
  · rw [World.cell?_alloc_new]; rfl
theorem Only.kept {c : Nat} {w0 w w' : World} (k : Only c w w') (h : Keeps w0 w) (hc : w0.heap.size ≤ c) : Keeps w0 w' := k.keeps h hc
theorem Keeps.size {w w' : World} (h : Keeps w w') : w.heap.size ≤ w'.heap.size := Below.size h
theorem Keeps.more {w0 w w' : World} (h : Keeps w0 w) (k : Keeps w w') : Keeps w0 w' := h.trans k
theorem un_of {x : Int} (h : 0 ≤ x ∧ x ≤ 18446744073709551615) : ∃ y : Nat, y < 2 ^ 64 ∧ x = un y := ⟨x.toNat, by omega, by unfold un; omega⟩
/-- Text of one string, as a call lays its row. -/
theorem otext_one {b : Nat} {L : List Bool} {W : World} (h : OutAt b L W) (s : ByteArray) (hL : L.length + 8 * s.size ≤ 1000000) :
    Calls Try.prog 50 #[.pointer (some ⟨b, 0, none⟩), .slice (some ⟨W.heap.size, 0, none⟩) 1 1] (W.alloc (.cells #[.string s] 9)) fun e w' => (∃ v, e = .returned v) ∧ OutAt b (L ++ ob (ls s)) w' ∧ Only b W w' := by
  have hb := OutR.old h
  have hk := Keeps.alloc (Keeps.refl W) (.cells #[.string s] 9)
  have := otext_any (cap := 1) (OutR.keeps h hk) [ls s] (IsT.one W s 9) (fun x e => by cases e; show W.heap.size ≠ b; omega) (by omega) (by rw [List.flatten_cons, List.flatten_nil, List.append_nil, ← ls_size]; exact hL)
  rw [List.flatten_cons, List.flatten_nil, List.append_nil] at this
  exact this.mono fun e w' hh => ⟨hh.1, hh.2.1, (Only.below hk).trans hh.2.2⟩
end Go.Proofs.Ytofnokikjfmfgaa
