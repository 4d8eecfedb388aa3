/-
  What Decode answers, of package section and of the document: for texts of up to a million bytes. The memory that was there stays.
-/
import Derived.Test.YtofnokikjfmfgaaScC
import Derived.Test.YtofnokikjfmfgaaWord
import Derived.StillTailTactics
namespace Go.Proofs.Ytofnokikjfmfgaa
open Go.RowKit Gf Sct Bit
set_option maxRecDepth 100000
/-- The section that is answered lies in block b, and is nothing yet. -/
structure Ans (w0 : World) (b : Nat) (W : World) : Prop where
  z : SecAt b zs W
  k : Keeps w0 W
  m : w0.heap.size ≤ b
section
variable {w0 W W' : World} {b : Nat}
theorem Ans.keeps (h : Ans w0 b W) (k : Keeps W W') : Ans w0 b W' := ⟨h.z.keeps k, h.k.trans k, h.m⟩
theorem Ans.eqv (h : Ans w0 b W) (k : Eqv W W') : Ans w0 b W' := ⟨h.z.eqv k, h.k.eqv k, h.m⟩
theorem Ans.alloc (h : Ans w0 b W) (o : Obj) : Ans w0 b (W.alloc o) := h.keeps ((Keeps.refl W).alloc o)
theorem Ans.ends (h : Ans w0 b W) (t : Sec) : SecAt b t (W.setCells b 0 (secC t)) ∧ Keeps w0 (W.setCells b 0 (secC t)) := ⟨h.z.store t, (only_setCells b (secC t) 0 W).keeps h.k h.m⟩
end
theorem Ans.start {w0 w wA : World} (hk : Keeps w0 w) {b : Nat} {T : TypeId} (hb : w.heap.size = b) (hA : w.alloc (.cells #[.int .i64 0, .bool false, .int .i64 0, .int .i64 0, .bool false, .int .i64 0, .int .i64 0, .string ⟨#[]⟩] T) = wA) : Ans w0 b wA := by
  subst hb
  subst hA
  exact ⟨SecAt.made w zs T, hk.alloc _, Below.size hk⟩
/-- The document's section of opened bytes, by the numbers of its bytes. -/
theorem sc_nums {m : List UInt8} {x0 x1 x3 x4 x5 x6 x7 : UInt8} {B : ByteArray} (e0 : cf m 0 = x0) (e1 : cf m 1 = x1) (e3 : cf m 3 = x3) (e4 : cf m 4 = x4) (e5 : cf m 5 = x5) (e6 : cf m 6 = x6) (e7 : cf m 7 = x7) (eB : st (m.drop 8) = B) :
    sc m = ⟨(x0.toNat : Int), (x1.toNat : Int) / 64 % 2 == 1, (x3.toNat : Int) * 256 + (x4.toNat : Int), (x5.toNat : Int) / 2 % 32, (x5.toNat : Int) % 2 == 1, (x6.toNat : Int), (x7.toNat : Int), B⟩ := by
  have d : ∀ n : Nat, decide (n = 1) = ((n : Int) == 1) := by
    intro n
    by_cases h : n = 1
    · subst h; decide
    · rw [decide_eq_false h]; symm; simp; omega
  subst e0 e1 e3 e4 e5 e6 e7 eB
  unfold sc
  rw [d, d]
  unfold c
  simp
end Go.Proofs.Ytofnokikjfmfgaa
