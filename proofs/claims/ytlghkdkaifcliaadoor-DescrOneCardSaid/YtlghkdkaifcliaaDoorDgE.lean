/-
  What Make4 and Make6 of package datagram answer, and the document's. The memory that was there stays.
-/
import Derived.Test.YtlghkdkaifcliaaDoorDgA
import Derived.Test.YtlghkdkaifcliaaDoorBase
namespace Go.Proofs.YtlghkdkaifcliaaDoor
open Go.RowKit Gf Dg
set_option maxRecDepth 100000
/-- The error of a datagram that is to be made. -/
def mk (p k : Int) : Int := if p < 0 ∨ 256 ≤ p then 1 else if 4080 < k then 15 else 0
theorem pr_u (k : Nat) (h : k ≤ 65535) : ((pr k).map B).toArray = #[.int .u8 ((k : Int) / 256), .int .u8 ((k : Int) % 256)] := by
  unfold pr B
  rw [List.map_cons, List.map_cons, List.map_nil, UInt8.toNat_ofNat_of_lt' (show k / 256 < 256 by omega), UInt8.toNat_ofNat']
  rfl
theorem pr_conv (k : Nat) (hk : k ≤ 65535) (w : World) :
    (convert 74 9 (.slice (some ⟨w.heap.size, 0, none⟩) 2 2)).run Tryd.prog (w.alloc (.cells #[.int .u8 ((k : Int) / 256), .int .u8 ((k : Int) % 256)] 5)) = .ok (.string (st (pr k))) (w.alloc (.cells #[.int .u8 ((k : Int) / 256), .int .u8 ((k : Int) % 256)] 5)) := by
  have h := (Blk.lit w (pr k) 5).whole 2 (pr_length k).symm
  rw [pr_u k hk] at h
  exact h
/-- Of a region that draws and lays one literal (operation j, in block γ): what was there stays, and the literal is there. -/
structure PJ (w1 : World) (j : Nat) (l : List UInt8) (γ : Nat) (L : Nat → Bool) (W : World) : Prop where
  kp : Keeps w1 W
  blk : L j = true → Blk γ l W
theorem PJ.same {w1 : World} {j : Nat} {l : List UInt8} {γ : Nat} {L L' : Nat → Bool} {W : World} (h : PJ w1 j l γ L W) {i : Nat} (hn : j ≠ i) (k : ∀ x, L' x = true ↔ (L x = true ∨ x = i)) : PJ w1 j l γ L' W :=
  ⟨h.kp, fun x => h.blk (same_at k hn ▸ x)⟩
theorem PJ.on {w1 : World} {j : Nat} {l : List UInt8} {γ : Nat} {L L' : Nat → Bool} {W W' : World} (h : PJ w1 j l γ L W) {i : Nat} (hn : j ≠ i) (k : ∀ x, L' x = true ↔ (L x = true ∨ x = i)) (hk : Keeps W W') : PJ w1 j l γ L' W' :=
  ⟨h.kp.trans hk, fun x => (h.blk (same_at k hn ▸ x)).below hk⟩
theorem PJ.made {w1 : World} {j : Nat} {l : List UInt8} {γ : Nat} {L L' : Nat → Bool} {W : World} (h : PJ w1 j l γ L W) (_k : ∀ x, L' x = true ↔ (L x = true ∨ x = j)) (t : TypeId) : PJ w1 j l W.heap.size L' (W.alloc (.cells (l.map B).toArray t)) :=
  ⟨h.kp.alloc _, fun _ => Blk.lit W l t⟩
def vs6 (b N P p : Value) (s2 s3 s7 s8 s9 : ByteArray) (γ : Nat) : List Value :=
  [b, N, .string s2, .string s3, P, p, .slice (some ⟨γ, 0, none⟩) 1 1, .string s7, .string s8, .string s9, .string s9]
theorem vs6_same {b N P p : Value} {s2 s3 s7 s8 s9 : ByteArray} {γ γ' : Nat} {L : Nat → Bool} (h : L 6 = false) : ∀ j, L j = true → (vs6 b N P p s2 s3 s7 s8 s9 γ').getD j undef = (vs6 b N P p s2 s3 s7 s8 s9 γ).getD j undef
  | 0, _ => rfl
  | 1, _ => rfl
  | 2, _ => rfl
  | 3, _ => rfl
  | 4, _ => rfl
  | 5, _ => rfl
  | 6, k => by rw [h] at k; cases k
  | n + 7, _ => rfl
/-- What is made, and what is wrong. -/
def mkR (p k : Int) (l : List UInt8) : Value := if mk p k = 0 then .tuple #[.string (st l), .int .i64 0] else .tuple #[.string (st []), .int .i64 (mk p k)]
def MkPost (w0 : World) (p k : Int) (l : List UInt8) (e : Ending) (w' : World) : Prop := e = .returned (mkR p k l) ∧ Keeps w0 w'
end Go.Proofs.YtlghkdkaifcliaaDoor
namespace Go.Proofs.YtlghkdkaifcliaaDoor
open Go.RowKit Gf Dg
set_option maxRecDepth 100000
/-- Block b holds the bytes L as ints. -/
def Ints (b : Nat) (L : List UInt8) (W : World) : Prop := b < W.heap.size ∧ ∀ i, i < L.length → W.cell? ⟨b, i, none⟩ = some (.int .i64 ((cf L i).toNat : Int))
theorem Ints.keeps {b : Nat} {L : List UInt8} {W W' : World} (h : Ints b L W) (k : Keeps W W') : Ints b L W' :=
  ⟨Nat.lt_of_lt_of_le h.1 (Below.size k), fun i hi => (Below.cell k (p := ⟨b, i, none⟩) h.1).trans (h.2 i hi)⟩
def I64 (x : UInt8) : Value := .int .i64 (x.toNat : Int)
theorem Ints.lit (w : World) (L : List UInt8) (t : TypeId) : Ints w.heap.size L (w.alloc (.cells (L.map I64).toArray t)) := by
  refine ⟨by simp, fun i hi => ?_⟩
  rw [World.cell?_alloc_new, List.getElem?_toArray, List.getElem?_map, List.getElem?_eq_getElem hi, cf_lt hi]; rfl
def dtxRel (w : World) (L : List UInt8) (s i : Value) (wr : World) : Prop := ∃ k : Nat, k ≤ L.length ∧ s = .string (st (L.take k)) ∧ i = .int .i64 (k : Int) ∧ Keeps w wr
theorem one_conv (x : UInt8) (w : World) : (convert 74 9 (.slice (some ⟨w.heap.size, 0, none⟩) 1 1)).run Tryd.prog (w.alloc (.cells #[.int .u8 (x.toNat : Int)] 5)) = .ok (.string (st [x])) (w.alloc (.cells #[.int .u8 (x.toNat : Int)] 5)) :=
  (Blk.lit w [x] 5).whole 1 (n := 1) rfl
theorem pr_i (k : Nat) (h : k ≤ 65535) : (pr k).map I64 = [.int .i64 ((k : Int) / 256), .int .i64 ((k : Int) % 256)] := by
  unfold pr I64
  rw [List.map_cons, List.map_cons, List.map_nil, UInt8.toNat_ofNat_of_lt' (show k / 256 < 256 by omega), UInt8.toNat_ofNat']
  rfl
theorem ahead6_i (p : UInt8) (k : Nat) (h : k ≤ 65535) : ((ahead6 p k).map I64).toArray = #[.int .i64 96, .int .i64 0, .int .i64 0, .int .i64 0, .int .i64 ((k : Int) / 256), .int .i64 ((k : Int) % 256), .int .i64 (p.toNat : Int), .int .i64 64] := by
  unfold ahead6
  rw [List.map_append, List.map_append, pr_i k h]; rfl
theorem ahead4_i (p : UInt8) (k : Nat) (h : k ≤ 65535) : ((ahead4 p k).map I64).toArray = #[.int .i64 69, .int .i64 0, .int .i64 ((k : Int) / 256), .int .i64 ((k : Int) % 256), .int .i64 0, .int .i64 0, .int .i64 0, .int .i64 0, .int .i64 64, .int .i64 (p.toNat : Int)] := by
  unfold ahead4
  rw [List.map_append, List.map_append, pr_i k h]; rfl
theorem pr2_i (k : Nat) (h : k ≤ 65535) : ((pr k).map I64).toArray = #[.int .i64 ((k : Int) / 256), .int .i64 ((k : Int) % 256)] := by rw [pr_i k h]
theorem mk_lo {p k : Int} (h : p < 0) : mk p k = 1 := by unfold mk; rw [if_pos (.inl h)]
theorem mk_hi {p k : Int} (h : 255 < p) : mk p k = 1 := by unfold mk; rw [if_pos (.inr (by omega))]
theorem mk_long {p k : Int} (h0 : ¬ p < 0) (h1 : ¬ 255 < p) (h : 4080 < k) : mk p k = 15 := by unfold mk; rw [if_neg (by omega), if_pos h]
theorem mk_ok {p k : Int} (h0 : ¬ p < 0) (h1 : ¬ 255 < p) (h : ¬ 4080 < k) : mk p k = 0 := by unfold mk; rw [if_neg (by omega), if_neg h]
theorem mkR_no {p k e : Int} {l : List UInt8} (h : mk p k = e) (he : e ≠ 0) : mkR p k l = .tuple #[.string (st []), .int .i64 e] := by unfold mkR; rw [h, if_neg he]
theorem mkR_ok {p k : Int} {l : List UInt8} (h : mk p k = 0) : mkR p k l = .tuple #[.string (st l), .int .i64 0] := by unfold mkR; rw [if_pos h]
end Go.Proofs.YtlghkdkaifcliaaDoor
