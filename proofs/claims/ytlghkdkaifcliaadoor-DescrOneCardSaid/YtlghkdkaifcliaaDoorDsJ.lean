/-
  What Targets and ReadTargets of package descr answer. The memory that was there stays.
-/
import Derived.Test.YtlghkdkaifcliaaDoorDsX
import Derived.Test.YtlghkdkaifcliaaDoorDsF
import Derived.Test.YtlghkdkaifcliaaDoorBdk
namespace Go.Proofs.YtlghkdkaifcliaaDoor
open Go.RowKit Gf Ds
set_option maxRecDepth 100000
set_option linter.unusedVariables false
set_option linter.unusedSimpArgs false
abbrev TT (w : World) : Prop := Tab 2 wsT w
abbrev tgC (x : Tgt) : List Value := [.int .u8 (x.a.toNat : Int), .int .u8 (x.b.toNat : Int), .int .u8 (x.c.toNat : Int), .int .u8 (x.d.toNat : Int), .int .i64 x.bits]
abbrev tgV (x : Tgt) : Value := .agg #[.int .u8 (x.a.toNat : Int), .int .u8 (x.b.toNat : Int), .int .u8 (x.c.toNat : Int), .int .u8 (x.d.toNat : Int), .int .i64 x.bits]
theorem tgC_one (s : Tgt) : ∀ u ∈ tgC s, u.oneCell' = true := by
  intro u hu
  simp only [tgC, List.mem_cons, List.not_mem_nil, or_false] at hu
  rcases hu with rfl | rfl | rfl | rfl | rfl <;> rfl
def rowTg : RowT Tgt where
  E := 67
  S := 56
  sz := 5
  bs := 16
  z := .agg #[.int .u8 0, .int .u8 0, .int .u8 0, .int .u8 0, .int .i64 0]
  enc := tgC
  und := Tryd.underlying56
  info := by kernel_rfl
  zs := rfl
  pos := by decide
  small := by decide
  len := fun _ => rfl
  one := tgC_one
theorem lvTg {w : World} {b : Nat} {s : Tgt} (h : w.rangeAt b 0 (tgC s)) : (loadVar 67 ⟨b, 0, none⟩).run Tryd.prog w = .ok (tgV s) w := run_loadVar_mid (P := Tryd.prog) w b 0 _ (tgC s) _ h Tryd.underlying67 rfl (by kernel_rfl)
theorem wp_ldTg {ops : Array Oper} {rest : List Oper} {o : Oper} {a : Act} {w : World} {Q : Exit → Act → World → Prop} {b off : Nat} {s : Tgt} (h : w.rangeAt b off (tgC s)) (hgd : o.guard = none) (x : Operand) (ho : o.op = .load 67 x)
    (hx : a.eval x = .pointer (some ⟨b, off, none⟩)) (k : wpList Tryd.prog ops Q rest (a.put o.dst (tgV s)) w) : wpList Tryd.prog ops Q (o :: rest) a w :=
  wpList_load_mid hgd _ x ho b off hx (tgC s) _ h Tryd.underlying67 rfl (by kernel_rfl) k
theorem wp_stTg {ops : Array Oper} {rest : List Oper} {o : Oper} {a : Act} {w : World} {Q : Exit → Act → World → Prop} {b off : Nat} (s : Tgt) (h : w.there b off 5) (hgd : o.guard = none) (x y : Operand) (ho : o.op = .store 67 x y)
    (hx : a.eval x = .pointer (some ⟨b, off, none⟩)) (hy : a.eval y = tgV s) (k : wpList Tryd.prog ops Q rest (a.put o.dst undef) (w.setCells b off (tgC s))) : wpList Tryd.prog ops Q (o :: rest) a w :=
  wpList_store_mid hgd _ x y ho b off (tgC s).toArray hx hy h (by kernel_rfl) (all_oneCell_toArray (tgC_one s)) k
theorem twrong_any (x : Tgt) (w : World) : Calls Tryd.prog 51 #[tgV x] w fun e w' => e = .returned (.bool (!decide (okT x))) ∧ Keeps w w' := by
  obtain ⟨a, b, c, d, n⟩ := x
  obtain ⟨X, hX⟩ : ∃ X, w.heap.size = X := ⟨_, rfl⟩
  obtain ⟨wA, hA⟩ : ∃ W, w.alloc (.cells #[.int .u8 (a.toNat : Int), .int .u8 (b.toNat : Int), .int .u8 (c.toNat : Int), .int .u8 (d.toNat : Int), .int .i64 n] 67) = W := ⟨_, rfl⟩
  have HK := Lib.hid (show Keeps w wA by rw [← hA]; exact (Keeps.refl w).alloc _)
  have HX := (show CsAt X (tgC ⟨a, b, c, d, n⟩) wA by rw [← hX, ← hA]; exact CsAt.made w #[.int .u8 (a.toNat : Int), .int .u8 (b.toNat : Int), .int .u8 (c.toNat : Int), .int .u8 (d.toNat : Int), .int .i64 n] _ (by simp))
  have q4 := HX.cell 4 rfl
  clear HX
  by_cases h : okT ⟨a, b, c, d, n⟩
  · have HE := Lib.hid (show (!decide (okT ⟨a, b, c, d, n⟩)) = false by rw [decide_eq_true h]; rfl)
    obtain ⟨k1, k2⟩ := h
    have h1 : ¬ n < 0 := by have : (0 : Int) ≤ n := k1; omega
    have h2 : ¬ (32 : Int) < n := by have : n ≤ 32 := k2; omega
    clear k1 k2
    go_enter Tryd.func51, Tryd.ntmps51
    go_wp2
    go_ret
    exact ⟨by rw [HE.out]; rfl, HK.out⟩
  · have HE := Lib.hid (show (!decide (okT ⟨a, b, c, d, n⟩)) = true by rw [decide_eq_false h]; rfl)
    by_cases h1 : n < 0
    · clear h
      go_enter Tryd.func51, Tryd.ntmps51
      go_wp2
      go_ret
      exact ⟨by rw [HE.out]; rfl, HK.out⟩
    · have h2 : (32 : Int) < n := by
        by_cases k : n ≤ 32
        · exact absurd ⟨by show (0 : Int) ≤ n; omega, k⟩ h
        · omega
      clear h
      go_enter Tryd.func51, Tryd.ntmps51
      go_wp2
      go_ret
      exact ⟨by rw [HE.out]; rfl, HK.out⟩
set_option maxHeartbeats 1600000 in
theorem tnums_any (x : Tgt) (w : World) : Calls Tryd.prog 52 #[tgV x] w fun e w' => e = .returned (nV [(x.a.toNat : Int), (x.b.toNat : Int), (x.c.toNat : Int), (x.d.toNat : Int), x.bits, 0, 0, 0, 0]) ∧ Keeps w w' := by
  obtain ⟨a, b, c, d, n⟩ := x
  obtain ⟨X, hX⟩ : ∃ X, w.heap.size = X := ⟨_, rfl⟩
  obtain ⟨wA, hA⟩ : ∃ W, w.alloc (.cells #[.int .u8 (a.toNat : Int), .int .u8 (b.toNat : Int), .int .u8 (c.toNat : Int), .int .u8 (d.toNat : Int), .int .i64 n] 67) = W := ⟨_, rfl⟩
  obtain ⟨wB, hB⟩ : ∃ wX, wA.alloc (.cells #[.int .i64 0, .int .i64 0, .int .i64 0, .int .i64 0, .int .i64 0, .int .i64 0, .int .i64 0, .int .i64 0, .int .i64 0] 111) = wX := ⟨_, rfl⟩
  have hz : wA.heap.size = X + 1 := by rw [← hA, World.size_alloc, hX]
  have kA : Keeps w wA := by rw [← hA]; exact (Keeps.refl w).alloc _
  have kB : Keeps wA wB := by rw [← hB]; exact (Keeps.refl wA).alloc _
  have HX := (show CsAt X (tgC ⟨a, b, c, d, n⟩) wB from CsAt.keeps (w := wA) (by rw [← hX, ← hA]; exact CsAt.made w #[.int .u8 (a.toNat : Int), .int .u8 (b.toNat : Int), .int .u8 (c.toNat : Int), .int .u8 (d.toNat : Int), .int .i64 n] _ (by simp)) kB)
  have HD := Lib.hid (show CsAns w (X + 1) (nC [0, 0, 0, 0, 0, 0, 0, 0, 0]) wB from ⟨by rw [← hz, ← hB]; exact CsAt.made wA #[.int .i64 0, .int .i64 0, .int .i64 0, .int .i64 0, .int .i64 0, .int .i64 0, .int .i64 0, .int .i64 0, .int .i64 0] _ (by simp), kA.trans kB, by omega⟩)
  have q0 := HX.cell 0 rfl
  have q1 := HX.cell 1 rfl
  have q2 := HX.cell 2 rfl
  have q3 := HX.cell 3 rfl
  have q4 := HX.cell 4 rfl
  have b0 := u8_bd a
  have b1 := u8_bd b
  have b2 := u8_bd c
  have b3 := u8_bd d
  have v0 := wrapI (a := (a.toNat : Int)) (by omega) (by omega)
  have v1 := wrapI (a := (b.toNat : Int)) (by omega) (by omega)
  have v2 := wrapI (a := (c.toNat : Int)) (by omega) (by omega)
  have v3 := wrapI (a := (d.toNat : Int)) (by omega) (by omega)
  clear kA kB HX
  go_enter Tryd.func52, Tryd.ntmps52
  go_wp2_with (refine wp_stN (b := X + 1) HD.out.z rfl (nC [(a.toNat : Int), (b.toNat : Int), (c.toNat : Int), (d.toNat : Int), n, 0, 0, 0, 0]) rfl (nC_one _) rfl _ _ rfl rfl rfl ?_)
  refine cs_ret Tryd.results52 (lvN (HD.out.ends (nC [(a.toNat : Int), (b.toNat : Int), (c.toNat : Int), (d.toNat : Int), n, 0, 0, 0, 0]) rfl).z.r rfl) rfl rfl ?_
  exact ⟨rfl, (HD.out.ends (nC [(a.toNat : Int), (b.toNat : Int), (c.toNat : Int), (d.toNat : Int), n, 0, 0, 0, 0]) rfl).k⟩
set_option maxHeartbeats 1600000 in
theorem tof_any (a b c d e : UInt8) (w : World) : Calls Tryd.prog 53 #[nV (il [a.toNat, b.toNat, c.toNat, d.toNat, e.toNat, 0, 0, 0, 0])] w fun r w' => r = .returned (tgV ⟨a, b, c, d, (e.toNat : Int)⟩) ∧ Keeps w w' := by
  obtain ⟨X, hX⟩ : ∃ X, w.heap.size = X := ⟨_, rfl⟩
  obtain ⟨wA, hA⟩ : ∃ W, w.alloc (.cells #[.int .i64 (a.toNat : Int), .int .i64 (b.toNat : Int), .int .i64 (c.toNat : Int), .int .i64 (d.toNat : Int), .int .i64 (e.toNat : Int), .int .i64 0, .int .i64 0, .int .i64 0, .int .i64 0] 111) = W := ⟨_, rfl⟩
  obtain ⟨wB, hB⟩ : ∃ wX, wA.alloc (.cells #[.int .u8 0, .int .u8 0, .int .u8 0, .int .u8 0, .int .i64 0] 67) = wX := ⟨_, rfl⟩
  have hz : wA.heap.size = X + 1 := by rw [← hA, World.size_alloc, hX]
  have kA : Keeps w wA := by rw [← hA]; exact (Keeps.refl w).alloc _
  have kB : Keeps wA wB := by rw [← hB]; exact (Keeps.refl wA).alloc _
  have HX := (show CsAt X (nC [(a.toNat : Int), (b.toNat : Int), (c.toNat : Int), (d.toNat : Int), (e.toNat : Int), 0, 0, 0, 0]) wB from CsAt.keeps (w := wA) (by rw [← hX, ← hA]; exact CsAt.made w #[.int .i64 (a.toNat : Int), .int .i64 (b.toNat : Int), .int .i64 (c.toNat : Int), .int .i64 (d.toNat : Int), .int .i64 (e.toNat : Int), .int .i64 0, .int .i64 0, .int .i64 0, .int .i64 0] _ (by simp)) kB)
  have HD := Lib.hid (show CsAns w (X + 1) (tgC ⟨0, 0, 0, 0, 0⟩) wB from ⟨by rw [← hz, ← hB]; exact CsAt.made wA #[.int .u8 0, .int .u8 0, .int .u8 0, .int .u8 0, .int .i64 0] _ (by simp), kA.trans kB, by omega⟩)
  have q0 := HX.cell 0 rfl
  have q1 := HX.cell 1 rfl
  have q2 := HX.cell 2 rfl
  have q3 := HX.cell 3 rfl
  have q4 := HX.cell 4 rfl
  have b0 := u8_bd a
  have b1 := u8_bd b
  have b2 := u8_bd c
  have b3 := u8_bd d
  have b4 := u8_bd e
  have e0 : (a.toNat : Int) % 256 = (a.toNat : Int) := by omega
  have e1 : (b.toNat : Int) % 256 = (b.toNat : Int) := by omega
  have e2 : (c.toNat : Int) % 256 = (c.toNat : Int) := by omega
  have e3 : (d.toNat : Int) % 256 = (d.toNat : Int) := by omega
  show Calls Tryd.prog 53 #[.agg #[.int .i64 (a.toNat : Int), .int .i64 (b.toNat : Int), .int .i64 (c.toNat : Int), .int .i64 (d.toNat : Int), .int .i64 (e.toNat : Int), .int .i64 0, .int .i64 0, .int .i64 0, .int .i64 0]] w _
  clear kA kB HX
  go_enter Tryd.func53, Tryd.ntmps53
  go_wp2_with (refine wp_stTg (b := X + 1) (off := 0) ⟨a, b, c, d, (e.toNat : Int)⟩ (HD.out.z.there (by decide)) rfl _ _ rfl rfl rfl ?_)
  refine cs_ret Tryd.results53 (lvTg (s := ⟨a, b, c, d, (e.toNat : Int)⟩) (HD.out.ends (tgC ⟨a, b, c, d, (e.toNat : Int)⟩) rfl).z.r) rfl rfl ?_
  exact ⟨rfl, (HD.out.ends (tgC ⟨a, b, c, d, (e.toNat : Int)⟩) rfl).k⟩
end Go.Proofs.YtlghkdkaifcliaaDoor
