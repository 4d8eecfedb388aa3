/-
  What the document's ReadSlice answers. The memory that was there stays.
-/
import Derived.Test.YtlghkdkaifcliaaDoorDsS
namespace Go.Proofs.YtlghkdkaifcliaaDoor
open Go.RowKit Gf Ds
set_option maxRecDepth 100000
set_option linter.unusedVariables false
theorem lvRs {w : World} {b : Nat} {s : Slc} (h : w.rangeAt b 0 (slC s)) : (loadVar 47 ⟨b, 0, none⟩).run Tryd.prog w = .ok (slV s) w := run_loadVar_mid (P := Tryd.prog) w b 0 _ (slC s) _ h Tryd.underlying47 rfl (by kernel_rfl)
theorem slC_one (s : Slc) : ∀ u ∈ slC s, u.oneCell' = true := by
  intro u hu
  simp only [slC, List.mem_cons, List.not_mem_nil, or_false] at hu
  rcases hu with rfl | rfl | rfl | rfl | rfl | rfl | rfl <;> rfl
theorem wp_stSl {ops : Array Oper} {rest : List Oper} {o : Oper} {a : Act} {w : World} {Q : Exit → Act → World → Prop} {b off : Nat} (s : Slc) (h : w.there b off 7) (hgd : o.guard = none) (x y : Operand) (ho : o.op = .store 47 x y)
    (hx : a.eval x = .pointer (some ⟨b, off, none⟩)) (hy : a.eval y = slV s) (k : wpList Tryd.prog ops Q rest (a.put o.dst undef) (w.setCells b off (slC s))) : wpList Tryd.prog ops Q (o :: rest) a w :=
  wpList_store_mid hgd _ x y ho b off (slC s).toArray hx hy h (by kernel_rfl) (all_oneCell_toArray (slC_one s)) k
def DrsPost (w : World) (q : Slc × Int) (e : Ending) (w' : World) : Prop := e = .returned (.tuple #[slV q.1, .int .i64 q.2]) ∧ Keeps w w'
theorem rsl_kind {d : Dsc} (h : d.tag ≠ 119) : rsl d = (zSl, 14) := by unfold rsl; rw [if_pos h]
theorem rsl_short {d : Dsc} (h : d.tag = 119) (k : d.body.size < 3) : rsl d = (zSl, 10) := by unfold rsl; rw [if_neg (fun x => x h), if_pos k]
theorem rsl_form {d : Dsc} (h : d.tag = 119) (k : ¬ d.body.size < 3) (f : ¬ fmSl (ls d.body)) : rsl d = (zSl, 12) := by unfold rsl; rw [if_neg (fun x => x h), if_neg k, if_pos f]
theorem rsl_ok {d : Dsc} (h : d.tag = 119) (k : ¬ d.body.size < 3) (f : fmSl (ls d.body)) : rsl d = (rdSl (ls d.body), 0) := by unfold rsl; rw [if_neg (fun x => x h), if_neg k, if_neg (fun x => x f)]
set_option maxHeartbeats 1600000 in
theorem drsl_kind (d : Dsc) (w : World) (h : d.tag ≠ 119) : Calls Tryd.prog 22 #[dsV d] w (DrsPost w (rsl d)) := by
  obtain ⟨X, hX⟩ : ∃ X, w.heap.size = X := ⟨_, rfl⟩
  obtain ⟨wA, hA⟩ : ∃ wX, w.alloc (.cells #[.int .i64 d.tag, .string d.body] 44) = wX := ⟨_, rfl⟩
  obtain ⟨wB, hB⟩ : ∃ wX, wA.alloc (.cells #[.bool false, .bool false, .int .i64 0, .int .i64 0, .int .i64 0, .int .i64 0, .string ⟨#[]⟩] 47) = wX := ⟨_, rfl⟩
  have hz : wA.heap.size = X + 1 := by rw [← hA, World.size_alloc, hX]
  have kA : Keeps w wA := by rw [← hA]; exact (Keeps.refl w).alloc _
  have kB : Keeps wA wB := by rw [← hB]; exact (Keeps.refl wA).alloc _
  have HX := Lib.hid (show CsAt X (dsC d) wB from CsAt.keeps (w := wA) (by rw [← hX, ← hA]; exact CsAt.made w #[.int .i64 d.tag, .string d.body] _ (by simp)) kB)
  have HD := Lib.hid (show CsAns w (X + 1) (slC zSl) wB from ⟨by rw [← hz, ← hB]; exact CsAt.made wA #[.bool false, .bool false, .int .i64 0, .int .i64 0, .int .i64 0, .int .i64 0, .string ⟨#[]⟩] _ (by simp), kA.trans kB, by omega⟩)
  have x0 := HX.out.cell 0 rfl
  have HF := Lib.hid (rsl_kind h)
  have hb : (d.tag != 119) = true := bne_iff_ne.2 h
  clear kA kB h
  obtain ⟨tag, body⟩ := d
  simp only at hA hb
  go_enter Tryd.func22, Tryd.ntmps22
  go_wp2_with (refine wp_stSl (b := X + 1) (off := 0) zSl (HD.out.z.there (by decide)) rfl _ _ rfl rfl rfl ?_)
  refine cs_ret2 Tryd.results22 (lvRs (HD.out.ends (slC zSl) rfl).z.r) rfl rfl rfl ?_
  exact ⟨(by rw [HF.out]; rfl), (HD.out.ends (slC zSl) rfl).k⟩
-- cases
set_option maxHeartbeats 1600000 in
theorem drsl_short (d : Dsc) (w : World) (h : d.tag = 119) (k : d.body.size < 3) : Calls Tryd.prog 22 #[dsV d] w (DrsPost w (rsl d)) := by
  obtain ⟨X, hX⟩ : ∃ X, w.heap.size = X := ⟨_, rfl⟩
  obtain ⟨wA, hA⟩ : ∃ wX, w.alloc (.cells #[.int .i64 d.tag, .string d.body] 44) = wX := ⟨_, rfl⟩
  obtain ⟨wB, hB⟩ : ∃ wX, wA.alloc (.cells #[.bool false, .bool false, .int .i64 0, .int .i64 0, .int .i64 0, .int .i64 0, .string ⟨#[]⟩] 47) = wX := ⟨_, rfl⟩
  have hz : wA.heap.size = X + 1 := by rw [← hA, World.size_alloc, hX]
  have kA : Keeps w wA := by rw [← hA]; exact (Keeps.refl w).alloc _
  have kB : Keeps wA wB := by rw [← hB]; exact (Keeps.refl wA).alloc _
  have HX := Lib.hid (show CsAt X (dsC d) wB from CsAt.keeps (w := wA) (by rw [← hX, ← hA]; exact CsAt.made w #[.int .i64 d.tag, .string d.body] _ (by simp)) kB)
  have HD := Lib.hid (show CsAns w (X + 1) (slC zSl) wB from ⟨by rw [← hz, ← hB]; exact CsAt.made wA #[.bool false, .bool false, .int .i64 0, .int .i64 0, .int .i64 0, .int .i64 0, .string ⟨#[]⟩] _ (by simp), kA.trans kB, by omega⟩)
  have x0 := HX.out.cell 0 rfl
  have x1 := HX.out.cell 1 rfl
  clear kA kB
  have HF := Lib.hid (rsl_short h k)
  obtain ⟨tag, body⟩ := d
  simp only at *
  subst h
  have hi : (body.size : Int) < 3 := by omega
  clear k
  go_enter Tryd.func22, Tryd.ntmps22
  go_wp2_with (refine wp_stSl (b := X + 1) (off := 0) zSl (HD.out.z.there (by decide)) rfl _ _ rfl rfl rfl ?_)
  refine cs_ret2 Tryd.results22 (lvRs (HD.out.ends (slC zSl) rfl).z.r) rfl rfl rfl ?_
  exact ⟨(by rw [HF.out]; rfl), (HD.out.ends (slC zSl) rfl).k⟩
set_option maxHeartbeats 1600000 in
theorem drsl_f1 (d : Dsc) (w : World) (h : d.tag = 119) (k : ¬ d.body.size < 3) (f : 255 < d.body.size) : Calls Tryd.prog 22 #[dsV d] w (DrsPost w (rsl d)) := by
  obtain ⟨X, hX⟩ : ∃ X, w.heap.size = X := ⟨_, rfl⟩
  obtain ⟨wA, hA⟩ : ∃ wX, w.alloc (.cells #[.int .i64 d.tag, .string d.body] 44) = wX := ⟨_, rfl⟩
  obtain ⟨wB, hB⟩ : ∃ wX, wA.alloc (.cells #[.bool false, .bool false, .int .i64 0, .int .i64 0, .int .i64 0, .int .i64 0, .string ⟨#[]⟩] 47) = wX := ⟨_, rfl⟩
  have hz : wA.heap.size = X + 1 := by rw [← hA, World.size_alloc, hX]
  have kA : Keeps w wA := by rw [← hA]; exact (Keeps.refl w).alloc _
  have kB : Keeps wA wB := by rw [← hB]; exact (Keeps.refl wA).alloc _
  have HX := Lib.hid (show CsAt X (dsC d) wB from CsAt.keeps (w := wA) (by rw [← hX, ← hA]; exact CsAt.made w #[.int .i64 d.tag, .string d.body] _ (by simp)) kB)
  have HD := Lib.hid (show CsAns w (X + 1) (slC zSl) wB from ⟨by rw [← hz, ← hB]; exact CsAt.made wA #[.bool false, .bool false, .int .i64 0, .int .i64 0, .int .i64 0, .int .i64 0, .string ⟨#[]⟩] _ (by simp), kA.trans kB, by omega⟩)
  have x0 := HX.out.cell 0 rfl
  have x1 := HX.out.cell 1 rfl
  clear kA kB
  have HF := Lib.hid (rsl_form h k (fun q => by have := q.1; rw [← ls_size] at this; omega))
  obtain ⟨tag, body⟩ := d
  simp only at *
  subst h
  have hi : ¬ (body.size : Int) < 3 := by omega
  have z0 : 0 < body.size := by omega
  have i0 : (0 : Int) < (body.size : Int) := by omega
  have g0 := ls_get body 0 z0
  obtain ⟨c0, hc0⟩ : ∃ c, cf (ls body) 0 = c := ⟨_, rfl⟩
  rw [hc0] at g0
  have b0 := u8_bd c0
  obtain ⟨N, hN⟩ : ∃ N, c0.toNat = N := ⟨_, rfl⟩
  have e8 : (N : Int) % 256 = (N : Int) := by have := c0.toNat_lt; omega
  have wr0 := wrapI (a := (N : Int)) (by omega) (by omega)
  have hN255 : N ≤ 255 := by have := c0.toNat_lt; omega
  obtain ⟨A, hA1⟩ : ∃ A : Nat, N / 64 = A := ⟨_, rfl⟩
  obtain ⟨A2, hA2⟩ : ∃ B : Nat, A % 2 = B := ⟨_, rfl⟩
  obtain ⟨C, hC1⟩ : ∃ A : Nat, N / 8 = A := ⟨_, rfl⟩
  obtain ⟨C2, hC2⟩ : ∃ B : Nat, C % 4 = B := ⟨_, rfl⟩
  obtain ⟨E, hE1⟩ : ∃ A : Nat, N % 8 = A := ⟨_, rfl⟩
  have d1 : (N : Int) / 64 = (A : Int) := by omega
  have d1t : (N : Int).tdiv 64 = (A : Int) := by rw [Int.tdiv_eq_ediv_of_nonneg (by omega)]; exact d1
  have d2 : (A : Int) % 2 = (A2 : Int) := by omega
  have d2t : (A : Int).tmod 2 = (A2 : Int) := by rw [Int.tmod_eq_emod_of_nonneg (by omega)]; exact d2
  have d3 : (N : Int) / 8 = (C : Int) := by omega
  have d3t : (N : Int).tdiv 8 = (C : Int) := by rw [Int.tdiv_eq_ediv_of_nonneg (by omega)]; exact d3
  have d4 : (C : Int) % 4 = (C2 : Int) := by omega
  have d4t : (C : Int).tmod 4 = (C2 : Int) := by rw [Int.tmod_eq_emod_of_nonneg (by omega)]; exact d4
  have d5 : (N : Int) % 8 = (E : Int) := by omega
  have d5t : (N : Int).tmod 8 = (E : Int) := by rw [Int.tmod_eq_emod_of_nonneg (by omega)]; exact d5
  have wa := wrapI (a := (A : Int)) (by omega) (by omega)
  have wa2 := wrapI (a := (A2 : Int)) (by omega) (by omega)
  have wc := wrapI (a := (C : Int)) (by omega) (by omega)
  have wc2 := wrapI (a := (C2 : Int)) (by omega) (by omega)
  have we := wrapI (a := (E : Int)) (by omega) (by omega)
  have j1 : (255 : Int) < (body.size : Int) := by omega
  clear hA1 hA2 hC1 hC2 hE1 hc0 k
  clear f
  go_enter Tryd.func22, Tryd.ntmps22
  go_wp2_with (refine wp_stSl (b := X + 1) (off := 0) zSl (HD.out.z.there (by decide)) rfl _ _ rfl rfl rfl ?_)
  refine cs_ret2 Tryd.results22 (lvRs (HD.out.ends (slC zSl) rfl).z.r) rfl rfl rfl ?_
  exact ⟨(by rw [HF.out]; rfl), (HD.out.ends (slC zSl) rfl).k⟩
set_option maxHeartbeats 1600000 in
theorem drsl_f2 (d : Dsc) (w : World) (h : d.tag = 119) (k : ¬ d.body.size < 3) (f : ¬ 255 < d.body.size) (f2 : ¬ (cf (ls d.body) 0).toNat / 64 % 2 = 0) : Calls Tryd.prog 22 #[dsV d] w (DrsPost w (rsl d)) := by
  obtain ⟨X, hX⟩ : ∃ X, w.heap.size = X := ⟨_, rfl⟩
  obtain ⟨wA, hA⟩ : ∃ wX, w.alloc (.cells #[.int .i64 d.tag, .string d.body] 44) = wX := ⟨_, rfl⟩
  obtain ⟨wB, hB⟩ : ∃ wX, wA.alloc (.cells #[.bool false, .bool false, .int .i64 0, .int .i64 0, .int .i64 0, .int .i64 0, .string ⟨#[]⟩] 47) = wX := ⟨_, rfl⟩
  have hz : wA.heap.size = X + 1 := by rw [← hA, World.size_alloc, hX]
  have kA : Keeps w wA := by rw [← hA]; exact (Keeps.refl w).alloc _
  have kB : Keeps wA wB := by rw [← hB]; exact (Keeps.refl wA).alloc _
  have HX := Lib.hid (show CsAt X (dsC d) wB from CsAt.keeps (w := wA) (by rw [← hX, ← hA]; exact CsAt.made w #[.int .i64 d.tag, .string d.body] _ (by simp)) kB)
  have HD := Lib.hid (show CsAns w (X + 1) (slC zSl) wB from ⟨by rw [← hz, ← hB]; exact CsAt.made wA #[.bool false, .bool false, .int .i64 0, .int .i64 0, .int .i64 0, .int .i64 0, .string ⟨#[]⟩] _ (by simp), kA.trans kB, by omega⟩)
  have x0 := HX.out.cell 0 rfl
  have x1 := HX.out.cell 1 rfl
  clear kA kB
  have HF := Lib.hid (rsl_form h k (fun q => f2 q.2.1))
  obtain ⟨tag, body⟩ := d
  simp only at *
  subst h
  have hi : ¬ (body.size : Int) < 3 := by omega
  have z0 : 0 < body.size := by omega
  have i0 : (0 : Int) < (body.size : Int) := by omega
  have g0 := ls_get body 0 z0
  obtain ⟨c0, hc0⟩ : ∃ c, cf (ls body) 0 = c := ⟨_, rfl⟩
  rw [hc0] at g0
  have b0 := u8_bd c0
  obtain ⟨N, hN⟩ : ∃ N, c0.toNat = N := ⟨_, rfl⟩
  have e8 : (N : Int) % 256 = (N : Int) := by have := c0.toNat_lt; omega
  have wr0 := wrapI (a := (N : Int)) (by omega) (by omega)
  have hN255 : N ≤ 255 := by have := c0.toNat_lt; omega
  obtain ⟨A, hA1⟩ : ∃ A : Nat, N / 64 = A := ⟨_, rfl⟩
  obtain ⟨A2, hA2⟩ : ∃ B : Nat, A % 2 = B := ⟨_, rfl⟩
  obtain ⟨C, hC1⟩ : ∃ A : Nat, N / 8 = A := ⟨_, rfl⟩
  obtain ⟨C2, hC2⟩ : ∃ B : Nat, C % 4 = B := ⟨_, rfl⟩
  obtain ⟨E, hE1⟩ : ∃ A : Nat, N % 8 = A := ⟨_, rfl⟩
  have d1 : (N : Int) / 64 = (A : Int) := by omega
  have d1t : (N : Int).tdiv 64 = (A : Int) := by rw [Int.tdiv_eq_ediv_of_nonneg (by omega)]; exact d1
  have d2 : (A : Int) % 2 = (A2 : Int) := by omega
  have d2t : (A : Int).tmod 2 = (A2 : Int) := by rw [Int.tmod_eq_emod_of_nonneg (by omega)]; exact d2
  have d3 : (N : Int) / 8 = (C : Int) := by omega
  have d3t : (N : Int).tdiv 8 = (C : Int) := by rw [Int.tdiv_eq_ediv_of_nonneg (by omega)]; exact d3
  have d4 : (C : Int) % 4 = (C2 : Int) := by omega
  have d4t : (C : Int).tmod 4 = (C2 : Int) := by rw [Int.tmod_eq_emod_of_nonneg (by omega)]; exact d4
  have d5 : (N : Int) % 8 = (E : Int) := by omega
  have d5t : (N : Int).tmod 8 = (E : Int) := by rw [Int.tmod_eq_emod_of_nonneg (by omega)]; exact d5
  have wa := wrapI (a := (A : Int)) (by omega) (by omega)
  have wa2 := wrapI (a := (A2 : Int)) (by omega) (by omega)
  have wc := wrapI (a := (C : Int)) (by omega) (by omega)
  have wc2 := wrapI (a := (C2 : Int)) (by omega) (by omega)
  have we := wrapI (a := (E : Int)) (by omega) (by omega)
  rw [hc0, hN, hA1, hA2] at f2
  have j1 : ¬ (255 : Int) < (body.size : Int) := by omega
  have j2 : ((A2 : Int) == 1) = true := by rw [beq_iff_eq]; omega
  clear hA1 hA2 hC1 hC2 hE1 hc0 k
  clear f f2
  go_enter Tryd.func22, Tryd.ntmps22
  go_wp2_with (refine wp_stSl (b := X + 1) (off := 0) zSl (HD.out.z.there (by decide)) rfl _ _ rfl rfl rfl ?_)
  refine cs_ret2 Tryd.results22 (lvRs (HD.out.ends (slC zSl) rfl).z.r) rfl rfl rfl ?_
  exact ⟨(by rw [HF.out]; rfl), (HD.out.ends (slC zSl) rfl).k⟩
set_option maxHeartbeats 1600000 in
theorem drsl_f3 (d : Dsc) (w : World) (h : d.tag = 119) (k : ¬ d.body.size < 3) (f : ¬ 255 < d.body.size) (f2 : (cf (ls d.body) 0).toNat / 64 % 2 = 0) (f3 : ¬ (cf (ls d.body) 0).toNat / 8 % 4 = 3) : Calls Tryd.prog 22 #[dsV d] w (DrsPost w (rsl d)) := by
  obtain ⟨X, hX⟩ : ∃ X, w.heap.size = X := ⟨_, rfl⟩
  obtain ⟨wA, hA⟩ : ∃ wX, w.alloc (.cells #[.int .i64 d.tag, .string d.body] 44) = wX := ⟨_, rfl⟩
  obtain ⟨wB, hB⟩ : ∃ wX, wA.alloc (.cells #[.bool false, .bool false, .int .i64 0, .int .i64 0, .int .i64 0, .int .i64 0, .string ⟨#[]⟩] 47) = wX := ⟨_, rfl⟩
  have hz : wA.heap.size = X + 1 := by rw [← hA, World.size_alloc, hX]
  have kA : Keeps w wA := by rw [← hA]; exact (Keeps.refl w).alloc _
  have kB : Keeps wA wB := by rw [← hB]; exact (Keeps.refl wA).alloc _
  have HX := Lib.hid (show CsAt X (dsC d) wB from CsAt.keeps (w := wA) (by rw [← hX, ← hA]; exact CsAt.made w #[.int .i64 d.tag, .string d.body] _ (by simp)) kB)
  have HD := Lib.hid (show CsAns w (X + 1) (slC zSl) wB from ⟨by rw [← hz, ← hB]; exact CsAt.made wA #[.bool false, .bool false, .int .i64 0, .int .i64 0, .int .i64 0, .int .i64 0, .string ⟨#[]⟩] _ (by simp), kA.trans kB, by omega⟩)
  have x0 := HX.out.cell 0 rfl
  have x1 := HX.out.cell 1 rfl
  clear kA kB
  have HF := Lib.hid (rsl_form h k (fun q => f3 q.2.2.1))
  obtain ⟨tag, body⟩ := d
  simp only at *
  subst h
  have hi : ¬ (body.size : Int) < 3 := by omega
  have z0 : 0 < body.size := by omega
  have i0 : (0 : Int) < (body.size : Int) := by omega
  have g0 := ls_get body 0 z0
  obtain ⟨c0, hc0⟩ : ∃ c, cf (ls body) 0 = c := ⟨_, rfl⟩
  rw [hc0] at g0
  have b0 := u8_bd c0
  obtain ⟨N, hN⟩ : ∃ N, c0.toNat = N := ⟨_, rfl⟩
  have e8 : (N : Int) % 256 = (N : Int) := by have := c0.toNat_lt; omega
  have wr0 := wrapI (a := (N : Int)) (by omega) (by omega)
  have hN255 : N ≤ 255 := by have := c0.toNat_lt; omega
  obtain ⟨A, hA1⟩ : ∃ A : Nat, N / 64 = A := ⟨_, rfl⟩
  obtain ⟨A2, hA2⟩ : ∃ B : Nat, A % 2 = B := ⟨_, rfl⟩
  obtain ⟨C, hC1⟩ : ∃ A : Nat, N / 8 = A := ⟨_, rfl⟩
  obtain ⟨C2, hC2⟩ : ∃ B : Nat, C % 4 = B := ⟨_, rfl⟩
  obtain ⟨E, hE1⟩ : ∃ A : Nat, N % 8 = A := ⟨_, rfl⟩
  have d1 : (N : Int) / 64 = (A : Int) := by omega
  have d1t : (N : Int).tdiv 64 = (A : Int) := by rw [Int.tdiv_eq_ediv_of_nonneg (by omega)]; exact d1
  have d2 : (A : Int) % 2 = (A2 : Int) := by omega
  have d2t : (A : Int).tmod 2 = (A2 : Int) := by rw [Int.tmod_eq_emod_of_nonneg (by omega)]; exact d2
  have d3 : (N : Int) / 8 = (C : Int) := by omega
  have d3t : (N : Int).tdiv 8 = (C : Int) := by rw [Int.tdiv_eq_ediv_of_nonneg (by omega)]; exact d3
  have d4 : (C : Int) % 4 = (C2 : Int) := by omega
  have d4t : (C : Int).tmod 4 = (C2 : Int) := by rw [Int.tmod_eq_emod_of_nonneg (by omega)]; exact d4
  have d5 : (N : Int) % 8 = (E : Int) := by omega
  have d5t : (N : Int).tmod 8 = (E : Int) := by rw [Int.tmod_eq_emod_of_nonneg (by omega)]; exact d5
  have wa := wrapI (a := (A : Int)) (by omega) (by omega)
  have wa2 := wrapI (a := (A2 : Int)) (by omega) (by omega)
  have wc := wrapI (a := (C : Int)) (by omega) (by omega)
  have wc2 := wrapI (a := (C2 : Int)) (by omega) (by omega)
  have we := wrapI (a := (E : Int)) (by omega) (by omega)
  rw [hc0, hN, hA1, hA2] at f2
  rw [hc0, hN, hC1, hC2] at f3
  have j1 : ¬ (255 : Int) < (body.size : Int) := by omega
  have j2 : ((A2 : Int) == 1) = false := by rw [beq_eq_false_iff_ne]; omega
  have j3 : ((C2 : Int) != 3) = true := bne_iff_ne.2 (by omega)
  clear hA1 hA2 hC1 hC2 hE1 hc0 k
  clear f f2 f3
  go_enter Tryd.func22, Tryd.ntmps22
  go_wp2_with (refine wp_stSl (b := X + 1) (off := 0) zSl (HD.out.z.there (by decide)) rfl _ _ rfl rfl rfl ?_)
  refine cs_ret2 Tryd.results22 (lvRs (HD.out.ends (slC zSl) rfl).z.r) rfl rfl rfl ?_
  exact ⟨(by rw [HF.out]; rfl), (HD.out.ends (slC zSl) rfl).k⟩
set_option maxHeartbeats 1600000 in
theorem drsl_f4 (d : Dsc) (w : World) (h : d.tag = 119) (k : ¬ d.body.size < 3) (f : ¬ 255 < d.body.size) (f2 : (cf (ls d.body) 0).toNat / 64 % 2 = 0) (f3 : (cf (ls d.body) 0).toNat / 8 % 4 = 3) (f4 : ¬ (cf (ls d.body) 0).toNat % 8 ≤ 3) : Calls Tryd.prog 22 #[dsV d] w (DrsPost w (rsl d)) := by
  obtain ⟨X, hX⟩ : ∃ X, w.heap.size = X := ⟨_, rfl⟩
  obtain ⟨wA, hA⟩ : ∃ wX, w.alloc (.cells #[.int .i64 d.tag, .string d.body] 44) = wX := ⟨_, rfl⟩
  obtain ⟨wB, hB⟩ : ∃ wX, wA.alloc (.cells #[.bool false, .bool false, .int .i64 0, .int .i64 0, .int .i64 0, .int .i64 0, .string ⟨#[]⟩] 47) = wX := ⟨_, rfl⟩
  have hz : wA.heap.size = X + 1 := by rw [← hA, World.size_alloc, hX]
  have kA : Keeps w wA := by rw [← hA]; exact (Keeps.refl w).alloc _
  have kB : Keeps wA wB := by rw [← hB]; exact (Keeps.refl wA).alloc _
  have HX := Lib.hid (show CsAt X (dsC d) wB from CsAt.keeps (w := wA) (by rw [← hX, ← hA]; exact CsAt.made w #[.int .i64 d.tag, .string d.body] _ (by simp)) kB)
  have HD := Lib.hid (show CsAns w (X + 1) (slC zSl) wB from ⟨by rw [← hz, ← hB]; exact CsAt.made wA #[.bool false, .bool false, .int .i64 0, .int .i64 0, .int .i64 0, .int .i64 0, .string ⟨#[]⟩] _ (by simp), kA.trans kB, by omega⟩)
  have x0 := HX.out.cell 0 rfl
  have x1 := HX.out.cell 1 rfl
  clear kA kB
  have HF := Lib.hid (rsl_form h k (fun q => f4 q.2.2.2))
  obtain ⟨tag, body⟩ := d
  simp only at *
  subst h
  have hi : ¬ (body.size : Int) < 3 := by omega
  have z0 : 0 < body.size := by omega
  have i0 : (0 : Int) < (body.size : Int) := by omega
  have g0 := ls_get body 0 z0
  obtain ⟨c0, hc0⟩ : ∃ c, cf (ls body) 0 = c := ⟨_, rfl⟩
  rw [hc0] at g0
  have b0 := u8_bd c0
  obtain ⟨N, hN⟩ : ∃ N, c0.toNat = N := ⟨_, rfl⟩
  have e8 : (N : Int) % 256 = (N : Int) := by have := c0.toNat_lt; omega
  have wr0 := wrapI (a := (N : Int)) (by omega) (by omega)
  have hN255 : N ≤ 255 := by have := c0.toNat_lt; omega
  obtain ⟨A, hA1⟩ : ∃ A : Nat, N / 64 = A := ⟨_, rfl⟩
  obtain ⟨A2, hA2⟩ : ∃ B : Nat, A % 2 = B := ⟨_, rfl⟩
  obtain ⟨C, hC1⟩ : ∃ A : Nat, N / 8 = A := ⟨_, rfl⟩
  obtain ⟨C2, hC2⟩ : ∃ B : Nat, C % 4 = B := ⟨_, rfl⟩
  obtain ⟨E, hE1⟩ : ∃ A : Nat, N % 8 = A := ⟨_, rfl⟩
  have d1 : (N : Int) / 64 = (A : Int) := by omega
  have d1t : (N : Int).tdiv 64 = (A : Int) := by rw [Int.tdiv_eq_ediv_of_nonneg (by omega)]; exact d1
  have d2 : (A : Int) % 2 = (A2 : Int) := by omega
  have d2t : (A : Int).tmod 2 = (A2 : Int) := by rw [Int.tmod_eq_emod_of_nonneg (by omega)]; exact d2
  have d3 : (N : Int) / 8 = (C : Int) := by omega
  have d3t : (N : Int).tdiv 8 = (C : Int) := by rw [Int.tdiv_eq_ediv_of_nonneg (by omega)]; exact d3
  have d4 : (C : Int) % 4 = (C2 : Int) := by omega
  have d4t : (C : Int).tmod 4 = (C2 : Int) := by rw [Int.tmod_eq_emod_of_nonneg (by omega)]; exact d4
  have d5 : (N : Int) % 8 = (E : Int) := by omega
  have d5t : (N : Int).tmod 8 = (E : Int) := by rw [Int.tmod_eq_emod_of_nonneg (by omega)]; exact d5
  have wa := wrapI (a := (A : Int)) (by omega) (by omega)
  have wa2 := wrapI (a := (A2 : Int)) (by omega) (by omega)
  have wc := wrapI (a := (C : Int)) (by omega) (by omega)
  have wc2 := wrapI (a := (C2 : Int)) (by omega) (by omega)
  have we := wrapI (a := (E : Int)) (by omega) (by omega)
  rw [hc0, hN, hA1, hA2] at f2
  rw [hc0, hN, hC1, hC2] at f3
  rw [hc0, hN, hE1] at f4
  have j1 : ¬ (255 : Int) < (body.size : Int) := by omega
  have j2 : ((A2 : Int) == 1) = false := by rw [beq_eq_false_iff_ne]; omega
  have j3 : ((C2 : Int) != 3) = false := by rw [f3]; rfl
  have j4 : (3 : Int) < (E : Int) := by omega
  clear hA1 hA2 hC1 hC2 hE1 hc0 k
  clear f f2 f3 f4
  go_enter Tryd.func22, Tryd.ntmps22
  go_wp2_with (refine wp_stSl (b := X + 1) (off := 0) zSl (HD.out.z.there (by decide)) rfl _ _ rfl rfl rfl ?_)
  refine cs_ret2 Tryd.results22 (lvRs (HD.out.ends (slC zSl) rfl).z.r) rfl rfl rfl ?_
  exact ⟨(by rw [HF.out]; rfl), (HD.out.ends (slC zSl) rfl).k⟩
set_option maxHeartbeats 1600000 in
theorem drsl_ok (d : Dsc) (w : World) (h : d.tag = 119) (k : ¬ d.body.size < 3) (f : ¬ 255 < d.body.size) (f2 : (cf (ls d.body) 0).toNat / 64 % 2 = 0) (f3 : (cf (ls d.body) 0).toNat / 8 % 4 = 3) (f4 : (cf (ls d.body) 0).toNat % 8 ≤ 3) : Calls Tryd.prog 22 #[dsV d] w (DrsPost w (rsl d)) := by
  obtain ⟨X, hX⟩ : ∃ X, w.heap.size = X := ⟨_, rfl⟩
  obtain ⟨wA, hA⟩ : ∃ wX, w.alloc (.cells #[.int .i64 d.tag, .string d.body] 44) = wX := ⟨_, rfl⟩
  obtain ⟨wB, hB⟩ : ∃ wX, wA.alloc (.cells #[.bool false, .bool false, .int .i64 0, .int .i64 0, .int .i64 0, .int .i64 0, .string ⟨#[]⟩] 47) = wX := ⟨_, rfl⟩
  have hz : wA.heap.size = X + 1 := by rw [← hA, World.size_alloc, hX]
  have kA : Keeps w wA := by rw [← hA]; exact (Keeps.refl w).alloc _
  have kB : Keeps wA wB := by rw [← hB]; exact (Keeps.refl wA).alloc _
  have HX := Lib.hid (show CsAt X (dsC d) wB from CsAt.keeps (w := wA) (by rw [← hX, ← hA]; exact CsAt.made w #[.int .i64 d.tag, .string d.body] _ (by simp)) kB)
  have HD := Lib.hid (show CsAns w (X + 1) (slC zSl) wB from ⟨by rw [← hz, ← hB]; exact CsAt.made wA #[.bool false, .bool false, .int .i64 0, .int .i64 0, .int .i64 0, .int .i64 0, .string ⟨#[]⟩] _ (by simp), kA.trans kB, by omega⟩)
  have x0 := HX.out.cell 0 rfl
  have x1 := HX.out.cell 1 rfl
  clear kA kB
  have HF := rsl_ok h k ⟨by rw [← ls_size]; omega, f2, f3, f4⟩
  obtain ⟨tag, body⟩ := d
  simp only at *
  subst h
  have hi : ¬ (body.size : Int) < 3 := by omega
  have z0 : 0 < body.size := by omega
  have i0 : (0 : Int) < (body.size : Int) := by omega
  have g0 := ls_get body 0 z0
  obtain ⟨c0, hc0⟩ : ∃ c, cf (ls body) 0 = c := ⟨_, rfl⟩
  rw [hc0] at g0
  have b0 := u8_bd c0
  obtain ⟨N, hN⟩ : ∃ N, c0.toNat = N := ⟨_, rfl⟩
  have e8 : (N : Int) % 256 = (N : Int) := by have := c0.toNat_lt; omega
  have wr0 := wrapI (a := (N : Int)) (by omega) (by omega)
  have hN255 : N ≤ 255 := by have := c0.toNat_lt; omega
  obtain ⟨A, hA1⟩ : ∃ A : Nat, N / 64 = A := ⟨_, rfl⟩
  obtain ⟨A2, hA2⟩ : ∃ B : Nat, A % 2 = B := ⟨_, rfl⟩
  obtain ⟨C, hC1⟩ : ∃ A : Nat, N / 8 = A := ⟨_, rfl⟩
  obtain ⟨C2, hC2⟩ : ∃ B : Nat, C % 4 = B := ⟨_, rfl⟩
  obtain ⟨E, hE1⟩ : ∃ A : Nat, N % 8 = A := ⟨_, rfl⟩
  have d1 : (N : Int) / 64 = (A : Int) := by omega
  have d1t : (N : Int).tdiv 64 = (A : Int) := by rw [Int.tdiv_eq_ediv_of_nonneg (by omega)]; exact d1
  have d2 : (A : Int) % 2 = (A2 : Int) := by omega
  have d2t : (A : Int).tmod 2 = (A2 : Int) := by rw [Int.tmod_eq_emod_of_nonneg (by omega)]; exact d2
  have d3 : (N : Int) / 8 = (C : Int) := by omega
  have d3t : (N : Int).tdiv 8 = (C : Int) := by rw [Int.tdiv_eq_ediv_of_nonneg (by omega)]; exact d3
  have d4 : (C : Int) % 4 = (C2 : Int) := by omega
  have d4t : (C : Int).tmod 4 = (C2 : Int) := by rw [Int.tmod_eq_emod_of_nonneg (by omega)]; exact d4
  have d5 : (N : Int) % 8 = (E : Int) := by omega
  have d5t : (N : Int).tmod 8 = (E : Int) := by rw [Int.tmod_eq_emod_of_nonneg (by omega)]; exact d5
  have wa := wrapI (a := (A : Int)) (by omega) (by omega)
  have wa2 := wrapI (a := (A2 : Int)) (by omega) (by omega)
  have wc := wrapI (a := (C : Int)) (by omega) (by omega)
  have wc2 := wrapI (a := (C2 : Int)) (by omega) (by omega)
  have we := wrapI (a := (E : Int)) (by omega) (by omega)
  rw [hc0, hN, hA1, hA2] at f2
  rw [hc0, hN, hC1, hC2] at f3
  rw [hc0, hN, hE1] at f4
  have j1 : ¬ (255 : Int) < (body.size : Int) := by omega
  have j2 : ((A2 : Int) == 1) = false := by rw [beq_eq_false_iff_ne]; omega
  have j3 : ((C2 : Int) != 3) = false := by rw [f3]; rfl
  have j4 : ¬ (3 : Int) < (E : Int) := by omega
  obtain ⟨G, hG⟩ : ∃ A : Nat, N / 128 = A := ⟨_, rfl⟩
  obtain ⟨J, hJ⟩ : ∃ A : Nat, N / 32 = A := ⟨_, rfl⟩
  obtain ⟨J2, hJ2⟩ : ∃ A : Nat, J % 2 = A := ⟨_, rfl⟩
  obtain ⟨E1, hE2⟩ : ∃ A : Nat, E + 1 = A := ⟨_, rfl⟩
  obtain ⟨R, hR⟩ : ∃ A : Nat, 256 * E1 = A := ⟨_, rfl⟩
  have d6 : (N : Int) / 128 = (G : Int) := by omega
  have d6t : (N : Int).tdiv 128 = (G : Int) := by rw [Int.tdiv_eq_ediv_of_nonneg (by omega)]; exact d6
  have d7 : (N : Int) / 32 = (J : Int) := by omega
  have d7t : (N : Int).tdiv 32 = (J : Int) := by rw [Int.tdiv_eq_ediv_of_nonneg (by omega)]; exact d7
  have d8 : (J : Int) % 2 = (J2 : Int) := by omega
  have d8t : (J : Int).tmod 2 = (J2 : Int) := by rw [Int.tmod_eq_emod_of_nonneg (by omega)]; exact d8
  have d9 : (E : Int) + 1 = (E1 : Int) := by omega
  have d10 : 256 * (E1 : Int) = (R : Int) := by omega
  have wg := wrapI (a := (G : Int)) (by omega) (by omega)
  have wj := wrapI (a := (J : Int)) (by omega) (by omega)
  have wj2 := wrapI (a := (J2 : Int)) (by omega) (by omega)
  have we1 := wrapI (a := (E1 : Int)) (by omega) (by omega)
  have wrr := wrapI (a := (R : Int)) (by omega) (by omega)
  obtain ⟨b1, hb1⟩ : ∃ b, ((G : Int) == 1) = b := ⟨_, rfl⟩
  obtain ⟨b2, hb2⟩ : ∃ b, ((J2 : Int) == 1) = b := ⟨_, rfl⟩
  obtain ⟨c1, hc1⟩ : ∃ c, cf (ls body) 1 = c := ⟨_, rfl⟩
  obtain ⟨c2, hc2⟩ : ∃ c, cf (ls body) 2 = c := ⟨_, rfl⟩
  have z1 : 1 < body.size := by omega
  have z2 : 2 < body.size := by omega
  have i1 : (1 : Int) < (body.size : Int) := by omega
  have i2 : (2 : Int) < (body.size : Int) := by omega
  have i3 : (3 : Int) ≤ (body.size : Int) := by omega
  have g1 := ls_get body 1 z1
  have g2 := ls_get body 2 z2
  rw [hc1] at g1
  rw [hc2] at g2
  have bb1 := u8_bd c1
  obtain ⟨N2, hN2⟩ : ∃ N, c2.toNat = N := ⟨_, rfl⟩
  have hN2b : N2 ≤ 255 := by have := c2.toNat_lt; omega
  have e81 : (c1.toNat : Int) % 256 = (c1.toNat : Int) := by omega
  have e82 : (N2 : Int) % 256 = (N2 : Int) := by omega
  have wc1 := wrapI (a := (c1.toNat : Int)) (by omega) (by omega)
  have wn2 := wrapI (a := (N2 : Int)) (by omega) (by omega)
  obtain ⟨P, hP⟩ : ∃ A : Nat, N2 / 16 = A := ⟨_, rfl⟩
  obtain ⟨Q, hQ⟩ : ∃ A : Nat, N2 % 16 = A := ⟨_, rfl⟩
  have d11 : (N2 : Int) / 16 = (P : Int) := by omega
  have d11t : (N2 : Int).tdiv 16 = (P : Int) := by rw [Int.tdiv_eq_ediv_of_nonneg (by omega)]; exact d11
  have d12 : (N2 : Int) % 16 = (Q : Int) := by omega
  have d12t : (N2 : Int).tmod 16 = (Q : Int) := by rw [Int.tmod_eq_emod_of_nonneg (by omega)]; exact d12
  have wp := wrapI (a := (P : Int)) (by omega) (by omega)
  have wq := wrapI (a := (Q : Int)) (by omega) (by omega)
  obtain ⟨B3, hB3⟩ : ∃ B, body.extract 3 body.size = B := ⟨_, rfl⟩
  have hrd : rdSl (ls body) = ⟨b1, b2, (R : Int), (c1.toNat : Int), (P : Int), (Q : Int), B3⟩ := by
    unfold rdSl
    rw [hc0, hc1, hc2, hN, hN2]
    have q1 : decide (N / 128 = 1) = b1 := by
      rw [← hb1, hG, ← Bool.beq_eq_decide_eq, Bool.eq_iff_iff]
      simp only [beq_iff_eq]; omega
    have q2 : decide (N / 32 % 2 = 1) = b2 := by
      rw [← hb2, hJ, hJ2, ← Bool.beq_eq_decide_eq, Bool.eq_iff_iff]
      simp only [beq_iff_eq]; omega
    rw [q1, q2, show ((256 * (N % 8 + 1) : Nat) : Int) = (R : Int) by omega, hP, hQ]
    congr 1
    rw [← hB3, ← st_ls (body.extract 3 body.size), ls_part, List.take_of_length_le (by rw [List.length_drop, ← ls_size]; exact Nat.le_refl _)]
  rw [hrd] at HF
  have HF := Lib.hid HF
  clear hA1 hA2 hC1 hC2 hE1 hc0 k f f2 f3 f4 hG hJ hJ2 hE2 hR hc1 hc2 hP hQ hrd
  go_enter Tryd.func22, Tryd.ntmps22
  go_wp2
  refine wp_draw_tail 29 (by kernel_rfl) [.int .i64 (N : Int), .int .i64 (G : Int), .bool b1, .int .i64 (N : Int), .int .i64 (J : Int), .int .i64 (J2 : Int), .bool b2, .int .i64 (N : Int), .int .i64 (E : Int), .int .i64 (E1 : Int), .int .i64 (R : Int), .pointer (some ⟨X, 1, none⟩), .string body, .int .u8 (c1.toNat : Int), .int .i64 (c1.toNat : Int), .pointer (some ⟨X, 1, none⟩), .string body, .int .u8 (N2 : Int), .int .i64 (N2 : Int), .int .i64 (P : Int), .pointer (some ⟨X, 1, none⟩), .string body, .int .u8 (N2 : Int), .int .i64 (N2 : Int), .int .i64 (Q : Int), .pointer (some ⟨X, 1, none⟩), .string body, .string B3, slV ⟨b1, b2, (R : Int), (c1.toNat : Int), (P : Int), (Q : Int), B3⟩]
    (fun _ W => Eqv wB W) rfl (by kernel_rfl) (by kernel_rfl) (fin := ?fin0) ?hfin0 (Eqv.drew wB) ?each0 ?hend0
  case hfin0 => simp [seqA, dstOf, Act.put]; rfl
  case each0 =>
    refine ⟨?_, ?_, ?_, ?_, ?_, ?_, ?_, ?_, ?_, ?_, ?_, ?_, ?_, ?_, ?_, ?_, ?_, ?_, ?_, ?_, ?_, ?_, ?_, ?_, ?_, ?_, ?_, ?_, ?_, trivial⟩
    all_goals intro L w5 h0 hd hs hw
    all_goals unfold Does
    all_goals have y1 := (HX.out.eqv hw).cell 1 rfl
    all_goals go_simp
    all_goals exact fun L' k => hw
  case hend0 =>
  intro L w5 hL hw
  have HD5 := Lib.hid (HD.out.eqv hw)
  simp only [List.drop_succ_cons, List.drop_zero]
  clear hw hL x0 x1
  go_wp2_with (refine wp_stSl (b := X + 1) (off := 0) ⟨b1, b2, (R : Int), (c1.toNat : Int), (P : Int), (Q : Int), B3⟩ (HD5.out.z.there (by decide)) rfl _ _ rfl rfl rfl ?_)
  refine cs_ret2 Tryd.results22 (lvRs (s := ⟨b1, b2, (R : Int), (c1.toNat : Int), (P : Int), (Q : Int), B3⟩) (HD5.out.ends (slC ⟨b1, b2, (R : Int), (c1.toNat : Int), (P : Int), (Q : Int), B3⟩) rfl).z.r) rfl rfl rfl ?_
  exact ⟨(by rw [HF.out]; rfl), (HD5.out.ends (slC ⟨b1, b2, (R : Int), (c1.toNat : Int), (P : Int), (Q : Int), B3⟩) rfl).k⟩
theorem drsl_any (d : Dsc) (w : World) : Calls Tryd.prog 22 #[dsV d] w (DrsPost w (rsl d)) := by
  by_cases h : d.tag = 119
  · by_cases k : d.body.size < 3
    · exact drsl_short d w h k
    · by_cases f : 255 < d.body.size
      · exact drsl_f1 d w h k f
      · by_cases f2 : (cf (ls d.body) 0).toNat / 64 % 2 = 0
        · by_cases f3 : (cf (ls d.body) 0).toNat / 8 % 4 = 3
          · by_cases f4 : (cf (ls d.body) 0).toNat % 8 ≤ 3
            · exact drsl_ok d w h k f f2 f3 f4
            · exact drsl_f4 d w h k f f2 f3 f4
          · exact drsl_f3 d w h k f f2 f3
        · exact drsl_f2 d w h k f f2
  · exact drsl_kind d w h
/-- The same descriptor, with the same error. -/
theorem dlike_any (d : Dsc) (e : Int) (w : World) : Calls Tryd.prog 23 #[dsV d, .int .i64 e, dsV d, .int .i64 e] w fun r w' => r = .returned (.bool true) ∧ Keeps w w' := by
  obtain ⟨X, hX⟩ : ∃ X, w.heap.size = X := ⟨_, rfl⟩
  obtain ⟨wA, hA⟩ : ∃ wX, w.alloc (.cells #[.int .i64 d.tag, .string d.body] 37) = wX := ⟨_, rfl⟩
  obtain ⟨wB, hB⟩ : ∃ wX, wA.alloc (.cells #[.int .i64 d.tag, .string d.body] 44) = wX := ⟨_, rfl⟩
  have hz : wA.heap.size = X + 1 := by rw [← hA, World.size_alloc, hX]
  have kA : Keeps w wA := by rw [← hA]; exact (Keeps.refl w).alloc _
  have kB : Keeps wA wB := by rw [← hB]; exact (Keeps.refl wA).alloc _
  have HK := Lib.hid (kA.trans kB)
  have HX := (show CsAt X (dsC d) wB from CsAt.keeps (w := wA) (by rw [← hX, ← hA]; exact CsAt.made w #[.int .i64 d.tag, .string d.body] _ (by simp)) kB)
  have HY := (show CsAt (X + 1) (dsC d) wB by rw [← hz, ← hB]; exact CsAt.made wA #[.int .i64 d.tag, .string d.body] _ (by simp))
  have x0 := HX.cell 0 rfl
  have x1 := HX.cell 1 rfl
  have y0 := HY.cell 0 rfl
  have y1 := HY.cell 1 rfl
  clear kA kB HX HY
  obtain ⟨tag, body⟩ := d
  simp only at hA hB
  go_enter Tryd.func23, Tryd.ntmps23
  go_wp2
  go_ret
  exact ⟨rfl, HK.out⟩
end Go.Proofs.YtlghkdkaifcliaaDoor
