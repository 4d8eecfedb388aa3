/-
  What the document's MakeSlice and ReadSlice answer. The memory that was there stays.
-/
import Derived.Test.YtlghkdkaifcliaaDoorDsR
namespace Go.Proofs.YtlghkdkaifcliaaDoor
open Go.RowKit Gf Ds
set_option maxRecDepth 100000
set_option linter.unusedVariables false
abbrev slC (x : Slc) : List Value := [.bool x.sl, .bool x.fec, .int .i64 x.rows, .int .i64 x.burst, .int .i64 x.rate, .int .i64 x.id, .string x.more]
abbrev slV (x : Slc) : Value := .agg #[.bool x.sl, .bool x.fec, .int .i64 x.rows, .int .i64 x.burst, .int .i64 x.rate, .int .i64 x.id, .string x.more]
def zD : Dsc := ⟨0, ⟨#[]⟩⟩
def mkS (x : Slc) : Dsc × Int := if slE x = 0 then (slD x, 0) else (zD, slE x)
theorem mkS_ok {x : Slc} (h : okSl x) : mkS x = (slD x, 0) := by unfold mkS; rw [if_pos (slE_ok.2 h)]
theorem mkS_num {x : Slc} (h : ¬ numSl x) : mkS x = (zD, 15) := by
  have e : slE x = 15 := by unfold slE; rw [if_pos h]
  unfold mkS; rw [if_neg (by rw [e]; decide), e]
theorem mkS_long {x : Slc} (h : numSl x) (k : 252 < x.more.size) : mkS x = (zD, 11) := by
  have e : slE x = 11 := by unfold slE; rw [if_neg (fun y => y h), if_pos k]
  unfold mkS; rw [if_neg (by rw [e]; decide), e]
theorem lvD {w : World} {b : Nat} {s : Dsc} (h : w.rangeAt b 0 (dsC s)) : (loadVar 44 ⟨b, 0, none⟩).run Tryd.prog w = .ok (dsV s) w := run_loadVar_mid (P := Tryd.prog) w b 0 _ (dsC s) _ h Tryd.underlying44 rfl (by kernel_rfl)
def DmPost (w : World) (q : Dsc × Int) (e : Ending) (w' : World) : Prop := e = .returned (.tuple #[dsV q.1, .int .i64 q.2]) ∧ Keeps w w'
set_option maxHeartbeats 1600000 in
theorem dmake_rows (x : Slc) (w : World) (h : ¬ okR x.rows) : Calls Tryd.prog 20 #[slV x] w (DmPost w (mkS x)) := by
  obtain ⟨X, hX⟩ : ∃ X, w.heap.size = X := ⟨_, rfl⟩
  obtain ⟨wA, hA⟩ : ∃ wX, w.alloc (.cells #[.bool x.sl, .bool x.fec, .int .i64 x.rows, .int .i64 x.burst, .int .i64 x.rate, .int .i64 x.id, .string x.more] 47) = wX := ⟨_, rfl⟩
  obtain ⟨wB, hB⟩ : ∃ wX, wA.alloc (.cells #[.int .i64 0, .string ⟨#[]⟩] 44) = wX := ⟨_, rfl⟩
  have hz : wA.heap.size = X + 1 := by rw [← hA, World.size_alloc, hX]
  have kA : Keeps w wA := by rw [← hA]; exact (Keeps.refl w).alloc _
  have kB : Keeps wA wB := by rw [← hB]; exact (Keeps.refl wA).alloc _
  have HK := Lib.hid (kA.trans kB)
  have HX := Lib.hid (show CsAt X (slC x) wB from CsAt.keeps (w := wA) (by rw [← hX, ← hA]; exact CsAt.made w #[.bool x.sl, .bool x.fec, .int .i64 x.rows, .int .i64 x.burst, .int .i64 x.rate, .int .i64 x.id, .string x.more] _ (by simp)) kB)
  have HD := Lib.hid (show CsAns w (X + 1) (dsC zD) wB from ⟨by rw [← hz, ← hB]; exact CsAt.made wA #[.int .i64 0, .string ⟨#[]⟩] _ (by simp), kA.trans kB, by omega⟩)
  have x0 := HX.out.cell 0 rfl
  have x1 := HX.out.cell 1 rfl
  have x2 := HX.out.cell 2 rfl
  have x3 := HX.out.cell 3 rfl
  have x4 := HX.out.cell 4 rfl
  have x5 := HX.out.cell 5 rfl
  have x6 := HX.out.cell 6 rfl
  have d0 := HD.out.z.cell 0 rfl
  have d1 := HD.out.z.cell 1 rfl
  have f0 := HD.out.z.fz 0 (by show 0 < 2; decide)
  have f1 := HD.out.z.fz 1 (by show 1 < 2; decide)
  have HB := Lib.hid (fun W => din_any x.burst 255 W)
  have HR := Lib.hid (fun W => din_any x.rate 15 W)
  have HI := Lib.hid (fun W => din_any x.id 15 W)
  clear kA kB
  have HF := Lib.hid (mkS_num (fun k : numSl x => h k.1))
  obtain ⟨sl, fec, rows, burst, rate, id, more⟩ := x
  simp only at hA h HB HR HI
  unfold okR at h
  have r1 : (rows != 256) = true := bne_iff_ne.2 (by omega)
  have r2 : (rows != 512) = true := bne_iff_ne.2 (by omega)
  have r3 : (rows != 768) = true := bne_iff_ne.2 (by omega)
  have r4 : (rows != 1024) = true := bne_iff_ne.2 (by omega)
  clear h
  go_enter Tryd.func20, Tryd.ntmps20
  go_wp2
  refine cs_ret2 Tryd.results20 (lvD (HD.out.ends (dsC zD) rfl).z.r) rfl rfl rfl ?_
  exact ⟨(by rw [HF.out]; rfl), (HD.out.ends (dsC zD) rfl).k⟩
set_option maxHeartbeats 1600000 in
theorem dmake_burst_256 (x : Slc) (w : World) (e : x.rows = 256) (h : ¬ (0 ≤ x.burst ∧ x.burst ≤ 255)) : Calls Tryd.prog 20 #[slV x] w (DmPost w (mkS x)) := by
  obtain ⟨X, hX⟩ : ∃ X, w.heap.size = X := ⟨_, rfl⟩
  obtain ⟨wA, hA⟩ : ∃ wX, w.alloc (.cells #[.bool x.sl, .bool x.fec, .int .i64 x.rows, .int .i64 x.burst, .int .i64 x.rate, .int .i64 x.id, .string x.more] 47) = wX := ⟨_, rfl⟩
  obtain ⟨wB, hB⟩ : ∃ wX, wA.alloc (.cells #[.int .i64 0, .string ⟨#[]⟩] 44) = wX := ⟨_, rfl⟩
  have hz : wA.heap.size = X + 1 := by rw [← hA, World.size_alloc, hX]
  have kA : Keeps w wA := by rw [← hA]; exact (Keeps.refl w).alloc _
  have kB : Keeps wA wB := by rw [← hB]; exact (Keeps.refl wA).alloc _
  have HK := Lib.hid (kA.trans kB)
  have HX := Lib.hid (show CsAt X (slC x) wB from CsAt.keeps (w := wA) (by rw [← hX, ← hA]; exact CsAt.made w #[.bool x.sl, .bool x.fec, .int .i64 x.rows, .int .i64 x.burst, .int .i64 x.rate, .int .i64 x.id, .string x.more] _ (by simp)) kB)
  have HD := Lib.hid (show CsAns w (X + 1) (dsC zD) wB from ⟨by rw [← hz, ← hB]; exact CsAt.made wA #[.int .i64 0, .string ⟨#[]⟩] _ (by simp), kA.trans kB, by omega⟩)
  have x0 := HX.out.cell 0 rfl
  have x1 := HX.out.cell 1 rfl
  have x2 := HX.out.cell 2 rfl
  have x3 := HX.out.cell 3 rfl
  have x4 := HX.out.cell 4 rfl
  have x5 := HX.out.cell 5 rfl
  have x6 := HX.out.cell 6 rfl
  have d0 := HD.out.z.cell 0 rfl
  have d1 := HD.out.z.cell 1 rfl
  have f0 := HD.out.z.fz 0 (by show 0 < 2; decide)
  have f1 := HD.out.z.fz 1 (by show 1 < 2; decide)
  have HB := Lib.hid (fun W => din_any x.burst 255 W)
  have HR := Lib.hid (fun W => din_any x.rate 15 W)
  have HI := Lib.hid (fun W => din_any x.id 15 W)
  clear kA kB
  simp only [decide_eq_false h] at HB
  have HF := Lib.hid (mkS_num (fun k : numSl x => h k.2.1))
  obtain ⟨sl, fec, rows, burst, rate, id, more⟩ := x
  simp only at hA e HB HR HI
  subst e
  clear h
  go_enter Tryd.func20, Tryd.ntmps20
  go_wp2_with (go_at_call 42; (first | (with_reducible refine (HB.out _).mono ?_) | (with_reducible refine (HR.out _).mono ?_) | (with_reducible refine (HI.out _).mono ?_)); rintro _ w1 ⟨rfl, rfl⟩)
  refine cs_ret2 Tryd.results20 (lvD (HD.out.ends (dsC zD) rfl).z.r) rfl rfl rfl ?_
  exact ⟨(by rw [HF.out]; rfl), (HD.out.ends (dsC zD) rfl).k⟩
set_option maxHeartbeats 1600000 in
theorem dmake_rate_256 (x : Slc) (w : World) (e : x.rows = 256) (h1 : 0 ≤ x.burst ∧ x.burst ≤ 255) (h : ¬ (0 ≤ x.rate ∧ x.rate ≤ 15)) : Calls Tryd.prog 20 #[slV x] w (DmPost w (mkS x)) := by
  obtain ⟨X, hX⟩ : ∃ X, w.heap.size = X := ⟨_, rfl⟩
  obtain ⟨wA, hA⟩ : ∃ wX, w.alloc (.cells #[.bool x.sl, .bool x.fec, .int .i64 x.rows, .int .i64 x.burst, .int .i64 x.rate, .int .i64 x.id, .string x.more] 47) = wX := ⟨_, rfl⟩
  obtain ⟨wB, hB⟩ : ∃ wX, wA.alloc (.cells #[.int .i64 0, .string ⟨#[]⟩] 44) = wX := ⟨_, rfl⟩
  have hz : wA.heap.size = X + 1 := by rw [← hA, World.size_alloc, hX]
  have kA : Keeps w wA := by rw [← hA]; exact (Keeps.refl w).alloc _
  have kB : Keeps wA wB := by rw [← hB]; exact (Keeps.refl wA).alloc _
  have HK := Lib.hid (kA.trans kB)
  have HX := Lib.hid (show CsAt X (slC x) wB from CsAt.keeps (w := wA) (by rw [← hX, ← hA]; exact CsAt.made w #[.bool x.sl, .bool x.fec, .int .i64 x.rows, .int .i64 x.burst, .int .i64 x.rate, .int .i64 x.id, .string x.more] _ (by simp)) kB)
  have HD := Lib.hid (show CsAns w (X + 1) (dsC zD) wB from ⟨by rw [← hz, ← hB]; exact CsAt.made wA #[.int .i64 0, .string ⟨#[]⟩] _ (by simp), kA.trans kB, by omega⟩)
  have x0 := HX.out.cell 0 rfl
  have x1 := HX.out.cell 1 rfl
  have x2 := HX.out.cell 2 rfl
  have x3 := HX.out.cell 3 rfl
  have x4 := HX.out.cell 4 rfl
  have x5 := HX.out.cell 5 rfl
  have x6 := HX.out.cell 6 rfl
  have d0 := HD.out.z.cell 0 rfl
  have d1 := HD.out.z.cell 1 rfl
  have f0 := HD.out.z.fz 0 (by show 0 < 2; decide)
  have f1 := HD.out.z.fz 1 (by show 1 < 2; decide)
  have HB := Lib.hid (fun W => din_any x.burst 255 W)
  have HR := Lib.hid (fun W => din_any x.rate 15 W)
  have HI := Lib.hid (fun W => din_any x.id 15 W)
  clear kA kB
  simp only [decide_eq_true h1] at HB
  simp only [decide_eq_false h] at HR
  have HF := Lib.hid (mkS_num (fun k : numSl x => h k.2.2.1))
  obtain ⟨sl, fec, rows, burst, rate, id, more⟩ := x
  simp only at hA e HB HR HI
  subst e
  clear h
  clear h1
  go_enter Tryd.func20, Tryd.ntmps20
  go_wp2_with (go_at_call 42; (first | (with_reducible refine (HB.out _).mono ?_) | (with_reducible refine (HR.out _).mono ?_) | (with_reducible refine (HI.out _).mono ?_)); rintro _ w1 ⟨rfl, rfl⟩)
  refine cs_ret2 Tryd.results20 (lvD (HD.out.ends (dsC zD) rfl).z.r) rfl rfl rfl ?_
  exact ⟨(by rw [HF.out]; rfl), (HD.out.ends (dsC zD) rfl).k⟩
set_option maxHeartbeats 1600000 in
theorem dmake_id_256 (x : Slc) (w : World) (e : x.rows = 256) (h1 : 0 ≤ x.burst ∧ x.burst ≤ 255) (h2 : 0 ≤ x.rate ∧ x.rate ≤ 15) (h : ¬ (0 ≤ x.id ∧ x.id ≤ 15)) : Calls Tryd.prog 20 #[slV x] w (DmPost w (mkS x)) := by
  obtain ⟨X, hX⟩ : ∃ X, w.heap.size = X := ⟨_, rfl⟩
  obtain ⟨wA, hA⟩ : ∃ wX, w.alloc (.cells #[.bool x.sl, .bool x.fec, .int .i64 x.rows, .int .i64 x.burst, .int .i64 x.rate, .int .i64 x.id, .string x.more] 47) = wX := ⟨_, rfl⟩
  obtain ⟨wB, hB⟩ : ∃ wX, wA.alloc (.cells #[.int .i64 0, .string ⟨#[]⟩] 44) = wX := ⟨_, rfl⟩
  have hz : wA.heap.size = X + 1 := by rw [← hA, World.size_alloc, hX]
  have kA : Keeps w wA := by rw [← hA]; exact (Keeps.refl w).alloc _
  have kB : Keeps wA wB := by rw [← hB]; exact (Keeps.refl wA).alloc _
  have HK := Lib.hid (kA.trans kB)
  have HX := Lib.hid (show CsAt X (slC x) wB from CsAt.keeps (w := wA) (by rw [← hX, ← hA]; exact CsAt.made w #[.bool x.sl, .bool x.fec, .int .i64 x.rows, .int .i64 x.burst, .int .i64 x.rate, .int .i64 x.id, .string x.more] _ (by simp)) kB)
  have HD := Lib.hid (show CsAns w (X + 1) (dsC zD) wB from ⟨by rw [← hz, ← hB]; exact CsAt.made wA #[.int .i64 0, .string ⟨#[]⟩] _ (by simp), kA.trans kB, by omega⟩)
  have x0 := HX.out.cell 0 rfl
  have x1 := HX.out.cell 1 rfl
  have x2 := HX.out.cell 2 rfl
  have x3 := HX.out.cell 3 rfl
  have x4 := HX.out.cell 4 rfl
  have x5 := HX.out.cell 5 rfl
  have x6 := HX.out.cell 6 rfl
  have d0 := HD.out.z.cell 0 rfl
  have d1 := HD.out.z.cell 1 rfl
  have f0 := HD.out.z.fz 0 (by show 0 < 2; decide)
  have f1 := HD.out.z.fz 1 (by show 1 < 2; decide)
  have HB := Lib.hid (fun W => din_any x.burst 255 W)
  have HR := Lib.hid (fun W => din_any x.rate 15 W)
  have HI := Lib.hid (fun W => din_any x.id 15 W)
  clear kA kB
  simp only [decide_eq_true h1] at HB
  simp only [decide_eq_true h2] at HR
  simp only [decide_eq_false h] at HI
  have HF := Lib.hid (mkS_num (fun k : numSl x => h k.2.2.2))
  obtain ⟨sl, fec, rows, burst, rate, id, more⟩ := x
  simp only at hA e HB HR HI
  subst e
  clear h
  clear h1
  clear h2
  go_enter Tryd.func20, Tryd.ntmps20
  go_wp2_with (go_at_call 42; (first | (with_reducible refine (HB.out _).mono ?_) | (with_reducible refine (HR.out _).mono ?_) | (with_reducible refine (HI.out _).mono ?_)); rintro _ w1 ⟨rfl, rfl⟩)
  refine cs_ret2 Tryd.results20 (lvD (HD.out.ends (dsC zD) rfl).z.r) rfl rfl rfl ?_
  exact ⟨(by rw [HF.out]; rfl), (HD.out.ends (dsC zD) rfl).k⟩
set_option maxHeartbeats 1600000 in
theorem dmake_long_256 (x : Slc) (w : World) (e : x.rows = 256) (h1 : 0 ≤ x.burst ∧ x.burst ≤ 255) (h2 : 0 ≤ x.rate ∧ x.rate ≤ 15) (h3 : 0 ≤ x.id ∧ x.id ≤ 15) (h : 252 < x.more.size) : Calls Tryd.prog 20 #[slV x] w (DmPost w (mkS x)) := by
  obtain ⟨X, hX⟩ : ∃ X, w.heap.size = X := ⟨_, rfl⟩
  obtain ⟨wA, hA⟩ : ∃ wX, w.alloc (.cells #[.bool x.sl, .bool x.fec, .int .i64 x.rows, .int .i64 x.burst, .int .i64 x.rate, .int .i64 x.id, .string x.more] 47) = wX := ⟨_, rfl⟩
  obtain ⟨wB, hB⟩ : ∃ wX, wA.alloc (.cells #[.int .i64 0, .string ⟨#[]⟩] 44) = wX := ⟨_, rfl⟩
  have hz : wA.heap.size = X + 1 := by rw [← hA, World.size_alloc, hX]
  have kA : Keeps w wA := by rw [← hA]; exact (Keeps.refl w).alloc _
  have kB : Keeps wA wB := by rw [← hB]; exact (Keeps.refl wA).alloc _
  have HK := Lib.hid (kA.trans kB)
  have HX := Lib.hid (show CsAt X (slC x) wB from CsAt.keeps (w := wA) (by rw [← hX, ← hA]; exact CsAt.made w #[.bool x.sl, .bool x.fec, .int .i64 x.rows, .int .i64 x.burst, .int .i64 x.rate, .int .i64 x.id, .string x.more] _ (by simp)) kB)
  have HD := Lib.hid (show CsAns w (X + 1) (dsC zD) wB from ⟨by rw [← hz, ← hB]; exact CsAt.made wA #[.int .i64 0, .string ⟨#[]⟩] _ (by simp), kA.trans kB, by omega⟩)
  have x0 := HX.out.cell 0 rfl
  have x1 := HX.out.cell 1 rfl
  have x2 := HX.out.cell 2 rfl
  have x3 := HX.out.cell 3 rfl
  have x4 := HX.out.cell 4 rfl
  have x5 := HX.out.cell 5 rfl
  have x6 := HX.out.cell 6 rfl
  have d0 := HD.out.z.cell 0 rfl
  have d1 := HD.out.z.cell 1 rfl
  have f0 := HD.out.z.fz 0 (by show 0 < 2; decide)
  have f1 := HD.out.z.fz 1 (by show 1 < 2; decide)
  have HB := Lib.hid (fun W => din_any x.burst 255 W)
  have HR := Lib.hid (fun W => din_any x.rate 15 W)
  have HI := Lib.hid (fun W => din_any x.id 15 W)
  clear kA kB
  simp only [decide_eq_true h1] at HB
  simp only [decide_eq_true h2] at HR
  simp only [decide_eq_true h3] at HI
  have HF := Lib.hid (mkS_long (x := x) ⟨by unfold okR; omega, h1, h2, h3⟩ h)
  obtain ⟨sl, fec, rows, burst, rate, id, more⟩ := x
  simp only at hA e h HB HR HI
  subst e
  have hzi : (252 : Int) < (more.size : Int) := by omega
  clear h h1 h2 h3
  go_enter Tryd.func20, Tryd.ntmps20
  go_wp2_with (go_at_call 42; (first | (with_reducible refine (HB.out _).mono ?_) | (with_reducible refine (HR.out _).mono ?_) | (with_reducible refine (HI.out _).mono ?_)); rintro _ w1 ⟨rfl, rfl⟩)
  refine cs_ret2 Tryd.results20 (lvD (HD.out.ends (dsC zD) rfl).z.r) rfl rfl rfl ?_
  exact ⟨(by rw [HF.out]; rfl), (HD.out.ends (dsC zD) rfl).k⟩
set_option maxHeartbeats 1600000 in
theorem dmake_burst_512 (x : Slc) (w : World) (e : x.rows = 512) (h : ¬ (0 ≤ x.burst ∧ x.burst ≤ 255)) : Calls Tryd.prog 20 #[slV x] w (DmPost w (mkS x)) := by
  obtain ⟨X, hX⟩ : ∃ X, w.heap.size = X := ⟨_, rfl⟩
  obtain ⟨wA, hA⟩ : ∃ wX, w.alloc (.cells #[.bool x.sl, .bool x.fec, .int .i64 x.rows, .int .i64 x.burst, .int .i64 x.rate, .int .i64 x.id, .string x.more] 47) = wX := ⟨_, rfl⟩
  obtain ⟨wB, hB⟩ : ∃ wX, wA.alloc (.cells #[.int .i64 0, .string ⟨#[]⟩] 44) = wX := ⟨_, rfl⟩
  have hz : wA.heap.size = X + 1 := by rw [← hA, World.size_alloc, hX]
  have kA : Keeps w wA := by rw [← hA]; exact (Keeps.refl w).alloc _
  have kB : Keeps wA wB := by rw [← hB]; exact (Keeps.refl wA).alloc _
  have HK := Lib.hid (kA.trans kB)
  have HX := Lib.hid (show CsAt X (slC x) wB from CsAt.keeps (w := wA) (by rw [← hX, ← hA]; exact CsAt.made w #[.bool x.sl, .bool x.fec, .int .i64 x.rows, .int .i64 x.burst, .int .i64 x.rate, .int .i64 x.id, .string x.more] _ (by simp)) kB)
  have HD := Lib.hid (show CsAns w (X + 1) (dsC zD) wB from ⟨by rw [← hz, ← hB]; exact CsAt.made wA #[.int .i64 0, .string ⟨#[]⟩] _ (by simp), kA.trans kB, by omega⟩)
  have x0 := HX.out.cell 0 rfl
  have x1 := HX.out.cell 1 rfl
  have x2 := HX.out.cell 2 rfl
  have x3 := HX.out.cell 3 rfl
  have x4 := HX.out.cell 4 rfl
  have x5 := HX.out.cell 5 rfl
  have x6 := HX.out.cell 6 rfl
  have d0 := HD.out.z.cell 0 rfl
  have d1 := HD.out.z.cell 1 rfl
  have f0 := HD.out.z.fz 0 (by show 0 < 2; decide)
  have f1 := HD.out.z.fz 1 (by show 1 < 2; decide)
  have HB := Lib.hid (fun W => din_any x.burst 255 W)
  have HR := Lib.hid (fun W => din_any x.rate 15 W)
  have HI := Lib.hid (fun W => din_any x.id 15 W)
  clear kA kB
  simp only [decide_eq_false h] at HB
  have HF := Lib.hid (mkS_num (fun k : numSl x => h k.2.1))
  obtain ⟨sl, fec, rows, burst, rate, id, more⟩ := x
  simp only at hA e HB HR HI
  subst e
  clear h
  go_enter Tryd.func20, Tryd.ntmps20
  go_wp2_with (go_at_call 42; (first | (with_reducible refine (HB.out _).mono ?_) | (with_reducible refine (HR.out _).mono ?_) | (with_reducible refine (HI.out _).mono ?_)); rintro _ w1 ⟨rfl, rfl⟩)
  refine cs_ret2 Tryd.results20 (lvD (HD.out.ends (dsC zD) rfl).z.r) rfl rfl rfl ?_
  exact ⟨(by rw [HF.out]; rfl), (HD.out.ends (dsC zD) rfl).k⟩
set_option maxHeartbeats 1600000 in
theorem dmake_rate_512 (x : Slc) (w : World) (e : x.rows = 512) (h1 : 0 ≤ x.burst ∧ x.burst ≤ 255) (h : ¬ (0 ≤ x.rate ∧ x.rate ≤ 15)) : Calls Tryd.prog 20 #[slV x] w (DmPost w (mkS x)) := by
  obtain ⟨X, hX⟩ : ∃ X, w.heap.size = X := ⟨_, rfl⟩
  obtain ⟨wA, hA⟩ : ∃ wX, w.alloc (.cells #[.bool x.sl, .bool x.fec, .int .i64 x.rows, .int .i64 x.burst, .int .i64 x.rate, .int .i64 x.id, .string x.more] 47) = wX := ⟨_, rfl⟩
  obtain ⟨wB, hB⟩ : ∃ wX, wA.alloc (.cells #[.int .i64 0, .string ⟨#[]⟩] 44) = wX := ⟨_, rfl⟩
  have hz : wA.heap.size = X + 1 := by rw [← hA, World.size_alloc, hX]
  have kA : Keeps w wA := by rw [← hA]; exact (Keeps.refl w).alloc _
  have kB : Keeps wA wB := by rw [← hB]; exact (Keeps.refl wA).alloc _
  have HK := Lib.hid (kA.trans kB)
  have HX := Lib.hid (show CsAt X (slC x) wB from CsAt.keeps (w := wA) (by rw [← hX, ← hA]; exact CsAt.made w #[.bool x.sl, .bool x.fec, .int .i64 x.rows, .int .i64 x.burst, .int .i64 x.rate, .int .i64 x.id, .string x.more] _ (by simp)) kB)
  have HD := Lib.hid (show CsAns w (X + 1) (dsC zD) wB from ⟨by rw [← hz, ← hB]; exact CsAt.made wA #[.int .i64 0, .string ⟨#[]⟩] _ (by simp), kA.trans kB, by omega⟩)
  have x0 := HX.out.cell 0 rfl
  have x1 := HX.out.cell 1 rfl
  have x2 := HX.out.cell 2 rfl
  have x3 := HX.out.cell 3 rfl
  have x4 := HX.out.cell 4 rfl
  have x5 := HX.out.cell 5 rfl
  have x6 := HX.out.cell 6 rfl
  have d0 := HD.out.z.cell 0 rfl
  have d1 := HD.out.z.cell 1 rfl
  have f0 := HD.out.z.fz 0 (by show 0 < 2; decide)
  have f1 := HD.out.z.fz 1 (by show 1 < 2; decide)
  have HB := Lib.hid (fun W => din_any x.burst 255 W)
  have HR := Lib.hid (fun W => din_any x.rate 15 W)
  have HI := Lib.hid (fun W => din_any x.id 15 W)
  clear kA kB
  simp only [decide_eq_true h1] at HB
  simp only [decide_eq_false h] at HR
  have HF := Lib.hid (mkS_num (fun k : numSl x => h k.2.2.1))
  obtain ⟨sl, fec, rows, burst, rate, id, more⟩ := x
  simp only at hA e HB HR HI
  subst e
  clear h
  clear h1
  go_enter Tryd.func20, Tryd.ntmps20
  go_wp2_with (go_at_call 42; (first | (with_reducible refine (HB.out _).mono ?_) | (with_reducible refine (HR.out _).mono ?_) | (with_reducible refine (HI.out _).mono ?_)); rintro _ w1 ⟨rfl, rfl⟩)
  refine cs_ret2 Tryd.results20 (lvD (HD.out.ends (dsC zD) rfl).z.r) rfl rfl rfl ?_
  exact ⟨(by rw [HF.out]; rfl), (HD.out.ends (dsC zD) rfl).k⟩
set_option maxHeartbeats 1600000 in
theorem dmake_id_512 (x : Slc) (w : World) (e : x.rows = 512) (h1 : 0 ≤ x.burst ∧ x.burst ≤ 255) (h2 : 0 ≤ x.rate ∧ x.rate ≤ 15) (h : ¬ (0 ≤ x.id ∧ x.id ≤ 15)) : Calls Tryd.prog 20 #[slV x] w (DmPost w (mkS x)) := by
  obtain ⟨X, hX⟩ : ∃ X, w.heap.size = X := ⟨_, rfl⟩
  obtain ⟨wA, hA⟩ : ∃ wX, w.alloc (.cells #[.bool x.sl, .bool x.fec, .int .i64 x.rows, .int .i64 x.burst, .int .i64 x.rate, .int .i64 x.id, .string x.more] 47) = wX := ⟨_, rfl⟩
  obtain ⟨wB, hB⟩ : ∃ wX, wA.alloc (.cells #[.int .i64 0, .string ⟨#[]⟩] 44) = wX := ⟨_, rfl⟩
  have hz : wA.heap.size = X + 1 := by rw [← hA, World.size_alloc, hX]
  have kA : Keeps w wA := by rw [← hA]; exact (Keeps.refl w).alloc _
  have kB : Keeps wA wB := by rw [← hB]; exact (Keeps.refl wA).alloc _
  have HK := Lib.hid (kA.trans kB)
  have HX := Lib.hid (show CsAt X (slC x) wB from CsAt.keeps (w := wA) (by rw [← hX, ← hA]; exact CsAt.made w #[.bool x.sl, .bool x.fec, .int .i64 x.rows, .int .i64 x.burst, .int .i64 x.rate, .int .i64 x.id, .string x.more] _ (by simp)) kB)
  have HD := Lib.hid (show CsAns w (X + 1) (dsC zD) wB from ⟨by rw [← hz, ← hB]; exact CsAt.made wA #[.int .i64 0, .string ⟨#[]⟩] _ (by simp), kA.trans kB, by omega⟩)
  have x0 := HX.out.cell 0 rfl
  have x1 := HX.out.cell 1 rfl
  have x2 := HX.out.cell 2 rfl
  have x3 := HX.out.cell 3 rfl
  have x4 := HX.out.cell 4 rfl
  have x5 := HX.out.cell 5 rfl
  have x6 := HX.out.cell 6 rfl
  have d0 := HD.out.z.cell 0 rfl
  have d1 := HD.out.z.cell 1 rfl
  have f0 := HD.out.z.fz 0 (by show 0 < 2; decide)
  have f1 := HD.out.z.fz 1 (by show 1 < 2; decide)
  have HB := Lib.hid (fun W => din_any x.burst 255 W)
  have HR := Lib.hid (fun W => din_any x.rate 15 W)
  have HI := Lib.hid (fun W => din_any x.id 15 W)
  clear kA kB
  simp only [decide_eq_true h1] at HB
  simp only [decide_eq_true h2] at HR
  simp only [decide_eq_false h] at HI
  have HF := Lib.hid (mkS_num (fun k : numSl x => h k.2.2.2))
  obtain ⟨sl, fec, rows, burst, rate, id, more⟩ := x
  simp only at hA e HB HR HI
  subst e
  clear h
  clear h1
  clear h2
  go_enter Tryd.func20, Tryd.ntmps20
  go_wp2_with (go_at_call 42; (first | (with_reducible refine (HB.out _).mono ?_) | (with_reducible refine (HR.out _).mono ?_) | (with_reducible refine (HI.out _).mono ?_)); rintro _ w1 ⟨rfl, rfl⟩)
  refine cs_ret2 Tryd.results20 (lvD (HD.out.ends (dsC zD) rfl).z.r) rfl rfl rfl ?_
  exact ⟨(by rw [HF.out]; rfl), (HD.out.ends (dsC zD) rfl).k⟩
set_option maxHeartbeats 1600000 in
theorem dmake_long_512 (x : Slc) (w : World) (e : x.rows = 512) (h1 : 0 ≤ x.burst ∧ x.burst ≤ 255) (h2 : 0 ≤ x.rate ∧ x.rate ≤ 15) (h3 : 0 ≤ x.id ∧ x.id ≤ 15) (h : 252 < x.more.size) : Calls Tryd.prog 20 #[slV x] w (DmPost w (mkS x)) := by
  obtain ⟨X, hX⟩ : ∃ X, w.heap.size = X := ⟨_, rfl⟩
  obtain ⟨wA, hA⟩ : ∃ wX, w.alloc (.cells #[.bool x.sl, .bool x.fec, .int .i64 x.rows, .int .i64 x.burst, .int .i64 x.rate, .int .i64 x.id, .string x.more] 47) = wX := ⟨_, rfl⟩
  obtain ⟨wB, hB⟩ : ∃ wX, wA.alloc (.cells #[.int .i64 0, .string ⟨#[]⟩] 44) = wX := ⟨_, rfl⟩
  have hz : wA.heap.size = X + 1 := by rw [← hA, World.size_alloc, hX]
  have kA : Keeps w wA := by rw [← hA]; exact (Keeps.refl w).alloc _
  have kB : Keeps wA wB := by rw [← hB]; exact (Keeps.refl wA).alloc _
  have HK := Lib.hid (kA.trans kB)
  have HX := Lib.hid (show CsAt X (slC x) wB from CsAt.keeps (w := wA) (by rw [← hX, ← hA]; exact CsAt.made w #[.bool x.sl, .bool x.fec, .int .i64 x.rows, .int .i64 x.burst, .int .i64 x.rate, .int .i64 x.id, .string x.more] _ (by simp)) kB)
  have HD := Lib.hid (show CsAns w (X + 1) (dsC zD) wB from ⟨by rw [← hz, ← hB]; exact CsAt.made wA #[.int .i64 0, .string ⟨#[]⟩] _ (by simp), kA.trans kB, by omega⟩)
  have x0 := HX.out.cell 0 rfl
  have x1 := HX.out.cell 1 rfl
  have x2 := HX.out.cell 2 rfl
  have x3 := HX.out.cell 3 rfl
  have x4 := HX.out.cell 4 rfl
  have x5 := HX.out.cell 5 rfl
  have x6 := HX.out.cell 6 rfl
  have d0 := HD.out.z.cell 0 rfl
  have d1 := HD.out.z.cell 1 rfl
  have f0 := HD.out.z.fz 0 (by show 0 < 2; decide)
  have f1 := HD.out.z.fz 1 (by show 1 < 2; decide)
  have HB := Lib.hid (fun W => din_any x.burst 255 W)
  have HR := Lib.hid (fun W => din_any x.rate 15 W)
  have HI := Lib.hid (fun W => din_any x.id 15 W)
  clear kA kB
  simp only [decide_eq_true h1] at HB
  simp only [decide_eq_true h2] at HR
  simp only [decide_eq_true h3] at HI
  have HF := Lib.hid (mkS_long (x := x) ⟨by unfold okR; omega, h1, h2, h3⟩ h)
  obtain ⟨sl, fec, rows, burst, rate, id, more⟩ := x
  simp only at hA e h HB HR HI
  subst e
  have hzi : (252 : Int) < (more.size : Int) := by omega
  clear h h1 h2 h3
  go_enter Tryd.func20, Tryd.ntmps20
  go_wp2_with (go_at_call 42; (first | (with_reducible refine (HB.out _).mono ?_) | (with_reducible refine (HR.out _).mono ?_) | (with_reducible refine (HI.out _).mono ?_)); rintro _ w1 ⟨rfl, rfl⟩)
  refine cs_ret2 Tryd.results20 (lvD (HD.out.ends (dsC zD) rfl).z.r) rfl rfl rfl ?_
  exact ⟨(by rw [HF.out]; rfl), (HD.out.ends (dsC zD) rfl).k⟩
set_option maxHeartbeats 1600000 in
theorem dmake_burst_768 (x : Slc) (w : World) (e : x.rows = 768) (h : ¬ (0 ≤ x.burst ∧ x.burst ≤ 255)) : Calls Tryd.prog 20 #[slV x] w (DmPost w (mkS x)) := by
  obtain ⟨X, hX⟩ : ∃ X, w.heap.size = X := ⟨_, rfl⟩
  obtain ⟨wA, hA⟩ : ∃ wX, w.alloc (.cells #[.bool x.sl, .bool x.fec, .int .i64 x.rows, .int .i64 x.burst, .int .i64 x.rate, .int .i64 x.id, .string x.more] 47) = wX := ⟨_, rfl⟩
  obtain ⟨wB, hB⟩ : ∃ wX, wA.alloc (.cells #[.int .i64 0, .string ⟨#[]⟩] 44) = wX := ⟨_, rfl⟩
  have hz : wA.heap.size = X + 1 := by rw [← hA, World.size_alloc, hX]
  have kA : Keeps w wA := by rw [← hA]; exact (Keeps.refl w).alloc _
  have kB : Keeps wA wB := by rw [← hB]; exact (Keeps.refl wA).alloc _
  have HK := Lib.hid (kA.trans kB)
  have HX := Lib.hid (show CsAt X (slC x) wB from CsAt.keeps (w := wA) (by rw [← hX, ← hA]; exact CsAt.made w #[.bool x.sl, .bool x.fec, .int .i64 x.rows, .int .i64 x.burst, .int .i64 x.rate, .int .i64 x.id, .string x.more] _ (by simp)) kB)
  have HD := Lib.hid (show CsAns w (X + 1) (dsC zD) wB from ⟨by rw [← hz, ← hB]; exact CsAt.made wA #[.int .i64 0, .string ⟨#[]⟩] _ (by simp), kA.trans kB, by omega⟩)
  have x0 := HX.out.cell 0 rfl
  have x1 := HX.out.cell 1 rfl
  have x2 := HX.out.cell 2 rfl
  have x3 := HX.out.cell 3 rfl
  have x4 := HX.out.cell 4 rfl
  have x5 := HX.out.cell 5 rfl
  have x6 := HX.out.cell 6 rfl
  have d0 := HD.out.z.cell 0 rfl
  have d1 := HD.out.z.cell 1 rfl
  have f0 := HD.out.z.fz 0 (by show 0 < 2; decide)
  have f1 := HD.out.z.fz 1 (by show 1 < 2; decide)
  have HB := Lib.hid (fun W => din_any x.burst 255 W)
  have HR := Lib.hid (fun W => din_any x.rate 15 W)
  have HI := Lib.hid (fun W => din_any x.id 15 W)
  clear kA kB
  simp only [decide_eq_false h] at HB
  have HF := Lib.hid (mkS_num (fun k : numSl x => h k.2.1))
  obtain ⟨sl, fec, rows, burst, rate, id, more⟩ := x
  simp only at hA e HB HR HI
  subst e
  clear h
  go_enter Tryd.func20, Tryd.ntmps20
  go_wp2_with (go_at_call 42; (first | (with_reducible refine (HB.out _).mono ?_) | (with_reducible refine (HR.out _).mono ?_) | (with_reducible refine (HI.out _).mono ?_)); rintro _ w1 ⟨rfl, rfl⟩)
  refine cs_ret2 Tryd.results20 (lvD (HD.out.ends (dsC zD) rfl).z.r) rfl rfl rfl ?_
  exact ⟨(by rw [HF.out]; rfl), (HD.out.ends (dsC zD) rfl).k⟩
set_option maxHeartbeats 1600000 in
theorem dmake_rate_768 (x : Slc) (w : World) (e : x.rows = 768) (h1 : 0 ≤ x.burst ∧ x.burst ≤ 255) (h : ¬ (0 ≤ x.rate ∧ x.rate ≤ 15)) : Calls Tryd.prog 20 #[slV x] w (DmPost w (mkS x)) := by
  obtain ⟨X, hX⟩ : ∃ X, w.heap.size = X := ⟨_, rfl⟩
  obtain ⟨wA, hA⟩ : ∃ wX, w.alloc (.cells #[.bool x.sl, .bool x.fec, .int .i64 x.rows, .int .i64 x.burst, .int .i64 x.rate, .int .i64 x.id, .string x.more] 47) = wX := ⟨_, rfl⟩
  obtain ⟨wB, hB⟩ : ∃ wX, wA.alloc (.cells #[.int .i64 0, .string ⟨#[]⟩] 44) = wX := ⟨_, rfl⟩
  have hz : wA.heap.size = X + 1 := by rw [← hA, World.size_alloc, hX]
  have kA : Keeps w wA := by rw [← hA]; exact (Keeps.refl w).alloc _
  have kB : Keeps wA wB := by rw [← hB]; exact (Keeps.refl wA).alloc _
  have HK := Lib.hid (kA.trans kB)
  have HX := Lib.hid (show CsAt X (slC x) wB from CsAt.keeps (w := wA) (by rw [← hX, ← hA]; exact CsAt.made w #[.bool x.sl, .bool x.fec, .int .i64 x.rows, .int .i64 x.burst, .int .i64 x.rate, .int .i64 x.id, .string x.more] _ (by simp)) kB)
  have HD := Lib.hid (show CsAns w (X + 1) (dsC zD) wB from ⟨by rw [← hz, ← hB]; exact CsAt.made wA #[.int .i64 0, .string ⟨#[]⟩] _ (by simp), kA.trans kB, by omega⟩)
  have x0 := HX.out.cell 0 rfl
  have x1 := HX.out.cell 1 rfl
  have x2 := HX.out.cell 2 rfl
  have x3 := HX.out.cell 3 rfl
  have x4 := HX.out.cell 4 rfl
  have x5 := HX.out.cell 5 rfl
  have x6 := HX.out.cell 6 rfl
  have d0 := HD.out.z.cell 0 rfl
  have d1 := HD.out.z.cell 1 rfl
  have f0 := HD.out.z.fz 0 (by show 0 < 2; decide)
  have f1 := HD.out.z.fz 1 (by show 1 < 2; decide)
  have HB := Lib.hid (fun W => din_any x.burst 255 W)
  have HR := Lib.hid (fun W => din_any x.rate 15 W)
  have HI := Lib.hid (fun W => din_any x.id 15 W)
  clear kA kB
  simp only [decide_eq_true h1] at HB
  simp only [decide_eq_false h] at HR
  have HF := Lib.hid (mkS_num (fun k : numSl x => h k.2.2.1))
  obtain ⟨sl, fec, rows, burst, rate, id, more⟩ := x
  simp only at hA e HB HR HI
  subst e
  clear h
  clear h1
  go_enter Tryd.func20, Tryd.ntmps20
  go_wp2_with (go_at_call 42; (first | (with_reducible refine (HB.out _).mono ?_) | (with_reducible refine (HR.out _).mono ?_) | (with_reducible refine (HI.out _).mono ?_)); rintro _ w1 ⟨rfl, rfl⟩)
  refine cs_ret2 Tryd.results20 (lvD (HD.out.ends (dsC zD) rfl).z.r) rfl rfl rfl ?_
  exact ⟨(by rw [HF.out]; rfl), (HD.out.ends (dsC zD) rfl).k⟩
set_option maxHeartbeats 1600000 in
theorem dmake_id_768 (x : Slc) (w : World) (e : x.rows = 768) (h1 : 0 ≤ x.burst ∧ x.burst ≤ 255) (h2 : 0 ≤ x.rate ∧ x.rate ≤ 15) (h : ¬ (0 ≤ x.id ∧ x.id ≤ 15)) : Calls Tryd.prog 20 #[slV x] w (DmPost w (mkS x)) := by
  obtain ⟨X, hX⟩ : ∃ X, w.heap.size = X := ⟨_, rfl⟩
  obtain ⟨wA, hA⟩ : ∃ wX, w.alloc (.cells #[.bool x.sl, .bool x.fec, .int .i64 x.rows, .int .i64 x.burst, .int .i64 x.rate, .int .i64 x.id, .string x.more] 47) = wX := ⟨_, rfl⟩
  obtain ⟨wB, hB⟩ : ∃ wX, wA.alloc (.cells #[.int .i64 0, .string ⟨#[]⟩] 44) = wX := ⟨_, rfl⟩
  have hz : wA.heap.size = X + 1 := by rw [← hA, World.size_alloc, hX]
  have kA : Keeps w wA := by rw [← hA]; exact (Keeps.refl w).alloc _
  have kB : Keeps wA wB := by rw [← hB]; exact (Keeps.refl wA).alloc _
  have HK := Lib.hid (kA.trans kB)
  have HX := Lib.hid (show CsAt X (slC x) wB from CsAt.keeps (w := wA) (by rw [← hX, ← hA]; exact CsAt.made w #[.bool x.sl, .bool x.fec, .int .i64 x.rows, .int .i64 x.burst, .int .i64 x.rate, .int .i64 x.id, .string x.more] _ (by simp)) kB)
  have HD := Lib.hid (show CsAns w (X + 1) (dsC zD) wB from ⟨by rw [← hz, ← hB]; exact CsAt.made wA #[.int .i64 0, .string ⟨#[]⟩] _ (by simp), kA.trans kB, by omega⟩)
  have x0 := HX.out.cell 0 rfl
  have x1 := HX.out.cell 1 rfl
  have x2 := HX.out.cell 2 rfl
  have x3 := HX.out.cell 3 rfl
  have x4 := HX.out.cell 4 rfl
  have x5 := HX.out.cell 5 rfl
  have x6 := HX.out.cell 6 rfl
  have d0 := HD.out.z.cell 0 rfl
  have d1 := HD.out.z.cell 1 rfl
  have f0 := HD.out.z.fz 0 (by show 0 < 2; decide)
  have f1 := HD.out.z.fz 1 (by show 1 < 2; decide)
  have HB := Lib.hid (fun W => din_any x.burst 255 W)
  have HR := Lib.hid (fun W => din_any x.rate 15 W)
  have HI := Lib.hid (fun W => din_any x.id 15 W)
  clear kA kB
  simp only [decide_eq_true h1] at HB
  simp only [decide_eq_true h2] at HR
  simp only [decide_eq_false h] at HI
  have HF := Lib.hid (mkS_num (fun k : numSl x => h k.2.2.2))
  obtain ⟨sl, fec, rows, burst, rate, id, more⟩ := x
  simp only at hA e HB HR HI
  subst e
  clear h
  clear h1
  clear h2
  go_enter Tryd.func20, Tryd.ntmps20
  go_wp2_with (go_at_call 42; (first | (with_reducible refine (HB.out _).mono ?_) | (with_reducible refine (HR.out _).mono ?_) | (with_reducible refine (HI.out _).mono ?_)); rintro _ w1 ⟨rfl, rfl⟩)
  refine cs_ret2 Tryd.results20 (lvD (HD.out.ends (dsC zD) rfl).z.r) rfl rfl rfl ?_
  exact ⟨(by rw [HF.out]; rfl), (HD.out.ends (dsC zD) rfl).k⟩
set_option maxHeartbeats 1600000 in
theorem dmake_long_768 (x : Slc) (w : World) (e : x.rows = 768) (h1 : 0 ≤ x.burst ∧ x.burst ≤ 255) (h2 : 0 ≤ x.rate ∧ x.rate ≤ 15) (h3 : 0 ≤ x.id ∧ x.id ≤ 15) (h : 252 < x.more.size) : Calls Tryd.prog 20 #[slV x] w (DmPost w (mkS x)) := by
  obtain ⟨X, hX⟩ : ∃ X, w.heap.size = X := ⟨_, rfl⟩
  obtain ⟨wA, hA⟩ : ∃ wX, w.alloc (.cells #[.bool x.sl, .bool x.fec, .int .i64 x.rows, .int .i64 x.burst, .int .i64 x.rate, .int .i64 x.id, .string x.more] 47) = wX := ⟨_, rfl⟩
  obtain ⟨wB, hB⟩ : ∃ wX, wA.alloc (.cells #[.int .i64 0, .string ⟨#[]⟩] 44) = wX := ⟨_, rfl⟩
  have hz : wA.heap.size = X + 1 := by rw [← hA, World.size_alloc, hX]
  have kA : Keeps w wA := by rw [← hA]; exact (Keeps.refl w).alloc _
  have kB : Keeps wA wB := by rw [← hB]; exact (Keeps.refl wA).alloc _
  have HK := Lib.hid (kA.trans kB)
  have HX := Lib.hid (show CsAt X (slC x) wB from CsAt.keeps (w := wA) (by rw [← hX, ← hA]; exact CsAt.made w #[.bool x.sl, .bool x.fec, .int .i64 x.rows, .int .i64 x.burst, .int .i64 x.rate, .int .i64 x.id, .string x.more] _ (by simp)) kB)
  have HD := Lib.hid (show CsAns w (X + 1) (dsC zD) wB from ⟨by rw [← hz, ← hB]; exact CsAt.made wA #[.int .i64 0, .string ⟨#[]⟩] _ (by simp), kA.trans kB, by omega⟩)
  have x0 := HX.out.cell 0 rfl
  have x1 := HX.out.cell 1 rfl
  have x2 := HX.out.cell 2 rfl
  have x3 := HX.out.cell 3 rfl
  have x4 := HX.out.cell 4 rfl
  have x5 := HX.out.cell 5 rfl
  have x6 := HX.out.cell 6 rfl
  have d0 := HD.out.z.cell 0 rfl
  have d1 := HD.out.z.cell 1 rfl
  have f0 := HD.out.z.fz 0 (by show 0 < 2; decide)
  have f1 := HD.out.z.fz 1 (by show 1 < 2; decide)
  have HB := Lib.hid (fun W => din_any x.burst 255 W)
  have HR := Lib.hid (fun W => din_any x.rate 15 W)
  have HI := Lib.hid (fun W => din_any x.id 15 W)
  clear kA kB
  simp only [decide_eq_true h1] at HB
  simp only [decide_eq_true h2] at HR
  simp only [decide_eq_true h3] at HI
  have HF := Lib.hid (mkS_long (x := x) ⟨by unfold okR; omega, h1, h2, h3⟩ h)
  obtain ⟨sl, fec, rows, burst, rate, id, more⟩ := x
  simp only at hA e h HB HR HI
  subst e
  have hzi : (252 : Int) < (more.size : Int) := by omega
  clear h h1 h2 h3
  go_enter Tryd.func20, Tryd.ntmps20
  go_wp2_with (go_at_call 42; (first | (with_reducible refine (HB.out _).mono ?_) | (with_reducible refine (HR.out _).mono ?_) | (with_reducible refine (HI.out _).mono ?_)); rintro _ w1 ⟨rfl, rfl⟩)
  refine cs_ret2 Tryd.results20 (lvD (HD.out.ends (dsC zD) rfl).z.r) rfl rfl rfl ?_
  exact ⟨(by rw [HF.out]; rfl), (HD.out.ends (dsC zD) rfl).k⟩
set_option maxHeartbeats 1600000 in
theorem dmake_burst_1024 (x : Slc) (w : World) (e : x.rows = 1024) (h : ¬ (0 ≤ x.burst ∧ x.burst ≤ 255)) : Calls Tryd.prog 20 #[slV x] w (DmPost w (mkS x)) := by
  obtain ⟨X, hX⟩ : ∃ X, w.heap.size = X := ⟨_, rfl⟩
  obtain ⟨wA, hA⟩ : ∃ wX, w.alloc (.cells #[.bool x.sl, .bool x.fec, .int .i64 x.rows, .int .i64 x.burst, .int .i64 x.rate, .int .i64 x.id, .string x.more] 47) = wX := ⟨_, rfl⟩
  obtain ⟨wB, hB⟩ : ∃ wX, wA.alloc (.cells #[.int .i64 0, .string ⟨#[]⟩] 44) = wX := ⟨_, rfl⟩
  have hz : wA.heap.size = X + 1 := by rw [← hA, World.size_alloc, hX]
  have kA : Keeps w wA := by rw [← hA]; exact (Keeps.refl w).alloc _
  have kB : Keeps wA wB := by rw [← hB]; exact (Keeps.refl wA).alloc _
  have HK := Lib.hid (kA.trans kB)
  have HX := Lib.hid (show CsAt X (slC x) wB from CsAt.keeps (w := wA) (by rw [← hX, ← hA]; exact CsAt.made w #[.bool x.sl, .bool x.fec, .int .i64 x.rows, .int .i64 x.burst, .int .i64 x.rate, .int .i64 x.id, .string x.more] _ (by simp)) kB)
  have HD := Lib.hid (show CsAns w (X + 1) (dsC zD) wB from ⟨by rw [← hz, ← hB]; exact CsAt.made wA #[.int .i64 0, .string ⟨#[]⟩] _ (by simp), kA.trans kB, by omega⟩)
  have x0 := HX.out.cell 0 rfl
  have x1 := HX.out.cell 1 rfl
  have x2 := HX.out.cell 2 rfl
  have x3 := HX.out.cell 3 rfl
  have x4 := HX.out.cell 4 rfl
  have x5 := HX.out.cell 5 rfl
  have x6 := HX.out.cell 6 rfl
  have d0 := HD.out.z.cell 0 rfl
  have d1 := HD.out.z.cell 1 rfl
  have f0 := HD.out.z.fz 0 (by show 0 < 2; decide)
  have f1 := HD.out.z.fz 1 (by show 1 < 2; decide)
  have HB := Lib.hid (fun W => din_any x.burst 255 W)
  have HR := Lib.hid (fun W => din_any x.rate 15 W)
  have HI := Lib.hid (fun W => din_any x.id 15 W)
  clear kA kB
  simp only [decide_eq_false h] at HB
  have HF := Lib.hid (mkS_num (fun k : numSl x => h k.2.1))
  obtain ⟨sl, fec, rows, burst, rate, id, more⟩ := x
  simp only at hA e HB HR HI
  subst e
  clear h
  go_enter Tryd.func20, Tryd.ntmps20
  go_wp2_with (go_at_call 42; (first | (with_reducible refine (HB.out _).mono ?_) | (with_reducible refine (HR.out _).mono ?_) | (with_reducible refine (HI.out _).mono ?_)); rintro _ w1 ⟨rfl, rfl⟩)
  refine cs_ret2 Tryd.results20 (lvD (HD.out.ends (dsC zD) rfl).z.r) rfl rfl rfl ?_
  exact ⟨(by rw [HF.out]; rfl), (HD.out.ends (dsC zD) rfl).k⟩
set_option maxHeartbeats 1600000 in
theorem dmake_rate_1024 (x : Slc) (w : World) (e : x.rows = 1024) (h1 : 0 ≤ x.burst ∧ x.burst ≤ 255) (h : ¬ (0 ≤ x.rate ∧ x.rate ≤ 15)) : Calls Tryd.prog 20 #[slV x] w (DmPost w (mkS x)) := by
  obtain ⟨X, hX⟩ : ∃ X, w.heap.size = X := ⟨_, rfl⟩
  obtain ⟨wA, hA⟩ : ∃ wX, w.alloc (.cells #[.bool x.sl, .bool x.fec, .int .i64 x.rows, .int .i64 x.burst, .int .i64 x.rate, .int .i64 x.id, .string x.more] 47) = wX := ⟨_, rfl⟩
  obtain ⟨wB, hB⟩ : ∃ wX, wA.alloc (.cells #[.int .i64 0, .string ⟨#[]⟩] 44) = wX := ⟨_, rfl⟩
  have hz : wA.heap.size = X + 1 := by rw [← hA, World.size_alloc, hX]
  have kA : Keeps w wA := by rw [← hA]; exact (Keeps.refl w).alloc _
  have kB : Keeps wA wB := by rw [← hB]; exact (Keeps.refl wA).alloc _
  have HK := Lib.hid (kA.trans kB)
  have HX := Lib.hid (show CsAt X (slC x) wB from CsAt.keeps (w := wA) (by rw [← hX, ← hA]; exact CsAt.made w #[.bool x.sl, .bool x.fec, .int .i64 x.rows, .int .i64 x.burst, .int .i64 x.rate, .int .i64 x.id, .string x.more] _ (by simp)) kB)
  have HD := Lib.hid (show CsAns w (X + 1) (dsC zD) wB from ⟨by rw [← hz, ← hB]; exact CsAt.made wA #[.int .i64 0, .string ⟨#[]⟩] _ (by simp), kA.trans kB, by omega⟩)
  have x0 := HX.out.cell 0 rfl
  have x1 := HX.out.cell 1 rfl
  have x2 := HX.out.cell 2 rfl
  have x3 := HX.out.cell 3 rfl
  have x4 := HX.out.cell 4 rfl
  have x5 := HX.out.cell 5 rfl
  have x6 := HX.out.cell 6 rfl
  have d0 := HD.out.z.cell 0 rfl
  have d1 := HD.out.z.cell 1 rfl
  have f0 := HD.out.z.fz 0 (by show 0 < 2; decide)
  have f1 := HD.out.z.fz 1 (by show 1 < 2; decide)
  have HB := Lib.hid (fun W => din_any x.burst 255 W)
  have HR := Lib.hid (fun W => din_any x.rate 15 W)
  have HI := Lib.hid (fun W => din_any x.id 15 W)
  clear kA kB
  simp only [decide_eq_true h1] at HB
  simp only [decide_eq_false h] at HR
  have HF := Lib.hid (mkS_num (fun k : numSl x => h k.2.2.1))
  obtain ⟨sl, fec, rows, burst, rate, id, more⟩ := x
  simp only at hA e HB HR HI
  subst e
  clear h
  clear h1
  go_enter Tryd.func20, Tryd.ntmps20
  go_wp2_with (go_at_call 42; (first | (with_reducible refine (HB.out _).mono ?_) | (with_reducible refine (HR.out _).mono ?_) | (with_reducible refine (HI.out _).mono ?_)); rintro _ w1 ⟨rfl, rfl⟩)
  refine cs_ret2 Tryd.results20 (lvD (HD.out.ends (dsC zD) rfl).z.r) rfl rfl rfl ?_
  exact ⟨(by rw [HF.out]; rfl), (HD.out.ends (dsC zD) rfl).k⟩
set_option maxHeartbeats 1600000 in
theorem dmake_id_1024 (x : Slc) (w : World) (e : x.rows = 1024) (h1 : 0 ≤ x.burst ∧ x.burst ≤ 255) (h2 : 0 ≤ x.rate ∧ x.rate ≤ 15) (h : ¬ (0 ≤ x.id ∧ x.id ≤ 15)) : Calls Tryd.prog 20 #[slV x] w (DmPost w (mkS x)) := by
  obtain ⟨X, hX⟩ : ∃ X, w.heap.size = X := ⟨_, rfl⟩
  obtain ⟨wA, hA⟩ : ∃ wX, w.alloc (.cells #[.bool x.sl, .bool x.fec, .int .i64 x.rows, .int .i64 x.burst, .int .i64 x.rate, .int .i64 x.id, .string x.more] 47) = wX := ⟨_, rfl⟩
  obtain ⟨wB, hB⟩ : ∃ wX, wA.alloc (.cells #[.int .i64 0, .string ⟨#[]⟩] 44) = wX := ⟨_, rfl⟩
  have hz : wA.heap.size = X + 1 := by rw [← hA, World.size_alloc, hX]
  have kA : Keeps w wA := by rw [← hA]; exact (Keeps.refl w).alloc _
  have kB : Keeps wA wB := by rw [← hB]; exact (Keeps.refl wA).alloc _
  have HK := Lib.hid (kA.trans kB)
  have HX := Lib.hid (show CsAt X (slC x) wB from CsAt.keeps (w := wA) (by rw [← hX, ← hA]; exact CsAt.made w #[.bool x.sl, .bool x.fec, .int .i64 x.rows, .int .i64 x.burst, .int .i64 x.rate, .int .i64 x.id, .string x.more] _ (by simp)) kB)
  have HD := Lib.hid (show CsAns w (X + 1) (dsC zD) wB from ⟨by rw [← hz, ← hB]; exact CsAt.made wA #[.int .i64 0, .string ⟨#[]⟩] _ (by simp), kA.trans kB, by omega⟩)
  have x0 := HX.out.cell 0 rfl
  have x1 := HX.out.cell 1 rfl
  have x2 := HX.out.cell 2 rfl
  have x3 := HX.out.cell 3 rfl
  have x4 := HX.out.cell 4 rfl
  have x5 := HX.out.cell 5 rfl
  have x6 := HX.out.cell 6 rfl
  have d0 := HD.out.z.cell 0 rfl
  have d1 := HD.out.z.cell 1 rfl
  have f0 := HD.out.z.fz 0 (by show 0 < 2; decide)
  have f1 := HD.out.z.fz 1 (by show 1 < 2; decide)
  have HB := Lib.hid (fun W => din_any x.burst 255 W)
  have HR := Lib.hid (fun W => din_any x.rate 15 W)
  have HI := Lib.hid (fun W => din_any x.id 15 W)
  clear kA kB
  simp only [decide_eq_true h1] at HB
  simp only [decide_eq_true h2] at HR
  simp only [decide_eq_false h] at HI
  have HF := Lib.hid (mkS_num (fun k : numSl x => h k.2.2.2))
  obtain ⟨sl, fec, rows, burst, rate, id, more⟩ := x
  simp only at hA e HB HR HI
  subst e
  clear h
  clear h1
  clear h2
  go_enter Tryd.func20, Tryd.ntmps20
  go_wp2_with (go_at_call 42; (first | (with_reducible refine (HB.out _).mono ?_) | (with_reducible refine (HR.out _).mono ?_) | (with_reducible refine (HI.out _).mono ?_)); rintro _ w1 ⟨rfl, rfl⟩)
  refine cs_ret2 Tryd.results20 (lvD (HD.out.ends (dsC zD) rfl).z.r) rfl rfl rfl ?_
  exact ⟨(by rw [HF.out]; rfl), (HD.out.ends (dsC zD) rfl).k⟩
set_option maxHeartbeats 1600000 in
theorem dmake_long_1024 (x : Slc) (w : World) (e : x.rows = 1024) (h1 : 0 ≤ x.burst ∧ x.burst ≤ 255) (h2 : 0 ≤ x.rate ∧ x.rate ≤ 15) (h3 : 0 ≤ x.id ∧ x.id ≤ 15) (h : 252 < x.more.size) : Calls Tryd.prog 20 #[slV x] w (DmPost w (mkS x)) := by
  obtain ⟨X, hX⟩ : ∃ X, w.heap.size = X := ⟨_, rfl⟩
  obtain ⟨wA, hA⟩ : ∃ wX, w.alloc (.cells #[.bool x.sl, .bool x.fec, .int .i64 x.rows, .int .i64 x.burst, .int .i64 x.rate, .int .i64 x.id, .string x.more] 47) = wX := ⟨_, rfl⟩
  obtain ⟨wB, hB⟩ : ∃ wX, wA.alloc (.cells #[.int .i64 0, .string ⟨#[]⟩] 44) = wX := ⟨_, rfl⟩
  have hz : wA.heap.size = X + 1 := by rw [← hA, World.size_alloc, hX]
  have kA : Keeps w wA := by rw [← hA]; exact (Keeps.refl w).alloc _
  have kB : Keeps wA wB := by rw [← hB]; exact (Keeps.refl wA).alloc _
  have HK := Lib.hid (kA.trans kB)
  have HX := Lib.hid (show CsAt X (slC x) wB from CsAt.keeps (w := wA) (by rw [← hX, ← hA]; exact CsAt.made w #[.bool x.sl, .bool x.fec, .int .i64 x.rows, .int .i64 x.burst, .int .i64 x.rate, .int .i64 x.id, .string x.more] _ (by simp)) kB)
  have HD := Lib.hid (show CsAns w (X + 1) (dsC zD) wB from ⟨by rw [← hz, ← hB]; exact CsAt.made wA #[.int .i64 0, .string ⟨#[]⟩] _ (by simp), kA.trans kB, by omega⟩)
  have x0 := HX.out.cell 0 rfl
  have x1 := HX.out.cell 1 rfl
  have x2 := HX.out.cell 2 rfl
  have x3 := HX.out.cell 3 rfl
  have x4 := HX.out.cell 4 rfl
  have x5 := HX.out.cell 5 rfl
  have x6 := HX.out.cell 6 rfl
  have d0 := HD.out.z.cell 0 rfl
  have d1 := HD.out.z.cell 1 rfl
  have f0 := HD.out.z.fz 0 (by show 0 < 2; decide)
  have f1 := HD.out.z.fz 1 (by show 1 < 2; decide)
  have HB := Lib.hid (fun W => din_any x.burst 255 W)
  have HR := Lib.hid (fun W => din_any x.rate 15 W)
  have HI := Lib.hid (fun W => din_any x.id 15 W)
  clear kA kB
  simp only [decide_eq_true h1] at HB
  simp only [decide_eq_true h2] at HR
  simp only [decide_eq_true h3] at HI
  have HF := Lib.hid (mkS_long (x := x) ⟨by unfold okR; omega, h1, h2, h3⟩ h)
  obtain ⟨sl, fec, rows, burst, rate, id, more⟩ := x
  simp only at hA e h HB HR HI
  subst e
  have hzi : (252 : Int) < (more.size : Int) := by omega
  clear h h1 h2 h3
  go_enter Tryd.func20, Tryd.ntmps20
  go_wp2_with (go_at_call 42; (first | (with_reducible refine (HB.out _).mono ?_) | (with_reducible refine (HR.out _).mono ?_) | (with_reducible refine (HI.out _).mono ?_)); rintro _ w1 ⟨rfl, rfl⟩)
  refine cs_ret2 Tryd.results20 (lvD (HD.out.ends (dsC zD) rfl).z.r) rfl rfl rfl ?_
  exact ⟨(by rw [HF.out]; rfl), (HD.out.ends (dsC zD) rfl).k⟩
set_option maxHeartbeats 1600000 in
theorem dmake_ok_256_ff (x : Slc) (w : World) (e : x.rows = 256) (es : x.sl = false) (ef : x.fec = false) (h1 : 0 ≤ x.burst ∧ x.burst ≤ 255) (h2 : 0 ≤ x.rate ∧ x.rate ≤ 15) (h3 : 0 ≤ x.id ∧ x.id ≤ 15) (h : x.more.size ≤ 252) : Calls Tryd.prog 20 #[slV x] w (DmPost w (mkS x)) := by
  obtain ⟨X, hX⟩ : ∃ X, w.heap.size = X := ⟨_, rfl⟩
  obtain ⟨wA, hA⟩ : ∃ wX, w.alloc (.cells #[.bool x.sl, .bool x.fec, .int .i64 x.rows, .int .i64 x.burst, .int .i64 x.rate, .int .i64 x.id, .string x.more] 47) = wX := ⟨_, rfl⟩
  obtain ⟨wB, hB⟩ : ∃ wX, wA.alloc (.cells #[.int .i64 0, .string ⟨#[]⟩] 44) = wX := ⟨_, rfl⟩
  have hz : wA.heap.size = X + 1 := by rw [← hA, World.size_alloc, hX]
  have kA : Keeps w wA := by rw [← hA]; exact (Keeps.refl w).alloc _
  have kB : Keeps wA wB := by rw [← hB]; exact (Keeps.refl wA).alloc _
  have HK := Lib.hid (kA.trans kB)
  have HX := Lib.hid (show CsAt X (slC x) wB from CsAt.keeps (w := wA) (by rw [← hX, ← hA]; exact CsAt.made w #[.bool x.sl, .bool x.fec, .int .i64 x.rows, .int .i64 x.burst, .int .i64 x.rate, .int .i64 x.id, .string x.more] _ (by simp)) kB)
  have HD := Lib.hid (show CsAns w (X + 1) (dsC zD) wB from ⟨by rw [← hz, ← hB]; exact CsAt.made wA #[.int .i64 0, .string ⟨#[]⟩] _ (by simp), kA.trans kB, by omega⟩)
  have x0 := HX.out.cell 0 rfl
  have x1 := HX.out.cell 1 rfl
  have x2 := HX.out.cell 2 rfl
  have x3 := HX.out.cell 3 rfl
  have x4 := HX.out.cell 4 rfl
  have x5 := HX.out.cell 5 rfl
  have x6 := HX.out.cell 6 rfl
  have d0 := HD.out.z.cell 0 rfl
  have d1 := HD.out.z.cell 1 rfl
  have f0 := HD.out.z.fz 0 (by show 0 < 2; decide)
  have f1 := HD.out.z.fz 1 (by show 1 < 2; decide)
  have HB := Lib.hid (fun W => din_any x.burst 255 W)
  have HR := Lib.hid (fun W => din_any x.rate 15 W)
  have HI := Lib.hid (fun W => din_any x.id 15 W)
  clear kA kB
  simp only [decide_eq_true h1] at HB
  simp only [decide_eq_true h2] at HR
  simp only [decide_eq_true h3] at HI
  have HF := Lib.hid (mkS_ok (x := x) ⟨⟨by unfold okR; omega, h1, h2, h3⟩, h⟩)
  have hsl : slB x = [Ds.u8 24, Ds.u8 x.burst.toNat, Ds.u8 (16 * x.rate.toNat + x.id.toNat)] ++ ls x.more := by
    have : slF x = 24 := by unfold slF; rw [e, es, ef]; rfl
    unfold slB; rw [this]; rfl
  obtain ⟨sl, fec, rows, burst, rate, id, more⟩ := x
  simp only at hA e es ef h hsl HB HR HI h1 h2 h3
  subst e es ef
  have hzi : ¬ (252 : Int) < (more.size : Int) := by omega
  obtain ⟨q1, hq1⟩ : ∃ q, 16 * rate = q := ⟨_, rfl⟩
  obtain ⟨P, hP⟩ : ∃ p, q1 + id = p := ⟨_, rfl⟩
  have wr1 := wrapI (a := q1) (by omega) (by omega)
  have wr2 := wrapI (a := P) (by omega) (by omega)
  have HL := Lib.hid (show (#[.int .i64 24, .int .i64 burst, .int .i64 P] : Array Value) = ([Ds.u8 24, Ds.u8 burst.toNat, Ds.u8 (16 * rate.toNat + id.toNat)].map I64).toArray by
    simp only [List.map_cons, List.map_nil, I64, Ds.u8_nat (show 24 < 256 by decide), Ds.u8_nat (show burst.toNat < 256 by omega), Ds.u8_nat (show 16 * rate.toNat + id.toNat < 256 by omega)]
    rw [show ((burst.toNat : Nat) : Int) = burst by omega, show ((16 * rate.toNat + id.toNat : Nat) : Int) = P by omega]; rfl)
  have HIN := Lib.hid (fun W : World => show Ints W.heap.size [Ds.u8 24, Ds.u8 burst.toNat, Ds.u8 (16 * rate.toNat + id.toNat)] (W.alloc (.cells #[.int .i64 24, .int .i64 burst, .int .i64 P] 3)) by rw [HL.out]; exact Ints.lit W _ _)
  have HTX := Lib.hid (fun (W : World) (h : Ints wB.heap.size [Ds.u8 24, Ds.u8 burst.toNat, Ds.u8 (16 * rate.toNat + id.toNat)] W) => dtext_any W wB.heap.size 3 3 _ W rfl (by show 3 ≤ 1000; decide) h (Keeps.refl W))
  obtain ⟨L3, hL3⟩ : ∃ l, [Ds.u8 24, Ds.u8 burst.toNat, Ds.u8 (16 * rate.toNat + id.toNat)] = l := ⟨_, rfl⟩
  simp only [hL3] at HIN HTX hsl
  obtain ⟨V, hV⟩ : ∃ V, st L3 = V := ⟨_, rfl⟩
  have hVz : V.size = 3 := by rw [← hV, ← hL3]; rfl
  rw [hV] at HTX
  obtain ⟨Y, hY⟩ : ∃ Y, V ++ more = Y := ⟨_, rfl⟩
  have HY := Lib.hid (show slD ⟨false, false, 256, burst, rate, id, more⟩ = ⟨119, Y⟩ by
    show (⟨119, st (slB _)⟩ : Dsc) = _
    rw [hsl, ← st_append, st_ls, hV, hY])
  have f3 : ¬ 9223372036854775807 < 3 + more.size := by omega
  clear hsl hL3 hV h
  go_enter Tryd.func20, Tryd.ntmps20
  go_wp2_with (go_at_call 42; (first | (with_reducible refine (HB.out _).mono ?_) | (with_reducible refine (HR.out _).mono ?_) | (with_reducible refine (HI.out _).mono ?_)); rintro _ w1 ⟨rfl, rfl⟩)
  refine wp_draw_tail 15 (by kernel_rfl) [.int .i64 24, .pointer (some ⟨X, 3, none⟩), .int .i64 burst, .pointer (some ⟨X, 4, none⟩), .int .i64 rate, .int .i64 q1, .pointer (some ⟨X, 5, none⟩), .int .i64 id, .int .i64 P, .slice (some ⟨wB.heap.size, 0, none⟩) 3 3, .string V, .pointer (some ⟨X, 6, none⟩), .string more, .string Y, .agg #[.int .i64 119, .string Y]]
    (Once 9 (Eqv wB) (fun W => Keeps wB W ∧ Ints wB.heap.size L3 W)) rfl (by kernel_rfl) (by kernel_rfl) (fin := ?fin0) ?hfin0 (Once.start (Eqv.drew wB)) ?each0 ?hend0
  case hfin0 => simp [seqA, dstOf, Act.put]; rfl
  case each0 =>
    refine ⟨?_, ?_, ?_, ?_, ?_, ?_, ?_, ?_, ?_, ?_, ?_, ?_, ?_, ?_, ?_, trivial⟩
    all_goals intro L w5 h0 hd hs hw
    all_goals unfold Does
    all_goals try simp only [Nat.zero_add, Nat.reduceAdd] at h0
    rotate_left 9
    · have hE := hw.1 h0
      have hz := hE.size
      go_simp
      refine fun L' k => Once.done k ⟨((Keeps.refl wB).eqv hE).alloc _, ?_⟩
      have := HIN.out w5
      rwa [hz] at this
    · have h12 := hd 9 (by kernel_rfl)
      have hB := hw.2 h12
      go_simp
      refine (HTX.out w5 hB.2).mono ?_
      rintro e w8 ⟨rfl, k8⟩
      exact ⟨_, rfl, rfl, fun L' k => ⟨fun h => (by rw [(k 9).2 (.inl h12)] at h; cases h), fun _ => ⟨hB.1.trans k8, hB.2.keeps k8⟩⟩⟩
    all_goals have hke := once_kmix hw
    all_goals have y3 := (HX.out.keeps hke).cell 3 rfl
    all_goals have y4 := (HX.out.keeps hke).cell 4 rfl
    all_goals have y5 := (HX.out.keeps hke).cell 5 rfl
    all_goals have y6 := (HX.out.keeps hke).cell 6 rfl
    all_goals go_simp
    all_goals exact fun L' k => hw.same (by decide) k
  case hend0 =>
  intro L w5 hL hw
  have hk5 := (hw.2 (hL 9 (by omega))).1
  have HD5 := Lib.hid (HD.out.keeps hk5)
  have e0 := HD5.out.z.cell 0 rfl
  have e1 := HD5.out.z.cell 1 rfl
  have g0 := HD5.out.z.fz 0 (by show 0 < 2; decide)
  have g1 := HD5.out.z.fz 1 (by show 1 < 2; decide)
  simp only [List.drop_succ_cons, List.drop_zero]
  clear hk5 hw hL x0 x1 x2 x3 x4 x5 x6 d0 d1 f0 f1
  go_wp2
  refine cs_ret2 Tryd.results20 (lvD (HD5.out.ends (dsC ⟨119, Y⟩) rfl).z.r) rfl rfl rfl ?_
  exact ⟨(by rw [HF.out]; show _ = Ending.returned (.tuple #[dsV (slD _), .int .i64 0]); rw [HY.out]; rfl), (HD5.out.ends (dsC ⟨119, Y⟩) rfl).k⟩
set_option maxHeartbeats 1600000 in
theorem dmake_ok_256_ft (x : Slc) (w : World) (e : x.rows = 256) (es : x.sl = false) (ef : x.fec = true) (h1 : 0 ≤ x.burst ∧ x.burst ≤ 255) (h2 : 0 ≤ x.rate ∧ x.rate ≤ 15) (h3 : 0 ≤ x.id ∧ x.id ≤ 15) (h : x.more.size ≤ 252) : Calls Tryd.prog 20 #[slV x] w (DmPost w (mkS x)) := by
  obtain ⟨X, hX⟩ : ∃ X, w.heap.size = X := ⟨_, rfl⟩
  obtain ⟨wA, hA⟩ : ∃ wX, w.alloc (.cells #[.bool x.sl, .bool x.fec, .int .i64 x.rows, .int .i64 x.burst, .int .i64 x.rate, .int .i64 x.id, .string x.more] 47) = wX := ⟨_, rfl⟩
  obtain ⟨wB, hB⟩ : ∃ wX, wA.alloc (.cells #[.int .i64 0, .string ⟨#[]⟩] 44) = wX := ⟨_, rfl⟩
  have hz : wA.heap.size = X + 1 := by rw [← hA, World.size_alloc, hX]
  have kA : Keeps w wA := by rw [← hA]; exact (Keeps.refl w).alloc _
  have kB : Keeps wA wB := by rw [← hB]; exact (Keeps.refl wA).alloc _
  have HK := Lib.hid (kA.trans kB)
  have HX := Lib.hid (show CsAt X (slC x) wB from CsAt.keeps (w := wA) (by rw [← hX, ← hA]; exact CsAt.made w #[.bool x.sl, .bool x.fec, .int .i64 x.rows, .int .i64 x.burst, .int .i64 x.rate, .int .i64 x.id, .string x.more] _ (by simp)) kB)
  have HD := Lib.hid (show CsAns w (X + 1) (dsC zD) wB from ⟨by rw [← hz, ← hB]; exact CsAt.made wA #[.int .i64 0, .string ⟨#[]⟩] _ (by simp), kA.trans kB, by omega⟩)
  have x0 := HX.out.cell 0 rfl
  have x1 := HX.out.cell 1 rfl
  have x2 := HX.out.cell 2 rfl
  have x3 := HX.out.cell 3 rfl
  have x4 := HX.out.cell 4 rfl
  have x5 := HX.out.cell 5 rfl
  have x6 := HX.out.cell 6 rfl
  have d0 := HD.out.z.cell 0 rfl
  have d1 := HD.out.z.cell 1 rfl
  have f0 := HD.out.z.fz 0 (by show 0 < 2; decide)
  have f1 := HD.out.z.fz 1 (by show 1 < 2; decide)
  have HB := Lib.hid (fun W => din_any x.burst 255 W)
  have HR := Lib.hid (fun W => din_any x.rate 15 W)
  have HI := Lib.hid (fun W => din_any x.id 15 W)
  clear kA kB
  simp only [decide_eq_true h1] at HB
  simp only [decide_eq_true h2] at HR
  simp only [decide_eq_true h3] at HI
  have HF := Lib.hid (mkS_ok (x := x) ⟨⟨by unfold okR; omega, h1, h2, h3⟩, h⟩)
  have hsl : slB x = [Ds.u8 56, Ds.u8 x.burst.toNat, Ds.u8 (16 * x.rate.toNat + x.id.toNat)] ++ ls x.more := by
    have : slF x = 56 := by unfold slF; rw [e, es, ef]; rfl
    unfold slB; rw [this]; rfl
  obtain ⟨sl, fec, rows, burst, rate, id, more⟩ := x
  simp only at hA e es ef h hsl HB HR HI h1 h2 h3
  subst e es ef
  have hzi : ¬ (252 : Int) < (more.size : Int) := by omega
  obtain ⟨q1, hq1⟩ : ∃ q, 16 * rate = q := ⟨_, rfl⟩
  obtain ⟨P, hP⟩ : ∃ p, q1 + id = p := ⟨_, rfl⟩
  have wr1 := wrapI (a := q1) (by omega) (by omega)
  have wr2 := wrapI (a := P) (by omega) (by omega)
  have HL := Lib.hid (show (#[.int .i64 56, .int .i64 burst, .int .i64 P] : Array Value) = ([Ds.u8 56, Ds.u8 burst.toNat, Ds.u8 (16 * rate.toNat + id.toNat)].map I64).toArray by
    simp only [List.map_cons, List.map_nil, I64, Ds.u8_nat (show 56 < 256 by decide), Ds.u8_nat (show burst.toNat < 256 by omega), Ds.u8_nat (show 16 * rate.toNat + id.toNat < 256 by omega)]
    rw [show ((burst.toNat : Nat) : Int) = burst by omega, show ((16 * rate.toNat + id.toNat : Nat) : Int) = P by omega]; rfl)
  have HIN := Lib.hid (fun W : World => show Ints W.heap.size [Ds.u8 56, Ds.u8 burst.toNat, Ds.u8 (16 * rate.toNat + id.toNat)] (W.alloc (.cells #[.int .i64 56, .int .i64 burst, .int .i64 P] 3)) by rw [HL.out]; exact Ints.lit W _ _)
  have HTX := Lib.hid (fun (W : World) (h : Ints wB.heap.size [Ds.u8 56, Ds.u8 burst.toNat, Ds.u8 (16 * rate.toNat + id.toNat)] W) => dtext_any W wB.heap.size 3 3 _ W rfl (by show 3 ≤ 1000; decide) h (Keeps.refl W))
  obtain ⟨L3, hL3⟩ : ∃ l, [Ds.u8 56, Ds.u8 burst.toNat, Ds.u8 (16 * rate.toNat + id.toNat)] = l := ⟨_, rfl⟩
  simp only [hL3] at HIN HTX hsl
  obtain ⟨V, hV⟩ : ∃ V, st L3 = V := ⟨_, rfl⟩
  have hVz : V.size = 3 := by rw [← hV, ← hL3]; rfl
  rw [hV] at HTX
  obtain ⟨Y, hY⟩ : ∃ Y, V ++ more = Y := ⟨_, rfl⟩
  have HY := Lib.hid (show slD ⟨false, true, 256, burst, rate, id, more⟩ = ⟨119, Y⟩ by
    show (⟨119, st (slB _)⟩ : Dsc) = _
    rw [hsl, ← st_append, st_ls, hV, hY])
  have f3 : ¬ 9223372036854775807 < 3 + more.size := by omega
  clear hsl hL3 hV h
  go_enter Tryd.func20, Tryd.ntmps20
  go_wp2_with (go_at_call 42; (first | (with_reducible refine (HB.out _).mono ?_) | (with_reducible refine (HR.out _).mono ?_) | (with_reducible refine (HI.out _).mono ?_)); rintro _ w1 ⟨rfl, rfl⟩)
  refine wp_draw_tail 15 (by kernel_rfl) [.int .i64 56, .pointer (some ⟨X, 3, none⟩), .int .i64 burst, .pointer (some ⟨X, 4, none⟩), .int .i64 rate, .int .i64 q1, .pointer (some ⟨X, 5, none⟩), .int .i64 id, .int .i64 P, .slice (some ⟨wB.heap.size, 0, none⟩) 3 3, .string V, .pointer (some ⟨X, 6, none⟩), .string more, .string Y, .agg #[.int .i64 119, .string Y]]
    (Once 9 (Eqv wB) (fun W => Keeps wB W ∧ Ints wB.heap.size L3 W)) rfl (by kernel_rfl) (by kernel_rfl) (fin := ?fin0) ?hfin0 (Once.start (Eqv.drew wB)) ?each0 ?hend0
  case hfin0 => simp [seqA, dstOf, Act.put]; rfl
  case each0 =>
    refine ⟨?_, ?_, ?_, ?_, ?_, ?_, ?_, ?_, ?_, ?_, ?_, ?_, ?_, ?_, ?_, trivial⟩
    all_goals intro L w5 h0 hd hs hw
    all_goals unfold Does
    all_goals try simp only [Nat.zero_add, Nat.reduceAdd] at h0
    rotate_left 9
    · have hE := hw.1 h0
      have hz := hE.size
      go_simp
      refine fun L' k => Once.done k ⟨((Keeps.refl wB).eqv hE).alloc _, ?_⟩
      have := HIN.out w5
      rwa [hz] at this
    · have h12 := hd 9 (by kernel_rfl)
      have hB := hw.2 h12
      go_simp
      refine (HTX.out w5 hB.2).mono ?_
      rintro e w8 ⟨rfl, k8⟩
      exact ⟨_, rfl, rfl, fun L' k => ⟨fun h => (by rw [(k 9).2 (.inl h12)] at h; cases h), fun _ => ⟨hB.1.trans k8, hB.2.keeps k8⟩⟩⟩
    all_goals have hke := once_kmix hw
    all_goals have y3 := (HX.out.keeps hke).cell 3 rfl
    all_goals have y4 := (HX.out.keeps hke).cell 4 rfl
    all_goals have y5 := (HX.out.keeps hke).cell 5 rfl
    all_goals have y6 := (HX.out.keeps hke).cell 6 rfl
    all_goals go_simp
    all_goals exact fun L' k => hw.same (by decide) k
  case hend0 =>
  intro L w5 hL hw
  have hk5 := (hw.2 (hL 9 (by omega))).1
  have HD5 := Lib.hid (HD.out.keeps hk5)
  have e0 := HD5.out.z.cell 0 rfl
  have e1 := HD5.out.z.cell 1 rfl
  have g0 := HD5.out.z.fz 0 (by show 0 < 2; decide)
  have g1 := HD5.out.z.fz 1 (by show 1 < 2; decide)
  simp only [List.drop_succ_cons, List.drop_zero]
  clear hk5 hw hL x0 x1 x2 x3 x4 x5 x6 d0 d1 f0 f1
  go_wp2
  refine cs_ret2 Tryd.results20 (lvD (HD5.out.ends (dsC ⟨119, Y⟩) rfl).z.r) rfl rfl rfl ?_
  exact ⟨(by rw [HF.out]; show _ = Ending.returned (.tuple #[dsV (slD _), .int .i64 0]); rw [HY.out]; rfl), (HD5.out.ends (dsC ⟨119, Y⟩) rfl).k⟩
set_option maxHeartbeats 1600000 in
theorem dmake_ok_256_tf (x : Slc) (w : World) (e : x.rows = 256) (es : x.sl = true) (ef : x.fec = false) (h1 : 0 ≤ x.burst ∧ x.burst ≤ 255) (h2 : 0 ≤ x.rate ∧ x.rate ≤ 15) (h3 : 0 ≤ x.id ∧ x.id ≤ 15) (h : x.more.size ≤ 252) : Calls Tryd.prog 20 #[slV x] w (DmPost w (mkS x)) := by
  obtain ⟨X, hX⟩ : ∃ X, w.heap.size = X := ⟨_, rfl⟩
  obtain ⟨wA, hA⟩ : ∃ wX, w.alloc (.cells #[.bool x.sl, .bool x.fec, .int .i64 x.rows, .int .i64 x.burst, .int .i64 x.rate, .int .i64 x.id, .string x.more] 47) = wX := ⟨_, rfl⟩
  obtain ⟨wB, hB⟩ : ∃ wX, wA.alloc (.cells #[.int .i64 0, .string ⟨#[]⟩] 44) = wX := ⟨_, rfl⟩
  have hz : wA.heap.size = X + 1 := by rw [← hA, World.size_alloc, hX]
  have kA : Keeps w wA := by rw [← hA]; exact (Keeps.refl w).alloc _
  have kB : Keeps wA wB := by rw [← hB]; exact (Keeps.refl wA).alloc _
  have HK := Lib.hid (kA.trans kB)
  have HX := Lib.hid (show CsAt X (slC x) wB from CsAt.keeps (w := wA) (by rw [← hX, ← hA]; exact CsAt.made w #[.bool x.sl, .bool x.fec, .int .i64 x.rows, .int .i64 x.burst, .int .i64 x.rate, .int .i64 x.id, .string x.more] _ (by simp)) kB)
  have HD := Lib.hid (show CsAns w (X + 1) (dsC zD) wB from ⟨by rw [← hz, ← hB]; exact CsAt.made wA #[.int .i64 0, .string ⟨#[]⟩] _ (by simp), kA.trans kB, by omega⟩)
  have x0 := HX.out.cell 0 rfl
  have x1 := HX.out.cell 1 rfl
  have x2 := HX.out.cell 2 rfl
  have x3 := HX.out.cell 3 rfl
  have x4 := HX.out.cell 4 rfl
  have x5 := HX.out.cell 5 rfl
  have x6 := HX.out.cell 6 rfl
  have d0 := HD.out.z.cell 0 rfl
  have d1 := HD.out.z.cell 1 rfl
  have f0 := HD.out.z.fz 0 (by show 0 < 2; decide)
  have f1 := HD.out.z.fz 1 (by show 1 < 2; decide)
  have HB := Lib.hid (fun W => din_any x.burst 255 W)
  have HR := Lib.hid (fun W => din_any x.rate 15 W)
  have HI := Lib.hid (fun W => din_any x.id 15 W)
  clear kA kB
  simp only [decide_eq_true h1] at HB
  simp only [decide_eq_true h2] at HR
  simp only [decide_eq_true h3] at HI
  have HF := Lib.hid (mkS_ok (x := x) ⟨⟨by unfold okR; omega, h1, h2, h3⟩, h⟩)
  have hsl : slB x = [Ds.u8 152, Ds.u8 x.burst.toNat, Ds.u8 (16 * x.rate.toNat + x.id.toNat)] ++ ls x.more := by
    have : slF x = 152 := by unfold slF; rw [e, es, ef]; rfl
    unfold slB; rw [this]; rfl
  obtain ⟨sl, fec, rows, burst, rate, id, more⟩ := x
  simp only at hA e es ef h hsl HB HR HI h1 h2 h3
  subst e es ef
  have hzi : ¬ (252 : Int) < (more.size : Int) := by omega
  obtain ⟨q1, hq1⟩ : ∃ q, 16 * rate = q := ⟨_, rfl⟩
  obtain ⟨P, hP⟩ : ∃ p, q1 + id = p := ⟨_, rfl⟩
  have wr1 := wrapI (a := q1) (by omega) (by omega)
  have wr2 := wrapI (a := P) (by omega) (by omega)
  have HL := Lib.hid (show (#[.int .i64 152, .int .i64 burst, .int .i64 P] : Array Value) = ([Ds.u8 152, Ds.u8 burst.toNat, Ds.u8 (16 * rate.toNat + id.toNat)].map I64).toArray by
    simp only [List.map_cons, List.map_nil, I64, Ds.u8_nat (show 152 < 256 by decide), Ds.u8_nat (show burst.toNat < 256 by omega), Ds.u8_nat (show 16 * rate.toNat + id.toNat < 256 by omega)]
    rw [show ((burst.toNat : Nat) : Int) = burst by omega, show ((16 * rate.toNat + id.toNat : Nat) : Int) = P by omega]; rfl)
  have HIN := Lib.hid (fun W : World => show Ints W.heap.size [Ds.u8 152, Ds.u8 burst.toNat, Ds.u8 (16 * rate.toNat + id.toNat)] (W.alloc (.cells #[.int .i64 152, .int .i64 burst, .int .i64 P] 3)) by rw [HL.out]; exact Ints.lit W _ _)
  have HTX := Lib.hid (fun (W : World) (h : Ints wB.heap.size [Ds.u8 152, Ds.u8 burst.toNat, Ds.u8 (16 * rate.toNat + id.toNat)] W) => dtext_any W wB.heap.size 3 3 _ W rfl (by show 3 ≤ 1000; decide) h (Keeps.refl W))
  obtain ⟨L3, hL3⟩ : ∃ l, [Ds.u8 152, Ds.u8 burst.toNat, Ds.u8 (16 * rate.toNat + id.toNat)] = l := ⟨_, rfl⟩
  simp only [hL3] at HIN HTX hsl
  obtain ⟨V, hV⟩ : ∃ V, st L3 = V := ⟨_, rfl⟩
  have hVz : V.size = 3 := by rw [← hV, ← hL3]; rfl
  rw [hV] at HTX
  obtain ⟨Y, hY⟩ : ∃ Y, V ++ more = Y := ⟨_, rfl⟩
  have HY := Lib.hid (show slD ⟨true, false, 256, burst, rate, id, more⟩ = ⟨119, Y⟩ by
    show (⟨119, st (slB _)⟩ : Dsc) = _
    rw [hsl, ← st_append, st_ls, hV, hY])
  have f3 : ¬ 9223372036854775807 < 3 + more.size := by omega
  clear hsl hL3 hV h
  go_enter Tryd.func20, Tryd.ntmps20
  go_wp2_with (go_at_call 42; (first | (with_reducible refine (HB.out _).mono ?_) | (with_reducible refine (HR.out _).mono ?_) | (with_reducible refine (HI.out _).mono ?_)); rintro _ w1 ⟨rfl, rfl⟩)
  refine wp_draw_tail 15 (by kernel_rfl) [.int .i64 152, .pointer (some ⟨X, 3, none⟩), .int .i64 burst, .pointer (some ⟨X, 4, none⟩), .int .i64 rate, .int .i64 q1, .pointer (some ⟨X, 5, none⟩), .int .i64 id, .int .i64 P, .slice (some ⟨wB.heap.size, 0, none⟩) 3 3, .string V, .pointer (some ⟨X, 6, none⟩), .string more, .string Y, .agg #[.int .i64 119, .string Y]]
    (Once 9 (Eqv wB) (fun W => Keeps wB W ∧ Ints wB.heap.size L3 W)) rfl (by kernel_rfl) (by kernel_rfl) (fin := ?fin0) ?hfin0 (Once.start (Eqv.drew wB)) ?each0 ?hend0
  case hfin0 => simp [seqA, dstOf, Act.put]; rfl
  case each0 =>
    refine ⟨?_, ?_, ?_, ?_, ?_, ?_, ?_, ?_, ?_, ?_, ?_, ?_, ?_, ?_, ?_, trivial⟩
    all_goals intro L w5 h0 hd hs hw
    all_goals unfold Does
    all_goals try simp only [Nat.zero_add, Nat.reduceAdd] at h0
    rotate_left 9
    · have hE := hw.1 h0
      have hz := hE.size
      go_simp
      refine fun L' k => Once.done k ⟨((Keeps.refl wB).eqv hE).alloc _, ?_⟩
      have := HIN.out w5
      rwa [hz] at this
    · have h12 := hd 9 (by kernel_rfl)
      have hB := hw.2 h12
      go_simp
      refine (HTX.out w5 hB.2).mono ?_
      rintro e w8 ⟨rfl, k8⟩
      exact ⟨_, rfl, rfl, fun L' k => ⟨fun h => (by rw [(k 9).2 (.inl h12)] at h; cases h), fun _ => ⟨hB.1.trans k8, hB.2.keeps k8⟩⟩⟩
    all_goals have hke := once_kmix hw
    all_goals have y3 := (HX.out.keeps hke).cell 3 rfl
    all_goals have y4 := (HX.out.keeps hke).cell 4 rfl
    all_goals have y5 := (HX.out.keeps hke).cell 5 rfl
    all_goals have y6 := (HX.out.keeps hke).cell 6 rfl
    all_goals go_simp
    all_goals exact fun L' k => hw.same (by decide) k
  case hend0 =>
  intro L w5 hL hw
  have hk5 := (hw.2 (hL 9 (by omega))).1
  have HD5 := Lib.hid (HD.out.keeps hk5)
  have e0 := HD5.out.z.cell 0 rfl
  have e1 := HD5.out.z.cell 1 rfl
  have g0 := HD5.out.z.fz 0 (by show 0 < 2; decide)
  have g1 := HD5.out.z.fz 1 (by show 1 < 2; decide)
  simp only [List.drop_succ_cons, List.drop_zero]
  clear hk5 hw hL x0 x1 x2 x3 x4 x5 x6 d0 d1 f0 f1
  go_wp2
  refine cs_ret2 Tryd.results20 (lvD (HD5.out.ends (dsC ⟨119, Y⟩) rfl).z.r) rfl rfl rfl ?_
  exact ⟨(by rw [HF.out]; show _ = Ending.returned (.tuple #[dsV (slD _), .int .i64 0]); rw [HY.out]; rfl), (HD5.out.ends (dsC ⟨119, Y⟩) rfl).k⟩
set_option maxHeartbeats 1600000 in
theorem dmake_ok_256_tt (x : Slc) (w : World) (e : x.rows = 256) (es : x.sl = true) (ef : x.fec = true) (h1 : 0 ≤ x.burst ∧ x.burst ≤ 255) (h2 : 0 ≤ x.rate ∧ x.rate ≤ 15) (h3 : 0 ≤ x.id ∧ x.id ≤ 15) (h : x.more.size ≤ 252) : Calls Tryd.prog 20 #[slV x] w (DmPost w (mkS x)) := by
  obtain ⟨X, hX⟩ : ∃ X, w.heap.size = X := ⟨_, rfl⟩
  obtain ⟨wA, hA⟩ : ∃ wX, w.alloc (.cells #[.bool x.sl, .bool x.fec, .int .i64 x.rows, .int .i64 x.burst, .int .i64 x.rate, .int .i64 x.id, .string x.more] 47) = wX := ⟨_, rfl⟩
  obtain ⟨wB, hB⟩ : ∃ wX, wA.alloc (.cells #[.int .i64 0, .string ⟨#[]⟩] 44) = wX := ⟨_, rfl⟩
  have hz : wA.heap.size = X + 1 := by rw [← hA, World.size_alloc, hX]
  have kA : Keeps w wA := by rw [← hA]; exact (Keeps.refl w).alloc _
  have kB : Keeps wA wB := by rw [← hB]; exact (Keeps.refl wA).alloc _
  have HK := Lib.hid (kA.trans kB)
  have HX := Lib.hid (show CsAt X (slC x) wB from CsAt.keeps (w := wA) (by rw [← hX, ← hA]; exact CsAt.made w #[.bool x.sl, .bool x.fec, .int .i64 x.rows, .int .i64 x.burst, .int .i64 x.rate, .int .i64 x.id, .string x.more] _ (by simp)) kB)
  have HD := Lib.hid (show CsAns w (X + 1) (dsC zD) wB from ⟨by rw [← hz, ← hB]; exact CsAt.made wA #[.int .i64 0, .string ⟨#[]⟩] _ (by simp), kA.trans kB, by omega⟩)
  have x0 := HX.out.cell 0 rfl
  have x1 := HX.out.cell 1 rfl
  have x2 := HX.out.cell 2 rfl
  have x3 := HX.out.cell 3 rfl
  have x4 := HX.out.cell 4 rfl
  have x5 := HX.out.cell 5 rfl
  have x6 := HX.out.cell 6 rfl
  have d0 := HD.out.z.cell 0 rfl
  have d1 := HD.out.z.cell 1 rfl
  have f0 := HD.out.z.fz 0 (by show 0 < 2; decide)
  have f1 := HD.out.z.fz 1 (by show 1 < 2; decide)
  have HB := Lib.hid (fun W => din_any x.burst 255 W)
  have HR := Lib.hid (fun W => din_any x.rate 15 W)
  have HI := Lib.hid (fun W => din_any x.id 15 W)
  clear kA kB
  simp only [decide_eq_true h1] at HB
  simp only [decide_eq_true h2] at HR
  simp only [decide_eq_true h3] at HI
  have HF := Lib.hid (mkS_ok (x := x) ⟨⟨by unfold okR; omega, h1, h2, h3⟩, h⟩)
  have hsl : slB x = [Ds.u8 184, Ds.u8 x.burst.toNat, Ds.u8 (16 * x.rate.toNat + x.id.toNat)] ++ ls x.more := by
    have : slF x = 184 := by unfold slF; rw [e, es, ef]; rfl
    unfold slB; rw [this]; rfl
  obtain ⟨sl, fec, rows, burst, rate, id, more⟩ := x
  simp only at hA e es ef h hsl HB HR HI h1 h2 h3
  subst e es ef
  have hzi : ¬ (252 : Int) < (more.size : Int) := by omega
  obtain ⟨q1, hq1⟩ : ∃ q, 16 * rate = q := ⟨_, rfl⟩
  obtain ⟨P, hP⟩ : ∃ p, q1 + id = p := ⟨_, rfl⟩
  have wr1 := wrapI (a := q1) (by omega) (by omega)
  have wr2 := wrapI (a := P) (by omega) (by omega)
  have HL := Lib.hid (show (#[.int .i64 184, .int .i64 burst, .int .i64 P] : Array Value) = ([Ds.u8 184, Ds.u8 burst.toNat, Ds.u8 (16 * rate.toNat + id.toNat)].map I64).toArray by
    simp only [List.map_cons, List.map_nil, I64, Ds.u8_nat (show 184 < 256 by decide), Ds.u8_nat (show burst.toNat < 256 by omega), Ds.u8_nat (show 16 * rate.toNat + id.toNat < 256 by omega)]
    rw [show ((burst.toNat : Nat) : Int) = burst by omega, show ((16 * rate.toNat + id.toNat : Nat) : Int) = P by omega]; rfl)
  have HIN := Lib.hid (fun W : World => show Ints W.heap.size [Ds.u8 184, Ds.u8 burst.toNat, Ds.u8 (16 * rate.toNat + id.toNat)] (W.alloc (.cells #[.int .i64 184, .int .i64 burst, .int .i64 P] 3)) by rw [HL.out]; exact Ints.lit W _ _)
  have HTX := Lib.hid (fun (W : World) (h : Ints wB.heap.size [Ds.u8 184, Ds.u8 burst.toNat, Ds.u8 (16 * rate.toNat + id.toNat)] W) => dtext_any W wB.heap.size 3 3 _ W rfl (by show 3 ≤ 1000; decide) h (Keeps.refl W))
  obtain ⟨L3, hL3⟩ : ∃ l, [Ds.u8 184, Ds.u8 burst.toNat, Ds.u8 (16 * rate.toNat + id.toNat)] = l := ⟨_, rfl⟩
  simp only [hL3] at HIN HTX hsl
  obtain ⟨V, hV⟩ : ∃ V, st L3 = V := ⟨_, rfl⟩
  have hVz : V.size = 3 := by rw [← hV, ← hL3]; rfl
  rw [hV] at HTX
  obtain ⟨Y, hY⟩ : ∃ Y, V ++ more = Y := ⟨_, rfl⟩
  have HY := Lib.hid (show slD ⟨true, true, 256, burst, rate, id, more⟩ = ⟨119, Y⟩ by
    show (⟨119, st (slB _)⟩ : Dsc) = _
    rw [hsl, ← st_append, st_ls, hV, hY])
  have f3 : ¬ 9223372036854775807 < 3 + more.size := by omega
  clear hsl hL3 hV h
  go_enter Tryd.func20, Tryd.ntmps20
  go_wp2_with (go_at_call 42; (first | (with_reducible refine (HB.out _).mono ?_) | (with_reducible refine (HR.out _).mono ?_) | (with_reducible refine (HI.out _).mono ?_)); rintro _ w1 ⟨rfl, rfl⟩)
  refine wp_draw_tail 15 (by kernel_rfl) [.int .i64 184, .pointer (some ⟨X, 3, none⟩), .int .i64 burst, .pointer (some ⟨X, 4, none⟩), .int .i64 rate, .int .i64 q1, .pointer (some ⟨X, 5, none⟩), .int .i64 id, .int .i64 P, .slice (some ⟨wB.heap.size, 0, none⟩) 3 3, .string V, .pointer (some ⟨X, 6, none⟩), .string more, .string Y, .agg #[.int .i64 119, .string Y]]
    (Once 9 (Eqv wB) (fun W => Keeps wB W ∧ Ints wB.heap.size L3 W)) rfl (by kernel_rfl) (by kernel_rfl) (fin := ?fin0) ?hfin0 (Once.start (Eqv.drew wB)) ?each0 ?hend0
  case hfin0 => simp [seqA, dstOf, Act.put]; rfl
  case each0 =>
    refine ⟨?_, ?_, ?_, ?_, ?_, ?_, ?_, ?_, ?_, ?_, ?_, ?_, ?_, ?_, ?_, trivial⟩
    all_goals intro L w5 h0 hd hs hw
    all_goals unfold Does
    all_goals try simp only [Nat.zero_add, Nat.reduceAdd] at h0
    rotate_left 9
    · have hE := hw.1 h0
      have hz := hE.size
      go_simp
      refine fun L' k => Once.done k ⟨((Keeps.refl wB).eqv hE).alloc _, ?_⟩
      have := HIN.out w5
      rwa [hz] at this
    · have h12 := hd 9 (by kernel_rfl)
      have hB := hw.2 h12
      go_simp
      refine (HTX.out w5 hB.2).mono ?_
      rintro e w8 ⟨rfl, k8⟩
      exact ⟨_, rfl, rfl, fun L' k => ⟨fun h => (by rw [(k 9).2 (.inl h12)] at h; cases h), fun _ => ⟨hB.1.trans k8, hB.2.keeps k8⟩⟩⟩
    all_goals have hke := once_kmix hw
    all_goals have y3 := (HX.out.keeps hke).cell 3 rfl
    all_goals have y4 := (HX.out.keeps hke).cell 4 rfl
    all_goals have y5 := (HX.out.keeps hke).cell 5 rfl
    all_goals have y6 := (HX.out.keeps hke).cell 6 rfl
    all_goals go_simp
    all_goals exact fun L' k => hw.same (by decide) k
  case hend0 =>
  intro L w5 hL hw
  have hk5 := (hw.2 (hL 9 (by omega))).1
  have HD5 := Lib.hid (HD.out.keeps hk5)
  have e0 := HD5.out.z.cell 0 rfl
  have e1 := HD5.out.z.cell 1 rfl
  have g0 := HD5.out.z.fz 0 (by show 0 < 2; decide)
  have g1 := HD5.out.z.fz 1 (by show 1 < 2; decide)
  simp only [List.drop_succ_cons, List.drop_zero]
  clear hk5 hw hL x0 x1 x2 x3 x4 x5 x6 d0 d1 f0 f1
  go_wp2
  refine cs_ret2 Tryd.results20 (lvD (HD5.out.ends (dsC ⟨119, Y⟩) rfl).z.r) rfl rfl rfl ?_
  exact ⟨(by rw [HF.out]; show _ = Ending.returned (.tuple #[dsV (slD _), .int .i64 0]); rw [HY.out]; rfl), (HD5.out.ends (dsC ⟨119, Y⟩) rfl).k⟩
set_option maxHeartbeats 1600000 in
theorem dmake_ok_512_ff (x : Slc) (w : World) (e : x.rows = 512) (es : x.sl = false) (ef : x.fec = false) (h1 : 0 ≤ x.burst ∧ x.burst ≤ 255) (h2 : 0 ≤ x.rate ∧ x.rate ≤ 15) (h3 : 0 ≤ x.id ∧ x.id ≤ 15) (h : x.more.size ≤ 252) : Calls Tryd.prog 20 #[slV x] w (DmPost w (mkS x)) := by
  obtain ⟨X, hX⟩ : ∃ X, w.heap.size = X := ⟨_, rfl⟩
  obtain ⟨wA, hA⟩ : ∃ wX, w.alloc (.cells #[.bool x.sl, .bool x.fec, .int .i64 x.rows, .int .i64 x.burst, .int .i64 x.rate, .int .i64 x.id, .string x.more] 47) = wX := ⟨_, rfl⟩
  obtain ⟨wB, hB⟩ : ∃ wX, wA.alloc (.cells #[.int .i64 0, .string ⟨#[]⟩] 44) = wX := ⟨_, rfl⟩
  have hz : wA.heap.size = X + 1 := by rw [← hA, World.size_alloc, hX]
  have kA : Keeps w wA := by rw [← hA]; exact (Keeps.refl w).alloc _
  have kB : Keeps wA wB := by rw [← hB]; exact (Keeps.refl wA).alloc _
  have HK := Lib.hid (kA.trans kB)
  have HX := Lib.hid (show CsAt X (slC x) wB from CsAt.keeps (w := wA) (by rw [← hX, ← hA]; exact CsAt.made w #[.bool x.sl, .bool x.fec, .int .i64 x.rows, .int .i64 x.burst, .int .i64 x.rate, .int .i64 x.id, .string x.more] _ (by simp)) kB)
  have HD := Lib.hid (show CsAns w (X + 1) (dsC zD) wB from ⟨by rw [← hz, ← hB]; exact CsAt.made wA #[.int .i64 0, .string ⟨#[]⟩] _ (by simp), kA.trans kB, by omega⟩)
  have x0 := HX.out.cell 0 rfl
  have x1 := HX.out.cell 1 rfl
  have x2 := HX.out.cell 2 rfl
  have x3 := HX.out.cell 3 rfl
  have x4 := HX.out.cell 4 rfl
  have x5 := HX.out.cell 5 rfl
  have x6 := HX.out.cell 6 rfl
  have d0 := HD.out.z.cell 0 rfl
  have d1 := HD.out.z.cell 1 rfl
  have f0 := HD.out.z.fz 0 (by show 0 < 2; decide)
  have f1 := HD.out.z.fz 1 (by show 1 < 2; decide)
  have HB := Lib.hid (fun W => din_any x.burst 255 W)
  have HR := Lib.hid (fun W => din_any x.rate 15 W)
  have HI := Lib.hid (fun W => din_any x.id 15 W)
  clear kA kB
  simp only [decide_eq_true h1] at HB
  simp only [decide_eq_true h2] at HR
  simp only [decide_eq_true h3] at HI
  have HF := Lib.hid (mkS_ok (x := x) ⟨⟨by unfold okR; omega, h1, h2, h3⟩, h⟩)
  have hsl : slB x = [Ds.u8 25, Ds.u8 x.burst.toNat, Ds.u8 (16 * x.rate.toNat + x.id.toNat)] ++ ls x.more := by
    have : slF x = 25 := by unfold slF; rw [e, es, ef]; rfl
    unfold slB; rw [this]; rfl
  obtain ⟨sl, fec, rows, burst, rate, id, more⟩ := x
  simp only at hA e es ef h hsl HB HR HI h1 h2 h3
  subst e es ef
  have hzi : ¬ (252 : Int) < (more.size : Int) := by omega
  obtain ⟨q1, hq1⟩ : ∃ q, 16 * rate = q := ⟨_, rfl⟩
  obtain ⟨P, hP⟩ : ∃ p, q1 + id = p := ⟨_, rfl⟩
  have wr1 := wrapI (a := q1) (by omega) (by omega)
  have wr2 := wrapI (a := P) (by omega) (by omega)
  have HL := Lib.hid (show (#[.int .i64 25, .int .i64 burst, .int .i64 P] : Array Value) = ([Ds.u8 25, Ds.u8 burst.toNat, Ds.u8 (16 * rate.toNat + id.toNat)].map I64).toArray by
    simp only [List.map_cons, List.map_nil, I64, Ds.u8_nat (show 25 < 256 by decide), Ds.u8_nat (show burst.toNat < 256 by omega), Ds.u8_nat (show 16 * rate.toNat + id.toNat < 256 by omega)]
    rw [show ((burst.toNat : Nat) : Int) = burst by omega, show ((16 * rate.toNat + id.toNat : Nat) : Int) = P by omega]; rfl)
  have HIN := Lib.hid (fun W : World => show Ints W.heap.size [Ds.u8 25, Ds.u8 burst.toNat, Ds.u8 (16 * rate.toNat + id.toNat)] (W.alloc (.cells #[.int .i64 25, .int .i64 burst, .int .i64 P] 3)) by rw [HL.out]; exact Ints.lit W _ _)
  have HTX := Lib.hid (fun (W : World) (h : Ints wB.heap.size [Ds.u8 25, Ds.u8 burst.toNat, Ds.u8 (16 * rate.toNat + id.toNat)] W) => dtext_any W wB.heap.size 3 3 _ W rfl (by show 3 ≤ 1000; decide) h (Keeps.refl W))
  obtain ⟨L3, hL3⟩ : ∃ l, [Ds.u8 25, Ds.u8 burst.toNat, Ds.u8 (16 * rate.toNat + id.toNat)] = l := ⟨_, rfl⟩
  simp only [hL3] at HIN HTX hsl
  obtain ⟨V, hV⟩ : ∃ V, st L3 = V := ⟨_, rfl⟩
  have hVz : V.size = 3 := by rw [← hV, ← hL3]; rfl
  rw [hV] at HTX
  obtain ⟨Y, hY⟩ : ∃ Y, V ++ more = Y := ⟨_, rfl⟩
  have HY := Lib.hid (show slD ⟨false, false, 512, burst, rate, id, more⟩ = ⟨119, Y⟩ by
    show (⟨119, st (slB _)⟩ : Dsc) = _
    rw [hsl, ← st_append, st_ls, hV, hY])
  have f3 : ¬ 9223372036854775807 < 3 + more.size := by omega
  clear hsl hL3 hV h
  go_enter Tryd.func20, Tryd.ntmps20
  go_wp2_with (go_at_call 42; (first | (with_reducible refine (HB.out _).mono ?_) | (with_reducible refine (HR.out _).mono ?_) | (with_reducible refine (HI.out _).mono ?_)); rintro _ w1 ⟨rfl, rfl⟩)
  refine wp_draw_tail 15 (by kernel_rfl) [.int .i64 25, .pointer (some ⟨X, 3, none⟩), .int .i64 burst, .pointer (some ⟨X, 4, none⟩), .int .i64 rate, .int .i64 q1, .pointer (some ⟨X, 5, none⟩), .int .i64 id, .int .i64 P, .slice (some ⟨wB.heap.size, 0, none⟩) 3 3, .string V, .pointer (some ⟨X, 6, none⟩), .string more, .string Y, .agg #[.int .i64 119, .string Y]]
    (Once 9 (Eqv wB) (fun W => Keeps wB W ∧ Ints wB.heap.size L3 W)) rfl (by kernel_rfl) (by kernel_rfl) (fin := ?fin0) ?hfin0 (Once.start (Eqv.drew wB)) ?each0 ?hend0
  case hfin0 => simp [seqA, dstOf, Act.put]; rfl
  case each0 =>
    refine ⟨?_, ?_, ?_, ?_, ?_, ?_, ?_, ?_, ?_, ?_, ?_, ?_, ?_, ?_, ?_, trivial⟩
    all_goals intro L w5 h0 hd hs hw
    all_goals unfold Does
    all_goals try simp only [Nat.zero_add, Nat.reduceAdd] at h0
    rotate_left 9
    · have hE := hw.1 h0
      have hz := hE.size
      go_simp
      refine fun L' k => Once.done k ⟨((Keeps.refl wB).eqv hE).alloc _, ?_⟩
      have := HIN.out w5
      rwa [hz] at this
    · have h12 := hd 9 (by kernel_rfl)
      have hB := hw.2 h12
      go_simp
      refine (HTX.out w5 hB.2).mono ?_
      rintro e w8 ⟨rfl, k8⟩
      exact ⟨_, rfl, rfl, fun L' k => ⟨fun h => (by rw [(k 9).2 (.inl h12)] at h; cases h), fun _ => ⟨hB.1.trans k8, hB.2.keeps k8⟩⟩⟩
    all_goals have hke := once_kmix hw
    all_goals have y3 := (HX.out.keeps hke).cell 3 rfl
    all_goals have y4 := (HX.out.keeps hke).cell 4 rfl
    all_goals have y5 := (HX.out.keeps hke).cell 5 rfl
    all_goals have y6 := (HX.out.keeps hke).cell 6 rfl
    all_goals go_simp
    all_goals exact fun L' k => hw.same (by decide) k
  case hend0 =>
  intro L w5 hL hw
  have hk5 := (hw.2 (hL 9 (by omega))).1
  have HD5 := Lib.hid (HD.out.keeps hk5)
  have e0 := HD5.out.z.cell 0 rfl
  have e1 := HD5.out.z.cell 1 rfl
  have g0 := HD5.out.z.fz 0 (by show 0 < 2; decide)
  have g1 := HD5.out.z.fz 1 (by show 1 < 2; decide)
  simp only [List.drop_succ_cons, List.drop_zero]
  clear hk5 hw hL x0 x1 x2 x3 x4 x5 x6 d0 d1 f0 f1
  go_wp2
  refine cs_ret2 Tryd.results20 (lvD (HD5.out.ends (dsC ⟨119, Y⟩) rfl).z.r) rfl rfl rfl ?_
  exact ⟨(by rw [HF.out]; show _ = Ending.returned (.tuple #[dsV (slD _), .int .i64 0]); rw [HY.out]; rfl), (HD5.out.ends (dsC ⟨119, Y⟩) rfl).k⟩
set_option maxHeartbeats 1600000 in
theorem dmake_ok_512_ft (x : Slc) (w : World) (e : x.rows = 512) (es : x.sl = false) (ef : x.fec = true) (h1 : 0 ≤ x.burst ∧ x.burst ≤ 255) (h2 : 0 ≤ x.rate ∧ x.rate ≤ 15) (h3 : 0 ≤ x.id ∧ x.id ≤ 15) (h : x.more.size ≤ 252) : Calls Tryd.prog 20 #[slV x] w (DmPost w (mkS x)) := by
  obtain ⟨X, hX⟩ : ∃ X, w.heap.size = X := ⟨_, rfl⟩
  obtain ⟨wA, hA⟩ : ∃ wX, w.alloc (.cells #[.bool x.sl, .bool x.fec, .int .i64 x.rows, .int .i64 x.burst, .int .i64 x.rate, .int .i64 x.id, .string x.more] 47) = wX := ⟨_, rfl⟩
  obtain ⟨wB, hB⟩ : ∃ wX, wA.alloc (.cells #[.int .i64 0, .string ⟨#[]⟩] 44) = wX := ⟨_, rfl⟩
  have hz : wA.heap.size = X + 1 := by rw [← hA, World.size_alloc, hX]
  have kA : Keeps w wA := by rw [← hA]; exact (Keeps.refl w).alloc _
  have kB : Keeps wA wB := by rw [← hB]; exact (Keeps.refl wA).alloc _
  have HK := Lib.hid (kA.trans kB)
  have HX := Lib.hid (show CsAt X (slC x) wB from CsAt.keeps (w := wA) (by rw [← hX, ← hA]; exact CsAt.made w #[.bool x.sl, .bool x.fec, .int .i64 x.rows, .int .i64 x.burst, .int .i64 x.rate, .int .i64 x.id, .string x.more] _ (by simp)) kB)
  have HD := Lib.hid (show CsAns w (X + 1) (dsC zD) wB from ⟨by rw [← hz, ← hB]; exact CsAt.made wA #[.int .i64 0, .string ⟨#[]⟩] _ (by simp), kA.trans kB, by omega⟩)
  have x0 := HX.out.cell 0 rfl
  have x1 := HX.out.cell 1 rfl
  have x2 := HX.out.cell 2 rfl
  have x3 := HX.out.cell 3 rfl
  have x4 := HX.out.cell 4 rfl
  have x5 := HX.out.cell 5 rfl
  have x6 := HX.out.cell 6 rfl
  have d0 := HD.out.z.cell 0 rfl
  have d1 := HD.out.z.cell 1 rfl
  have f0 := HD.out.z.fz 0 (by show 0 < 2; decide)
  have f1 := HD.out.z.fz 1 (by show 1 < 2; decide)
  have HB := Lib.hid (fun W => din_any x.burst 255 W)
  have HR := Lib.hid (fun W => din_any x.rate 15 W)
  have HI := Lib.hid (fun W => din_any x.id 15 W)
  clear kA kB
  simp only [decide_eq_true h1] at HB
  simp only [decide_eq_true h2] at HR
  simp only [decide_eq_true h3] at HI
  have HF := Lib.hid (mkS_ok (x := x) ⟨⟨by unfold okR; omega, h1, h2, h3⟩, h⟩)
  have hsl : slB x = [Ds.u8 57, Ds.u8 x.burst.toNat, Ds.u8 (16 * x.rate.toNat + x.id.toNat)] ++ ls x.more := by
    have : slF x = 57 := by unfold slF; rw [e, es, ef]; rfl
    unfold slB; rw [this]; rfl
  obtain ⟨sl, fec, rows, burst, rate, id, more⟩ := x
  simp only at hA e es ef h hsl HB HR HI h1 h2 h3
  subst e es ef
  have hzi : ¬ (252 : Int) < (more.size : Int) := by omega
  obtain ⟨q1, hq1⟩ : ∃ q, 16 * rate = q := ⟨_, rfl⟩
  obtain ⟨P, hP⟩ : ∃ p, q1 + id = p := ⟨_, rfl⟩
  have wr1 := wrapI (a := q1) (by omega) (by omega)
  have wr2 := wrapI (a := P) (by omega) (by omega)
  have HL := Lib.hid (show (#[.int .i64 57, .int .i64 burst, .int .i64 P] : Array Value) = ([Ds.u8 57, Ds.u8 burst.toNat, Ds.u8 (16 * rate.toNat + id.toNat)].map I64).toArray by
    simp only [List.map_cons, List.map_nil, I64, Ds.u8_nat (show 57 < 256 by decide), Ds.u8_nat (show burst.toNat < 256 by omega), Ds.u8_nat (show 16 * rate.toNat + id.toNat < 256 by omega)]
    rw [show ((burst.toNat : Nat) : Int) = burst by omega, show ((16 * rate.toNat + id.toNat : Nat) : Int) = P by omega]; rfl)
  have HIN := Lib.hid (fun W : World => show Ints W.heap.size [Ds.u8 57, Ds.u8 burst.toNat, Ds.u8 (16 * rate.toNat + id.toNat)] (W.alloc (.cells #[.int .i64 57, .int .i64 burst, .int .i64 P] 3)) by rw [HL.out]; exact Ints.lit W _ _)
  have HTX := Lib.hid (fun (W : World) (h : Ints wB.heap.size [Ds.u8 57, Ds.u8 burst.toNat, Ds.u8 (16 * rate.toNat + id.toNat)] W) => dtext_any W wB.heap.size 3 3 _ W rfl (by show 3 ≤ 1000; decide) h (Keeps.refl W))
  obtain ⟨L3, hL3⟩ : ∃ l, [Ds.u8 57, Ds.u8 burst.toNat, Ds.u8 (16 * rate.toNat + id.toNat)] = l := ⟨_, rfl⟩
  simp only [hL3] at HIN HTX hsl
  obtain ⟨V, hV⟩ : ∃ V, st L3 = V := ⟨_, rfl⟩
  have hVz : V.size = 3 := by rw [← hV, ← hL3]; rfl
  rw [hV] at HTX
  obtain ⟨Y, hY⟩ : ∃ Y, V ++ more = Y := ⟨_, rfl⟩
  have HY := Lib.hid (show slD ⟨false, true, 512, burst, rate, id, more⟩ = ⟨119, Y⟩ by
    show (⟨119, st (slB _)⟩ : Dsc) = _
    rw [hsl, ← st_append, st_ls, hV, hY])
  have f3 : ¬ 9223372036854775807 < 3 + more.size := by omega
  clear hsl hL3 hV h
  go_enter Tryd.func20, Tryd.ntmps20
  go_wp2_with (go_at_call 42; (first | (with_reducible refine (HB.out _).mono ?_) | (with_reducible refine (HR.out _).mono ?_) | (with_reducible refine (HI.out _).mono ?_)); rintro _ w1 ⟨rfl, rfl⟩)
  refine wp_draw_tail 15 (by kernel_rfl) [.int .i64 57, .pointer (some ⟨X, 3, none⟩), .int .i64 burst, .pointer (some ⟨X, 4, none⟩), .int .i64 rate, .int .i64 q1, .pointer (some ⟨X, 5, none⟩), .int .i64 id, .int .i64 P, .slice (some ⟨wB.heap.size, 0, none⟩) 3 3, .string V, .pointer (some ⟨X, 6, none⟩), .string more, .string Y, .agg #[.int .i64 119, .string Y]]
    (Once 9 (Eqv wB) (fun W => Keeps wB W ∧ Ints wB.heap.size L3 W)) rfl (by kernel_rfl) (by kernel_rfl) (fin := ?fin0) ?hfin0 (Once.start (Eqv.drew wB)) ?each0 ?hend0
  case hfin0 => simp [seqA, dstOf, Act.put]; rfl
  case each0 =>
    refine ⟨?_, ?_, ?_, ?_, ?_, ?_, ?_, ?_, ?_, ?_, ?_, ?_, ?_, ?_, ?_, trivial⟩
    all_goals intro L w5 h0 hd hs hw
    all_goals unfold Does
    all_goals try simp only [Nat.zero_add, Nat.reduceAdd] at h0
    rotate_left 9
    · have hE := hw.1 h0
      have hz := hE.size
      go_simp
      refine fun L' k => Once.done k ⟨((Keeps.refl wB).eqv hE).alloc _, ?_⟩
      have := HIN.out w5
      rwa [hz] at this
    · have h12 := hd 9 (by kernel_rfl)
      have hB := hw.2 h12
      go_simp
      refine (HTX.out w5 hB.2).mono ?_
      rintro e w8 ⟨rfl, k8⟩
      exact ⟨_, rfl, rfl, fun L' k => ⟨fun h => (by rw [(k 9).2 (.inl h12)] at h; cases h), fun _ => ⟨hB.1.trans k8, hB.2.keeps k8⟩⟩⟩
    all_goals have hke := once_kmix hw
    all_goals have y3 := (HX.out.keeps hke).cell 3 rfl
    all_goals have y4 := (HX.out.keeps hke).cell 4 rfl
    all_goals have y5 := (HX.out.keeps hke).cell 5 rfl
    all_goals have y6 := (HX.out.keeps hke).cell 6 rfl
    all_goals go_simp
    all_goals exact fun L' k => hw.same (by decide) k
  case hend0 =>
  intro L w5 hL hw
  have hk5 := (hw.2 (hL 9 (by omega))).1
  have HD5 := Lib.hid (HD.out.keeps hk5)
  have e0 := HD5.out.z.cell 0 rfl
  have e1 := HD5.out.z.cell 1 rfl
  have g0 := HD5.out.z.fz 0 (by show 0 < 2; decide)
  have g1 := HD5.out.z.fz 1 (by show 1 < 2; decide)
  simp only [List.drop_succ_cons, List.drop_zero]
  clear hk5 hw hL x0 x1 x2 x3 x4 x5 x6 d0 d1 f0 f1
  go_wp2
  refine cs_ret2 Tryd.results20 (lvD (HD5.out.ends (dsC ⟨119, Y⟩) rfl).z.r) rfl rfl rfl ?_
  exact ⟨(by rw [HF.out]; show _ = Ending.returned (.tuple #[dsV (slD _), .int .i64 0]); rw [HY.out]; rfl), (HD5.out.ends (dsC ⟨119, Y⟩) rfl).k⟩
set_option maxHeartbeats 1600000 in
theorem dmake_ok_512_tf (x : Slc) (w : World) (e : x.rows = 512) (es : x.sl = true) (ef : x.fec = false) (h1 : 0 ≤ x.burst ∧ x.burst ≤ 255) (h2 : 0 ≤ x.rate ∧ x.rate ≤ 15) (h3 : 0 ≤ x.id ∧ x.id ≤ 15) (h : x.more.size ≤ 252) : Calls Tryd.prog 20 #[slV x] w (DmPost w (mkS x)) := by
  obtain ⟨X, hX⟩ : ∃ X, w.heap.size = X := ⟨_, rfl⟩
  obtain ⟨wA, hA⟩ : ∃ wX, w.alloc (.cells #[.bool x.sl, .bool x.fec, .int .i64 x.rows, .int .i64 x.burst, .int .i64 x.rate, .int .i64 x.id, .string x.more] 47) = wX := ⟨_, rfl⟩
  obtain ⟨wB, hB⟩ : ∃ wX, wA.alloc (.cells #[.int .i64 0, .string ⟨#[]⟩] 44) = wX := ⟨_, rfl⟩
  have hz : wA.heap.size = X + 1 := by rw [← hA, World.size_alloc, hX]
  have kA : Keeps w wA := by rw [← hA]; exact (Keeps.refl w).alloc _
  have kB : Keeps wA wB := by rw [← hB]; exact (Keeps.refl wA).alloc _
  have HK := Lib.hid (kA.trans kB)
  have HX := Lib.hid (show CsAt X (slC x) wB from CsAt.keeps (w := wA) (by rw [← hX, ← hA]; exact CsAt.made w #[.bool x.sl, .bool x.fec, .int .i64 x.rows, .int .i64 x.burst, .int .i64 x.rate, .int .i64 x.id, .string x.more] _ (by simp)) kB)
  have HD := Lib.hid (show CsAns w (X + 1) (dsC zD) wB from ⟨by rw [← hz, ← hB]; exact CsAt.made wA #[.int .i64 0, .string ⟨#[]⟩] _ (by simp), kA.trans kB, by omega⟩)
  have x0 := HX.out.cell 0 rfl
  have x1 := HX.out.cell 1 rfl
  have x2 := HX.out.cell 2 rfl
  have x3 := HX.out.cell 3 rfl
  have x4 := HX.out.cell 4 rfl
  have x5 := HX.out.cell 5 rfl
  have x6 := HX.out.cell 6 rfl
  have d0 := HD.out.z.cell 0 rfl
  have d1 := HD.out.z.cell 1 rfl
  have f0 := HD.out.z.fz 0 (by show 0 < 2; decide)
  have f1 := HD.out.z.fz 1 (by show 1 < 2; decide)
  have HB := Lib.hid (fun W => din_any x.burst 255 W)
  have HR := Lib.hid (fun W => din_any x.rate 15 W)
  have HI := Lib.hid (fun W => din_any x.id 15 W)
  clear kA kB
  simp only [decide_eq_true h1] at HB
  simp only [decide_eq_true h2] at HR
  simp only [decide_eq_true h3] at HI
  have HF := Lib.hid (mkS_ok (x := x) ⟨⟨by unfold okR; omega, h1, h2, h3⟩, h⟩)
  have hsl : slB x = [Ds.u8 153, Ds.u8 x.burst.toNat, Ds.u8 (16 * x.rate.toNat + x.id.toNat)] ++ ls x.more := by
    have : slF x = 153 := by unfold slF; rw [e, es, ef]; rfl
    unfold slB; rw [this]; rfl
  obtain ⟨sl, fec, rows, burst, rate, id, more⟩ := x
  simp only at hA e es ef h hsl HB HR HI h1 h2 h3
  subst e es ef
  have hzi : ¬ (252 : Int) < (more.size : Int) := by omega
  obtain ⟨q1, hq1⟩ : ∃ q, 16 * rate = q := ⟨_, rfl⟩
  obtain ⟨P, hP⟩ : ∃ p, q1 + id = p := ⟨_, rfl⟩
  have wr1 := wrapI (a := q1) (by omega) (by omega)
  have wr2 := wrapI (a := P) (by omega) (by omega)
  have HL := Lib.hid (show (#[.int .i64 153, .int .i64 burst, .int .i64 P] : Array Value) = ([Ds.u8 153, Ds.u8 burst.toNat, Ds.u8 (16 * rate.toNat + id.toNat)].map I64).toArray by
    simp only [List.map_cons, List.map_nil, I64, Ds.u8_nat (show 153 < 256 by decide), Ds.u8_nat (show burst.toNat < 256 by omega), Ds.u8_nat (show 16 * rate.toNat + id.toNat < 256 by omega)]
    rw [show ((burst.toNat : Nat) : Int) = burst by omega, show ((16 * rate.toNat + id.toNat : Nat) : Int) = P by omega]; rfl)
  have HIN := Lib.hid (fun W : World => show Ints W.heap.size [Ds.u8 153, Ds.u8 burst.toNat, Ds.u8 (16 * rate.toNat + id.toNat)] (W.alloc (.cells #[.int .i64 153, .int .i64 burst, .int .i64 P] 3)) by rw [HL.out]; exact Ints.lit W _ _)
  have HTX := Lib.hid (fun (W : World) (h : Ints wB.heap.size [Ds.u8 153, Ds.u8 burst.toNat, Ds.u8 (16 * rate.toNat + id.toNat)] W) => dtext_any W wB.heap.size 3 3 _ W rfl (by show 3 ≤ 1000; decide) h (Keeps.refl W))
  obtain ⟨L3, hL3⟩ : ∃ l, [Ds.u8 153, Ds.u8 burst.toNat, Ds.u8 (16 * rate.toNat + id.toNat)] = l := ⟨_, rfl⟩
  simp only [hL3] at HIN HTX hsl
  obtain ⟨V, hV⟩ : ∃ V, st L3 = V := ⟨_, rfl⟩
  have hVz : V.size = 3 := by rw [← hV, ← hL3]; rfl
  rw [hV] at HTX
  obtain ⟨Y, hY⟩ : ∃ Y, V ++ more = Y := ⟨_, rfl⟩
  have HY := Lib.hid (show slD ⟨true, false, 512, burst, rate, id, more⟩ = ⟨119, Y⟩ by
    show (⟨119, st (slB _)⟩ : Dsc) = _
    rw [hsl, ← st_append, st_ls, hV, hY])
  have f3 : ¬ 9223372036854775807 < 3 + more.size := by omega
  clear hsl hL3 hV h
  go_enter Tryd.func20, Tryd.ntmps20
  go_wp2_with (go_at_call 42; (first | (with_reducible refine (HB.out _).mono ?_) | (with_reducible refine (HR.out _).mono ?_) | (with_reducible refine (HI.out _).mono ?_)); rintro _ w1 ⟨rfl, rfl⟩)
  refine wp_draw_tail 15 (by kernel_rfl) [.int .i64 153, .pointer (some ⟨X, 3, none⟩), .int .i64 burst, .pointer (some ⟨X, 4, none⟩), .int .i64 rate, .int .i64 q1, .pointer (some ⟨X, 5, none⟩), .int .i64 id, .int .i64 P, .slice (some ⟨wB.heap.size, 0, none⟩) 3 3, .string V, .pointer (some ⟨X, 6, none⟩), .string more, .string Y, .agg #[.int .i64 119, .string Y]]
    (Once 9 (Eqv wB) (fun W => Keeps wB W ∧ Ints wB.heap.size L3 W)) rfl (by kernel_rfl) (by kernel_rfl) (fin := ?fin0) ?hfin0 (Once.start (Eqv.drew wB)) ?each0 ?hend0
  case hfin0 => simp [seqA, dstOf, Act.put]; rfl
  case each0 =>
    refine ⟨?_, ?_, ?_, ?_, ?_, ?_, ?_, ?_, ?_, ?_, ?_, ?_, ?_, ?_, ?_, trivial⟩
    all_goals intro L w5 h0 hd hs hw
    all_goals unfold Does
    all_goals try simp only [Nat.zero_add, Nat.reduceAdd] at h0
    rotate_left 9
    · have hE := hw.1 h0
      have hz := hE.size
      go_simp
      refine fun L' k => Once.done k ⟨((Keeps.refl wB).eqv hE).alloc _, ?_⟩
      have := HIN.out w5
      rwa [hz] at this
    · have h12 := hd 9 (by kernel_rfl)
      have hB := hw.2 h12
      go_simp
      refine (HTX.out w5 hB.2).mono ?_
      rintro e w8 ⟨rfl, k8⟩
      exact ⟨_, rfl, rfl, fun L' k => ⟨fun h => (by rw [(k 9).2 (.inl h12)] at h; cases h), fun _ => ⟨hB.1.trans k8, hB.2.keeps k8⟩⟩⟩
    all_goals have hke := once_kmix hw
    all_goals have y3 := (HX.out.keeps hke).cell 3 rfl
    all_goals have y4 := (HX.out.keeps hke).cell 4 rfl
    all_goals have y5 := (HX.out.keeps hke).cell 5 rfl
    all_goals have y6 := (HX.out.keeps hke).cell 6 rfl
    all_goals go_simp
    all_goals exact fun L' k => hw.same (by decide) k
  case hend0 =>
  intro L w5 hL hw
  have hk5 := (hw.2 (hL 9 (by omega))).1
  have HD5 := Lib.hid (HD.out.keeps hk5)
  have e0 := HD5.out.z.cell 0 rfl
  have e1 := HD5.out.z.cell 1 rfl
  have g0 := HD5.out.z.fz 0 (by show 0 < 2; decide)
  have g1 := HD5.out.z.fz 1 (by show 1 < 2; decide)
  simp only [List.drop_succ_cons, List.drop_zero]
  clear hk5 hw hL x0 x1 x2 x3 x4 x5 x6 d0 d1 f0 f1
  go_wp2
  refine cs_ret2 Tryd.results20 (lvD (HD5.out.ends (dsC ⟨119, Y⟩) rfl).z.r) rfl rfl rfl ?_
  exact ⟨(by rw [HF.out]; show _ = Ending.returned (.tuple #[dsV (slD _), .int .i64 0]); rw [HY.out]; rfl), (HD5.out.ends (dsC ⟨119, Y⟩) rfl).k⟩
set_option maxHeartbeats 1600000 in
theorem dmake_ok_512_tt (x : Slc) (w : World) (e : x.rows = 512) (es : x.sl = true) (ef : x.fec = true) (h1 : 0 ≤ x.burst ∧ x.burst ≤ 255) (h2 : 0 ≤ x.rate ∧ x.rate ≤ 15) (h3 : 0 ≤ x.id ∧ x.id ≤ 15) (h : x.more.size ≤ 252) : Calls Tryd.prog 20 #[slV x] w (DmPost w (mkS x)) := by
  obtain ⟨X, hX⟩ : ∃ X, w.heap.size = X := ⟨_, rfl⟩
  obtain ⟨wA, hA⟩ : ∃ wX, w.alloc (.cells #[.bool x.sl, .bool x.fec, .int .i64 x.rows, .int .i64 x.burst, .int .i64 x.rate, .int .i64 x.id, .string x.more] 47) = wX := ⟨_, rfl⟩
  obtain ⟨wB, hB⟩ : ∃ wX, wA.alloc (.cells #[.int .i64 0, .string ⟨#[]⟩] 44) = wX := ⟨_, rfl⟩
  have hz : wA.heap.size = X + 1 := by rw [← hA, World.size_alloc, hX]
  have kA : Keeps w wA := by rw [← hA]; exact (Keeps.refl w).alloc _
  have kB : Keeps wA wB := by rw [← hB]; exact (Keeps.refl wA).alloc _
  have HK := Lib.hid (kA.trans kB)
  have HX := Lib.hid (show CsAt X (slC x) wB from CsAt.keeps (w := wA) (by rw [← hX, ← hA]; exact CsAt.made w #[.bool x.sl, .bool x.fec, .int .i64 x.rows, .int .i64 x.burst, .int .i64 x.rate, .int .i64 x.id, .string x.more] _ (by simp)) kB)
  have HD := Lib.hid (show CsAns w (X + 1) (dsC zD) wB from ⟨by rw [← hz, ← hB]; exact CsAt.made wA #[.int .i64 0, .string ⟨#[]⟩] _ (by simp), kA.trans kB, by omega⟩)
  have x0 := HX.out.cell 0 rfl
  have x1 := HX.out.cell 1 rfl
  have x2 := HX.out.cell 2 rfl
  have x3 := HX.out.cell 3 rfl
  have x4 := HX.out.cell 4 rfl
  have x5 := HX.out.cell 5 rfl
  have x6 := HX.out.cell 6 rfl
  have d0 := HD.out.z.cell 0 rfl
  have d1 := HD.out.z.cell 1 rfl
  have f0 := HD.out.z.fz 0 (by show 0 < 2; decide)
  have f1 := HD.out.z.fz 1 (by show 1 < 2; decide)
  have HB := Lib.hid (fun W => din_any x.burst 255 W)
  have HR := Lib.hid (fun W => din_any x.rate 15 W)
  have HI := Lib.hid (fun W => din_any x.id 15 W)
  clear kA kB
  simp only [decide_eq_true h1] at HB
  simp only [decide_eq_true h2] at HR
  simp only [decide_eq_true h3] at HI
  have HF := Lib.hid (mkS_ok (x := x) ⟨⟨by unfold okR; omega, h1, h2, h3⟩, h⟩)
  have hsl : slB x = [Ds.u8 185, Ds.u8 x.burst.toNat, Ds.u8 (16 * x.rate.toNat + x.id.toNat)] ++ ls x.more := by
    have : slF x = 185 := by unfold slF; rw [e, es, ef]; rfl
    unfold slB; rw [this]; rfl
  obtain ⟨sl, fec, rows, burst, rate, id, more⟩ := x
  simp only at hA e es ef h hsl HB HR HI h1 h2 h3
  subst e es ef
  have hzi : ¬ (252 : Int) < (more.size : Int) := by omega
  obtain ⟨q1, hq1⟩ : ∃ q, 16 * rate = q := ⟨_, rfl⟩
  obtain ⟨P, hP⟩ : ∃ p, q1 + id = p := ⟨_, rfl⟩
  have wr1 := wrapI (a := q1) (by omega) (by omega)
  have wr2 := wrapI (a := P) (by omega) (by omega)
  have HL := Lib.hid (show (#[.int .i64 185, .int .i64 burst, .int .i64 P] : Array Value) = ([Ds.u8 185, Ds.u8 burst.toNat, Ds.u8 (16 * rate.toNat + id.toNat)].map I64).toArray by
    simp only [List.map_cons, List.map_nil, I64, Ds.u8_nat (show 185 < 256 by decide), Ds.u8_nat (show burst.toNat < 256 by omega), Ds.u8_nat (show 16 * rate.toNat + id.toNat < 256 by omega)]
    rw [show ((burst.toNat : Nat) : Int) = burst by omega, show ((16 * rate.toNat + id.toNat : Nat) : Int) = P by omega]; rfl)
  have HIN := Lib.hid (fun W : World => show Ints W.heap.size [Ds.u8 185, Ds.u8 burst.toNat, Ds.u8 (16 * rate.toNat + id.toNat)] (W.alloc (.cells #[.int .i64 185, .int .i64 burst, .int .i64 P] 3)) by rw [HL.out]; exact Ints.lit W _ _)
  have HTX := Lib.hid (fun (W : World) (h : Ints wB.heap.size [Ds.u8 185, Ds.u8 burst.toNat, Ds.u8 (16 * rate.toNat + id.toNat)] W) => dtext_any W wB.heap.size 3 3 _ W rfl (by show 3 ≤ 1000; decide) h (Keeps.refl W))
  obtain ⟨L3, hL3⟩ : ∃ l, [Ds.u8 185, Ds.u8 burst.toNat, Ds.u8 (16 * rate.toNat + id.toNat)] = l := ⟨_, rfl⟩
  simp only [hL3] at HIN HTX hsl
  obtain ⟨V, hV⟩ : ∃ V, st L3 = V := ⟨_, rfl⟩
  have hVz : V.size = 3 := by rw [← hV, ← hL3]; rfl
  rw [hV] at HTX
  obtain ⟨Y, hY⟩ : ∃ Y, V ++ more = Y := ⟨_, rfl⟩
  have HY := Lib.hid (show slD ⟨true, true, 512, burst, rate, id, more⟩ = ⟨119, Y⟩ by
    show (⟨119, st (slB _)⟩ : Dsc) = _
    rw [hsl, ← st_append, st_ls, hV, hY])
  have f3 : ¬ 9223372036854775807 < 3 + more.size := by omega
  clear hsl hL3 hV h
  go_enter Tryd.func20, Tryd.ntmps20
  go_wp2_with (go_at_call 42; (first | (with_reducible refine (HB.out _).mono ?_) | (with_reducible refine (HR.out _).mono ?_) | (with_reducible refine (HI.out _).mono ?_)); rintro _ w1 ⟨rfl, rfl⟩)
  refine wp_draw_tail 15 (by kernel_rfl) [.int .i64 185, .pointer (some ⟨X, 3, none⟩), .int .i64 burst, .pointer (some ⟨X, 4, none⟩), .int .i64 rate, .int .i64 q1, .pointer (some ⟨X, 5, none⟩), .int .i64 id, .int .i64 P, .slice (some ⟨wB.heap.size, 0, none⟩) 3 3, .string V, .pointer (some ⟨X, 6, none⟩), .string more, .string Y, .agg #[.int .i64 119, .string Y]]
    (Once 9 (Eqv wB) (fun W => Keeps wB W ∧ Ints wB.heap.size L3 W)) rfl (by kernel_rfl) (by kernel_rfl) (fin := ?fin0) ?hfin0 (Once.start (Eqv.drew wB)) ?each0 ?hend0
  case hfin0 => simp [seqA, dstOf, Act.put]; rfl
  case each0 =>
    refine ⟨?_, ?_, ?_, ?_, ?_, ?_, ?_, ?_, ?_, ?_, ?_, ?_, ?_, ?_, ?_, trivial⟩
    all_goals intro L w5 h0 hd hs hw
    all_goals unfold Does
    all_goals try simp only [Nat.zero_add, Nat.reduceAdd] at h0
    rotate_left 9
    · have hE := hw.1 h0
      have hz := hE.size
      go_simp
      refine fun L' k => Once.done k ⟨((Keeps.refl wB).eqv hE).alloc _, ?_⟩
      have := HIN.out w5
      rwa [hz] at this
    · have h12 := hd 9 (by kernel_rfl)
      have hB := hw.2 h12
      go_simp
      refine (HTX.out w5 hB.2).mono ?_
      rintro e w8 ⟨rfl, k8⟩
      exact ⟨_, rfl, rfl, fun L' k => ⟨fun h => (by rw [(k 9).2 (.inl h12)] at h; cases h), fun _ => ⟨hB.1.trans k8, hB.2.keeps k8⟩⟩⟩
    all_goals have hke := once_kmix hw
    all_goals have y3 := (HX.out.keeps hke).cell 3 rfl
    all_goals have y4 := (HX.out.keeps hke).cell 4 rfl
    all_goals have y5 := (HX.out.keeps hke).cell 5 rfl
    all_goals have y6 := (HX.out.keeps hke).cell 6 rfl
    all_goals go_simp
    all_goals exact fun L' k => hw.same (by decide) k
  case hend0 =>
  intro L w5 hL hw
  have hk5 := (hw.2 (hL 9 (by omega))).1
  have HD5 := Lib.hid (HD.out.keeps hk5)
  have e0 := HD5.out.z.cell 0 rfl
  have e1 := HD5.out.z.cell 1 rfl
  have g0 := HD5.out.z.fz 0 (by show 0 < 2; decide)
  have g1 := HD5.out.z.fz 1 (by show 1 < 2; decide)
  simp only [List.drop_succ_cons, List.drop_zero]
  clear hk5 hw hL x0 x1 x2 x3 x4 x5 x6 d0 d1 f0 f1
  go_wp2
  refine cs_ret2 Tryd.results20 (lvD (HD5.out.ends (dsC ⟨119, Y⟩) rfl).z.r) rfl rfl rfl ?_
  exact ⟨(by rw [HF.out]; show _ = Ending.returned (.tuple #[dsV (slD _), .int .i64 0]); rw [HY.out]; rfl), (HD5.out.ends (dsC ⟨119, Y⟩) rfl).k⟩
set_option maxHeartbeats 1600000 in
theorem dmake_ok_768_ff (x : Slc) (w : World) (e : x.rows = 768) (es : x.sl = false) (ef : x.fec = false) (h1 : 0 ≤ x.burst ∧ x.burst ≤ 255) (h2 : 0 ≤ x.rate ∧ x.rate ≤ 15) (h3 : 0 ≤ x.id ∧ x.id ≤ 15) (h : x.more.size ≤ 252) : Calls Tryd.prog 20 #[slV x] w (DmPost w (mkS x)) := by
  obtain ⟨X, hX⟩ : ∃ X, w.heap.size = X := ⟨_, rfl⟩
  obtain ⟨wA, hA⟩ : ∃ wX, w.alloc (.cells #[.bool x.sl, .bool x.fec, .int .i64 x.rows, .int .i64 x.burst, .int .i64 x.rate, .int .i64 x.id, .string x.more] 47) = wX := ⟨_, rfl⟩
  obtain ⟨wB, hB⟩ : ∃ wX, wA.alloc (.cells #[.int .i64 0, .string ⟨#[]⟩] 44) = wX := ⟨_, rfl⟩
  have hz : wA.heap.size = X + 1 := by rw [← hA, World.size_alloc, hX]
  have kA : Keeps w wA := by rw [← hA]; exact (Keeps.refl w).alloc _
  have kB : Keeps wA wB := by rw [← hB]; exact (Keeps.refl wA).alloc _
  have HK := Lib.hid (kA.trans kB)
  have HX := Lib.hid (show CsAt X (slC x) wB from CsAt.keeps (w := wA) (by rw [← hX, ← hA]; exact CsAt.made w #[.bool x.sl, .bool x.fec, .int .i64 x.rows, .int .i64 x.burst, .int .i64 x.rate, .int .i64 x.id, .string x.more] _ (by simp)) kB)
  have HD := Lib.hid (show CsAns w (X + 1) (dsC zD) wB from ⟨by rw [← hz, ← hB]; exact CsAt.made wA #[.int .i64 0, .string ⟨#[]⟩] _ (by simp), kA.trans kB, by omega⟩)
  have x0 := HX.out.cell 0 rfl
  have x1 := HX.out.cell 1 rfl
  have x2 := HX.out.cell 2 rfl
  have x3 := HX.out.cell 3 rfl
  have x4 := HX.out.cell 4 rfl
  have x5 := HX.out.cell 5 rfl
  have x6 := HX.out.cell 6 rfl
  have d0 := HD.out.z.cell 0 rfl
  have d1 := HD.out.z.cell 1 rfl
  have f0 := HD.out.z.fz 0 (by show 0 < 2; decide)
  have f1 := HD.out.z.fz 1 (by show 1 < 2; decide)
  have HB := Lib.hid (fun W => din_any x.burst 255 W)
  have HR := Lib.hid (fun W => din_any x.rate 15 W)
  have HI := Lib.hid (fun W => din_any x.id 15 W)
  clear kA kB
  simp only [decide_eq_true h1] at HB
  simp only [decide_eq_true h2] at HR
  simp only [decide_eq_true h3] at HI
  have HF := Lib.hid (mkS_ok (x := x) ⟨⟨by unfold okR; omega, h1, h2, h3⟩, h⟩)
  have hsl : slB x = [Ds.u8 26, Ds.u8 x.burst.toNat, Ds.u8 (16 * x.rate.toNat + x.id.toNat)] ++ ls x.more := by
    have : slF x = 26 := by unfold slF; rw [e, es, ef]; rfl
    unfold slB; rw [this]; rfl
  obtain ⟨sl, fec, rows, burst, rate, id, more⟩ := x
  simp only at hA e es ef h hsl HB HR HI h1 h2 h3
  subst e es ef
  have hzi : ¬ (252 : Int) < (more.size : Int) := by omega
  obtain ⟨q1, hq1⟩ : ∃ q, 16 * rate = q := ⟨_, rfl⟩
  obtain ⟨P, hP⟩ : ∃ p, q1 + id = p := ⟨_, rfl⟩
  have wr1 := wrapI (a := q1) (by omega) (by omega)
  have wr2 := wrapI (a := P) (by omega) (by omega)
  have HL := Lib.hid (show (#[.int .i64 26, .int .i64 burst, .int .i64 P] : Array Value) = ([Ds.u8 26, Ds.u8 burst.toNat, Ds.u8 (16 * rate.toNat + id.toNat)].map I64).toArray by
    simp only [List.map_cons, List.map_nil, I64, Ds.u8_nat (show 26 < 256 by decide), Ds.u8_nat (show burst.toNat < 256 by omega), Ds.u8_nat (show 16 * rate.toNat + id.toNat < 256 by omega)]
    rw [show ((burst.toNat : Nat) : Int) = burst by omega, show ((16 * rate.toNat + id.toNat : Nat) : Int) = P by omega]; rfl)
  have HIN := Lib.hid (fun W : World => show Ints W.heap.size [Ds.u8 26, Ds.u8 burst.toNat, Ds.u8 (16 * rate.toNat + id.toNat)] (W.alloc (.cells #[.int .i64 26, .int .i64 burst, .int .i64 P] 3)) by rw [HL.out]; exact Ints.lit W _ _)
  have HTX := Lib.hid (fun (W : World) (h : Ints wB.heap.size [Ds.u8 26, Ds.u8 burst.toNat, Ds.u8 (16 * rate.toNat + id.toNat)] W) => dtext_any W wB.heap.size 3 3 _ W rfl (by show 3 ≤ 1000; decide) h (Keeps.refl W))
  obtain ⟨L3, hL3⟩ : ∃ l, [Ds.u8 26, Ds.u8 burst.toNat, Ds.u8 (16 * rate.toNat + id.toNat)] = l := ⟨_, rfl⟩
  simp only [hL3] at HIN HTX hsl
  obtain ⟨V, hV⟩ : ∃ V, st L3 = V := ⟨_, rfl⟩
  have hVz : V.size = 3 := by rw [← hV, ← hL3]; rfl
  rw [hV] at HTX
  obtain ⟨Y, hY⟩ : ∃ Y, V ++ more = Y := ⟨_, rfl⟩
  have HY := Lib.hid (show slD ⟨false, false, 768, burst, rate, id, more⟩ = ⟨119, Y⟩ by
    show (⟨119, st (slB _)⟩ : Dsc) = _
    rw [hsl, ← st_append, st_ls, hV, hY])
  have f3 : ¬ 9223372036854775807 < 3 + more.size := by omega
  clear hsl hL3 hV h
  go_enter Tryd.func20, Tryd.ntmps20
  go_wp2_with (go_at_call 42; (first | (with_reducible refine (HB.out _).mono ?_) | (with_reducible refine (HR.out _).mono ?_) | (with_reducible refine (HI.out _).mono ?_)); rintro _ w1 ⟨rfl, rfl⟩)
  refine wp_draw_tail 15 (by kernel_rfl) [.int .i64 26, .pointer (some ⟨X, 3, none⟩), .int .i64 burst, .pointer (some ⟨X, 4, none⟩), .int .i64 rate, .int .i64 q1, .pointer (some ⟨X, 5, none⟩), .int .i64 id, .int .i64 P, .slice (some ⟨wB.heap.size, 0, none⟩) 3 3, .string V, .pointer (some ⟨X, 6, none⟩), .string more, .string Y, .agg #[.int .i64 119, .string Y]]
    (Once 9 (Eqv wB) (fun W => Keeps wB W ∧ Ints wB.heap.size L3 W)) rfl (by kernel_rfl) (by kernel_rfl) (fin := ?fin0) ?hfin0 (Once.start (Eqv.drew wB)) ?each0 ?hend0
  case hfin0 => simp [seqA, dstOf, Act.put]; rfl
  case each0 =>
    refine ⟨?_, ?_, ?_, ?_, ?_, ?_, ?_, ?_, ?_, ?_, ?_, ?_, ?_, ?_, ?_, trivial⟩
    all_goals intro L w5 h0 hd hs hw
    all_goals unfold Does
    all_goals try simp only [Nat.zero_add, Nat.reduceAdd] at h0
    rotate_left 9
    · have hE := hw.1 h0
      have hz := hE.size
      go_simp
      refine fun L' k => Once.done k ⟨((Keeps.refl wB).eqv hE).alloc _, ?_⟩
      have := HIN.out w5
      rwa [hz] at this
    · have h12 := hd 9 (by kernel_rfl)
      have hB := hw.2 h12
      go_simp
      refine (HTX.out w5 hB.2).mono ?_
      rintro e w8 ⟨rfl, k8⟩
      exact ⟨_, rfl, rfl, fun L' k => ⟨fun h => (by rw [(k 9).2 (.inl h12)] at h; cases h), fun _ => ⟨hB.1.trans k8, hB.2.keeps k8⟩⟩⟩
    all_goals have hke := once_kmix hw
    all_goals have y3 := (HX.out.keeps hke).cell 3 rfl
    all_goals have y4 := (HX.out.keeps hke).cell 4 rfl
    all_goals have y5 := (HX.out.keeps hke).cell 5 rfl
    all_goals have y6 := (HX.out.keeps hke).cell 6 rfl
    all_goals go_simp
    all_goals exact fun L' k => hw.same (by decide) k
  case hend0 =>
  intro L w5 hL hw
  have hk5 := (hw.2 (hL 9 (by omega))).1
  have HD5 := Lib.hid (HD.out.keeps hk5)
  have e0 := HD5.out.z.cell 0 rfl
  have e1 := HD5.out.z.cell 1 rfl
  have g0 := HD5.out.z.fz 0 (by show 0 < 2; decide)
  have g1 := HD5.out.z.fz 1 (by show 1 < 2; decide)
  simp only [List.drop_succ_cons, List.drop_zero]
  clear hk5 hw hL x0 x1 x2 x3 x4 x5 x6 d0 d1 f0 f1
  go_wp2
  refine cs_ret2 Tryd.results20 (lvD (HD5.out.ends (dsC ⟨119, Y⟩) rfl).z.r) rfl rfl rfl ?_
  exact ⟨(by rw [HF.out]; show _ = Ending.returned (.tuple #[dsV (slD _), .int .i64 0]); rw [HY.out]; rfl), (HD5.out.ends (dsC ⟨119, Y⟩) rfl).k⟩
set_option maxHeartbeats 1600000 in
theorem dmake_ok_768_ft (x : Slc) (w : World) (e : x.rows = 768) (es : x.sl = false) (ef : x.fec = true) (h1 : 0 ≤ x.burst ∧ x.burst ≤ 255) (h2 : 0 ≤ x.rate ∧ x.rate ≤ 15) (h3 : 0 ≤ x.id ∧ x.id ≤ 15) (h : x.more.size ≤ 252) : Calls Tryd.prog 20 #[slV x] w (DmPost w (mkS x)) := by
  obtain ⟨X, hX⟩ : ∃ X, w.heap.size = X := ⟨_, rfl⟩
  obtain ⟨wA, hA⟩ : ∃ wX, w.alloc (.cells #[.bool x.sl, .bool x.fec, .int .i64 x.rows, .int .i64 x.burst, .int .i64 x.rate, .int .i64 x.id, .string x.more] 47) = wX := ⟨_, rfl⟩
  obtain ⟨wB, hB⟩ : ∃ wX, wA.alloc (.cells #[.int .i64 0, .string ⟨#[]⟩] 44) = wX := ⟨_, rfl⟩
  have hz : wA.heap.size = X + 1 := by rw [← hA, World.size_alloc, hX]
  have kA : Keeps w wA := by rw [← hA]; exact (Keeps.refl w).alloc _
  have kB : Keeps wA wB := by rw [← hB]; exact (Keeps.refl wA).alloc _
  have HK := Lib.hid (kA.trans kB)
  have HX := Lib.hid (show CsAt X (slC x) wB from CsAt.keeps (w := wA) (by rw [← hX, ← hA]; exact CsAt.made w #[.bool x.sl, .bool x.fec, .int .i64 x.rows, .int .i64 x.burst, .int .i64 x.rate, .int .i64 x.id, .string x.more] _ (by simp)) kB)
  have HD := Lib.hid (show CsAns w (X + 1) (dsC zD) wB from ⟨by rw [← hz, ← hB]; exact CsAt.made wA #[.int .i64 0, .string ⟨#[]⟩] _ (by simp), kA.trans kB, by omega⟩)
  have x0 := HX.out.cell 0 rfl
  have x1 := HX.out.cell 1 rfl
  have x2 := HX.out.cell 2 rfl
  have x3 := HX.out.cell 3 rfl
  have x4 := HX.out.cell 4 rfl
  have x5 := HX.out.cell 5 rfl
  have x6 := HX.out.cell 6 rfl
  have d0 := HD.out.z.cell 0 rfl
  have d1 := HD.out.z.cell 1 rfl
  have f0 := HD.out.z.fz 0 (by show 0 < 2; decide)
  have f1 := HD.out.z.fz 1 (by show 1 < 2; decide)
  have HB := Lib.hid (fun W => din_any x.burst 255 W)
  have HR := Lib.hid (fun W => din_any x.rate 15 W)
  have HI := Lib.hid (fun W => din_any x.id 15 W)
  clear kA kB
  simp only [decide_eq_true h1] at HB
  simp only [decide_eq_true h2] at HR
  simp only [decide_eq_true h3] at HI
  have HF := Lib.hid (mkS_ok (x := x) ⟨⟨by unfold okR; omega, h1, h2, h3⟩, h⟩)
  have hsl : slB x = [Ds.u8 58, Ds.u8 x.burst.toNat, Ds.u8 (16 * x.rate.toNat + x.id.toNat)] ++ ls x.more := by
    have : slF x = 58 := by unfold slF; rw [e, es, ef]; rfl
    unfold slB; rw [this]; rfl
  obtain ⟨sl, fec, rows, burst, rate, id, more⟩ := x
  simp only at hA e es ef h hsl HB HR HI h1 h2 h3
  subst e es ef
  have hzi : ¬ (252 : Int) < (more.size : Int) := by omega
  obtain ⟨q1, hq1⟩ : ∃ q, 16 * rate = q := ⟨_, rfl⟩
  obtain ⟨P, hP⟩ : ∃ p, q1 + id = p := ⟨_, rfl⟩
  have wr1 := wrapI (a := q1) (by omega) (by omega)
  have wr2 := wrapI (a := P) (by omega) (by omega)
  have HL := Lib.hid (show (#[.int .i64 58, .int .i64 burst, .int .i64 P] : Array Value) = ([Ds.u8 58, Ds.u8 burst.toNat, Ds.u8 (16 * rate.toNat + id.toNat)].map I64).toArray by
    simp only [List.map_cons, List.map_nil, I64, Ds.u8_nat (show 58 < 256 by decide), Ds.u8_nat (show burst.toNat < 256 by omega), Ds.u8_nat (show 16 * rate.toNat + id.toNat < 256 by omega)]
    rw [show ((burst.toNat : Nat) : Int) = burst by omega, show ((16 * rate.toNat + id.toNat : Nat) : Int) = P by omega]; rfl)
  have HIN := Lib.hid (fun W : World => show Ints W.heap.size [Ds.u8 58, Ds.u8 burst.toNat, Ds.u8 (16 * rate.toNat + id.toNat)] (W.alloc (.cells #[.int .i64 58, .int .i64 burst, .int .i64 P] 3)) by rw [HL.out]; exact Ints.lit W _ _)
  have HTX := Lib.hid (fun (W : World) (h : Ints wB.heap.size [Ds.u8 58, Ds.u8 burst.toNat, Ds.u8 (16 * rate.toNat + id.toNat)] W) => dtext_any W wB.heap.size 3 3 _ W rfl (by show 3 ≤ 1000; decide) h (Keeps.refl W))
  obtain ⟨L3, hL3⟩ : ∃ l, [Ds.u8 58, Ds.u8 burst.toNat, Ds.u8 (16 * rate.toNat + id.toNat)] = l := ⟨_, rfl⟩
  simp only [hL3] at HIN HTX hsl
  obtain ⟨V, hV⟩ : ∃ V, st L3 = V := ⟨_, rfl⟩
  have hVz : V.size = 3 := by rw [← hV, ← hL3]; rfl
  rw [hV] at HTX
  obtain ⟨Y, hY⟩ : ∃ Y, V ++ more = Y := ⟨_, rfl⟩
  have HY := Lib.hid (show slD ⟨false, true, 768, burst, rate, id, more⟩ = ⟨119, Y⟩ by
    show (⟨119, st (slB _)⟩ : Dsc) = _
    rw [hsl, ← st_append, st_ls, hV, hY])
  have f3 : ¬ 9223372036854775807 < 3 + more.size := by omega
  clear hsl hL3 hV h
  go_enter Tryd.func20, Tryd.ntmps20
  go_wp2_with (go_at_call 42; (first | (with_reducible refine (HB.out _).mono ?_) | (with_reducible refine (HR.out _).mono ?_) | (with_reducible refine (HI.out _).mono ?_)); rintro _ w1 ⟨rfl, rfl⟩)
  refine wp_draw_tail 15 (by kernel_rfl) [.int .i64 58, .pointer (some ⟨X, 3, none⟩), .int .i64 burst, .pointer (some ⟨X, 4, none⟩), .int .i64 rate, .int .i64 q1, .pointer (some ⟨X, 5, none⟩), .int .i64 id, .int .i64 P, .slice (some ⟨wB.heap.size, 0, none⟩) 3 3, .string V, .pointer (some ⟨X, 6, none⟩), .string more, .string Y, .agg #[.int .i64 119, .string Y]]
    (Once 9 (Eqv wB) (fun W => Keeps wB W ∧ Ints wB.heap.size L3 W)) rfl (by kernel_rfl) (by kernel_rfl) (fin := ?fin0) ?hfin0 (Once.start (Eqv.drew wB)) ?each0 ?hend0
  case hfin0 => simp [seqA, dstOf, Act.put]; rfl
  case each0 =>
    refine ⟨?_, ?_, ?_, ?_, ?_, ?_, ?_, ?_, ?_, ?_, ?_, ?_, ?_, ?_, ?_, trivial⟩
    all_goals intro L w5 h0 hd hs hw
    all_goals unfold Does
    all_goals try simp only [Nat.zero_add, Nat.reduceAdd] at h0
    rotate_left 9
    · have hE := hw.1 h0
      have hz := hE.size
      go_simp
      refine fun L' k => Once.done k ⟨((Keeps.refl wB).eqv hE).alloc _, ?_⟩
      have := HIN.out w5
      rwa [hz] at this
    · have h12 := hd 9 (by kernel_rfl)
      have hB := hw.2 h12
      go_simp
      refine (HTX.out w5 hB.2).mono ?_
      rintro e w8 ⟨rfl, k8⟩
      exact ⟨_, rfl, rfl, fun L' k => ⟨fun h => (by rw [(k 9).2 (.inl h12)] at h; cases h), fun _ => ⟨hB.1.trans k8, hB.2.keeps k8⟩⟩⟩
    all_goals have hke := once_kmix hw
    all_goals have y3 := (HX.out.keeps hke).cell 3 rfl
    all_goals have y4 := (HX.out.keeps hke).cell 4 rfl
    all_goals have y5 := (HX.out.keeps hke).cell 5 rfl
    all_goals have y6 := (HX.out.keeps hke).cell 6 rfl
    all_goals go_simp
    all_goals exact fun L' k => hw.same (by decide) k
  case hend0 =>
  intro L w5 hL hw
  have hk5 := (hw.2 (hL 9 (by omega))).1
  have HD5 := Lib.hid (HD.out.keeps hk5)
  have e0 := HD5.out.z.cell 0 rfl
  have e1 := HD5.out.z.cell 1 rfl
  have g0 := HD5.out.z.fz 0 (by show 0 < 2; decide)
  have g1 := HD5.out.z.fz 1 (by show 1 < 2; decide)
  simp only [List.drop_succ_cons, List.drop_zero]
  clear hk5 hw hL x0 x1 x2 x3 x4 x5 x6 d0 d1 f0 f1
  go_wp2
  refine cs_ret2 Tryd.results20 (lvD (HD5.out.ends (dsC ⟨119, Y⟩) rfl).z.r) rfl rfl rfl ?_
  exact ⟨(by rw [HF.out]; show _ = Ending.returned (.tuple #[dsV (slD _), .int .i64 0]); rw [HY.out]; rfl), (HD5.out.ends (dsC ⟨119, Y⟩) rfl).k⟩
set_option maxHeartbeats 1600000 in
theorem dmake_ok_768_tf (x : Slc) (w : World) (e : x.rows = 768) (es : x.sl = true) (ef : x.fec = false) (h1 : 0 ≤ x.burst ∧ x.burst ≤ 255) (h2 : 0 ≤ x.rate ∧ x.rate ≤ 15) (h3 : 0 ≤ x.id ∧ x.id ≤ 15) (h : x.more.size ≤ 252) : Calls Tryd.prog 20 #[slV x] w (DmPost w (mkS x)) := by
  obtain ⟨X, hX⟩ : ∃ X, w.heap.size = X := ⟨_, rfl⟩
  obtain ⟨wA, hA⟩ : ∃ wX, w.alloc (.cells #[.bool x.sl, .bool x.fec, .int .i64 x.rows, .int .i64 x.burst, .int .i64 x.rate, .int .i64 x.id, .string x.more] 47) = wX := ⟨_, rfl⟩
  obtain ⟨wB, hB⟩ : ∃ wX, wA.alloc (.cells #[.int .i64 0, .string ⟨#[]⟩] 44) = wX := ⟨_, rfl⟩
  have hz : wA.heap.size = X + 1 := by rw [← hA, World.size_alloc, hX]
  have kA : Keeps w wA := by rw [← hA]; exact (Keeps.refl w).alloc _
  have kB : Keeps wA wB := by rw [← hB]; exact (Keeps.refl wA).alloc _
  have HK := Lib.hid (kA.trans kB)
  have HX := Lib.hid (show CsAt X (slC x) wB from CsAt.keeps (w := wA) (by rw [← hX, ← hA]; exact CsAt.made w #[.bool x.sl, .bool x.fec, .int .i64 x.rows, .int .i64 x.burst, .int .i64 x.rate, .int .i64 x.id, .string x.more] _ (by simp)) kB)
  have HD := Lib.hid (show CsAns w (X + 1) (dsC zD) wB from ⟨by rw [← hz, ← hB]; exact CsAt.made wA #[.int .i64 0, .string ⟨#[]⟩] _ (by simp), kA.trans kB, by omega⟩)
  have x0 := HX.out.cell 0 rfl
  have x1 := HX.out.cell 1 rfl
  have x2 := HX.out.cell 2 rfl
  have x3 := HX.out.cell 3 rfl
  have x4 := HX.out.cell 4 rfl
  have x5 := HX.out.cell 5 rfl
  have x6 := HX.out.cell 6 rfl
  have d0 := HD.out.z.cell 0 rfl
  have d1 := HD.out.z.cell 1 rfl
  have f0 := HD.out.z.fz 0 (by show 0 < 2; decide)
  have f1 := HD.out.z.fz 1 (by show 1 < 2; decide)
  have HB := Lib.hid (fun W => din_any x.burst 255 W)
  have HR := Lib.hid (fun W => din_any x.rate 15 W)
  have HI := Lib.hid (fun W => din_any x.id 15 W)
  clear kA kB
  simp only [decide_eq_true h1] at HB
  simp only [decide_eq_true h2] at HR
  simp only [decide_eq_true h3] at HI
  have HF := Lib.hid (mkS_ok (x := x) ⟨⟨by unfold okR; omega, h1, h2, h3⟩, h⟩)
  have hsl : slB x = [Ds.u8 154, Ds.u8 x.burst.toNat, Ds.u8 (16 * x.rate.toNat + x.id.toNat)] ++ ls x.more := by
    have : slF x = 154 := by unfold slF; rw [e, es, ef]; rfl
    unfold slB; rw [this]; rfl
  obtain ⟨sl, fec, rows, burst, rate, id, more⟩ := x
  simp only at hA e es ef h hsl HB HR HI h1 h2 h3
  subst e es ef
  have hzi : ¬ (252 : Int) < (more.size : Int) := by omega
  obtain ⟨q1, hq1⟩ : ∃ q, 16 * rate = q := ⟨_, rfl⟩
  obtain ⟨P, hP⟩ : ∃ p, q1 + id = p := ⟨_, rfl⟩
  have wr1 := wrapI (a := q1) (by omega) (by omega)
  have wr2 := wrapI (a := P) (by omega) (by omega)
  have HL := Lib.hid (show (#[.int .i64 154, .int .i64 burst, .int .i64 P] : Array Value) = ([Ds.u8 154, Ds.u8 burst.toNat, Ds.u8 (16 * rate.toNat + id.toNat)].map I64).toArray by
    simp only [List.map_cons, List.map_nil, I64, Ds.u8_nat (show 154 < 256 by decide), Ds.u8_nat (show burst.toNat < 256 by omega), Ds.u8_nat (show 16 * rate.toNat + id.toNat < 256 by omega)]
    rw [show ((burst.toNat : Nat) : Int) = burst by omega, show ((16 * rate.toNat + id.toNat : Nat) : Int) = P by omega]; rfl)
  have HIN := Lib.hid (fun W : World => show Ints W.heap.size [Ds.u8 154, Ds.u8 burst.toNat, Ds.u8 (16 * rate.toNat + id.toNat)] (W.alloc (.cells #[.int .i64 154, .int .i64 burst, .int .i64 P] 3)) by rw [HL.out]; exact Ints.lit W _ _)
  have HTX := Lib.hid (fun (W : World) (h : Ints wB.heap.size [Ds.u8 154, Ds.u8 burst.toNat, Ds.u8 (16 * rate.toNat + id.toNat)] W) => dtext_any W wB.heap.size 3 3 _ W rfl (by show 3 ≤ 1000; decide) h (Keeps.refl W))
  obtain ⟨L3, hL3⟩ : ∃ l, [Ds.u8 154, Ds.u8 burst.toNat, Ds.u8 (16 * rate.toNat + id.toNat)] = l := ⟨_, rfl⟩
  simp only [hL3] at HIN HTX hsl
  obtain ⟨V, hV⟩ : ∃ V, st L3 = V := ⟨_, rfl⟩
  have hVz : V.size = 3 := by rw [← hV, ← hL3]; rfl
  rw [hV] at HTX
  obtain ⟨Y, hY⟩ : ∃ Y, V ++ more = Y := ⟨_, rfl⟩
  have HY := Lib.hid (show slD ⟨true, false, 768, burst, rate, id, more⟩ = ⟨119, Y⟩ by
    show (⟨119, st (slB _)⟩ : Dsc) = _
    rw [hsl, ← st_append, st_ls, hV, hY])
  have f3 : ¬ 9223372036854775807 < 3 + more.size := by omega
  clear hsl hL3 hV h
  go_enter Tryd.func20, Tryd.ntmps20
  go_wp2_with (go_at_call 42; (first | (with_reducible refine (HB.out _).mono ?_) | (with_reducible refine (HR.out _).mono ?_) | (with_reducible refine (HI.out _).mono ?_)); rintro _ w1 ⟨rfl, rfl⟩)
  refine wp_draw_tail 15 (by kernel_rfl) [.int .i64 154, .pointer (some ⟨X, 3, none⟩), .int .i64 burst, .pointer (some ⟨X, 4, none⟩), .int .i64 rate, .int .i64 q1, .pointer (some ⟨X, 5, none⟩), .int .i64 id, .int .i64 P, .slice (some ⟨wB.heap.size, 0, none⟩) 3 3, .string V, .pointer (some ⟨X, 6, none⟩), .string more, .string Y, .agg #[.int .i64 119, .string Y]]
    (Once 9 (Eqv wB) (fun W => Keeps wB W ∧ Ints wB.heap.size L3 W)) rfl (by kernel_rfl) (by kernel_rfl) (fin := ?fin0) ?hfin0 (Once.start (Eqv.drew wB)) ?each0 ?hend0
  case hfin0 => simp [seqA, dstOf, Act.put]; rfl
  case each0 =>
    refine ⟨?_, ?_, ?_, ?_, ?_, ?_, ?_, ?_, ?_, ?_, ?_, ?_, ?_, ?_, ?_, trivial⟩
    all_goals intro L w5 h0 hd hs hw
    all_goals unfold Does
    all_goals try simp only [Nat.zero_add, Nat.reduceAdd] at h0
    rotate_left 9
    · have hE := hw.1 h0
      have hz := hE.size
      go_simp
      refine fun L' k => Once.done k ⟨((Keeps.refl wB).eqv hE).alloc _, ?_⟩
      have := HIN.out w5
      rwa [hz] at this
    · have h12 := hd 9 (by kernel_rfl)
      have hB := hw.2 h12
      go_simp
      refine (HTX.out w5 hB.2).mono ?_
      rintro e w8 ⟨rfl, k8⟩
      exact ⟨_, rfl, rfl, fun L' k => ⟨fun h => (by rw [(k 9).2 (.inl h12)] at h; cases h), fun _ => ⟨hB.1.trans k8, hB.2.keeps k8⟩⟩⟩
    all_goals have hke := once_kmix hw
    all_goals have y3 := (HX.out.keeps hke).cell 3 rfl
    all_goals have y4 := (HX.out.keeps hke).cell 4 rfl
    all_goals have y5 := (HX.out.keeps hke).cell 5 rfl
    all_goals have y6 := (HX.out.keeps hke).cell 6 rfl
    all_goals go_simp
    all_goals exact fun L' k => hw.same (by decide) k
  case hend0 =>
  intro L w5 hL hw
  have hk5 := (hw.2 (hL 9 (by omega))).1
  have HD5 := Lib.hid (HD.out.keeps hk5)
  have e0 := HD5.out.z.cell 0 rfl
  have e1 := HD5.out.z.cell 1 rfl
  have g0 := HD5.out.z.fz 0 (by show 0 < 2; decide)
  have g1 := HD5.out.z.fz 1 (by show 1 < 2; decide)
  simp only [List.drop_succ_cons, List.drop_zero]
  clear hk5 hw hL x0 x1 x2 x3 x4 x5 x6 d0 d1 f0 f1
  go_wp2
  refine cs_ret2 Tryd.results20 (lvD (HD5.out.ends (dsC ⟨119, Y⟩) rfl).z.r) rfl rfl rfl ?_
  exact ⟨(by rw [HF.out]; show _ = Ending.returned (.tuple #[dsV (slD _), .int .i64 0]); rw [HY.out]; rfl), (HD5.out.ends (dsC ⟨119, Y⟩) rfl).k⟩
set_option maxHeartbeats 1600000 in
theorem dmake_ok_768_tt (x : Slc) (w : World) (e : x.rows = 768) (es : x.sl = true) (ef : x.fec = true) (h1 : 0 ≤ x.burst ∧ x.burst ≤ 255) (h2 : 0 ≤ x.rate ∧ x.rate ≤ 15) (h3 : 0 ≤ x.id ∧ x.id ≤ 15) (h : x.more.size ≤ 252) : Calls Tryd.prog 20 #[slV x] w (DmPost w (mkS x)) := by
  obtain ⟨X, hX⟩ : ∃ X, w.heap.size = X := ⟨_, rfl⟩
  obtain ⟨wA, hA⟩ : ∃ wX, w.alloc (.cells #[.bool x.sl, .bool x.fec, .int .i64 x.rows, .int .i64 x.burst, .int .i64 x.rate, .int .i64 x.id, .string x.more] 47) = wX := ⟨_, rfl⟩
  obtain ⟨wB, hB⟩ : ∃ wX, wA.alloc (.cells #[.int .i64 0, .string ⟨#[]⟩] 44) = wX := ⟨_, rfl⟩
  have hz : wA.heap.size = X + 1 := by rw [← hA, World.size_alloc, hX]
  have kA : Keeps w wA := by rw [← hA]; exact (Keeps.refl w).alloc _
  have kB : Keeps wA wB := by rw [← hB]; exact (Keeps.refl wA).alloc _
  have HK := Lib.hid (kA.trans kB)
  have HX := Lib.hid (show CsAt X (slC x) wB from CsAt.keeps (w := wA) (by rw [← hX, ← hA]; exact CsAt.made w #[.bool x.sl, .bool x.fec, .int .i64 x.rows, .int .i64 x.burst, .int .i64 x.rate, .int .i64 x.id, .string x.more] _ (by simp)) kB)
  have HD := Lib.hid (show CsAns w (X + 1) (dsC zD) wB from ⟨by rw [← hz, ← hB]; exact CsAt.made wA #[.int .i64 0, .string ⟨#[]⟩] _ (by simp), kA.trans kB, by omega⟩)
  have x0 := HX.out.cell 0 rfl
  have x1 := HX.out.cell 1 rfl
  have x2 := HX.out.cell 2 rfl
  have x3 := HX.out.cell 3 rfl
  have x4 := HX.out.cell 4 rfl
  have x5 := HX.out.cell 5 rfl
  have x6 := HX.out.cell 6 rfl
  have d0 := HD.out.z.cell 0 rfl
  have d1 := HD.out.z.cell 1 rfl
  have f0 := HD.out.z.fz 0 (by show 0 < 2; decide)
  have f1 := HD.out.z.fz 1 (by show 1 < 2; decide)
  have HB := Lib.hid (fun W => din_any x.burst 255 W)
  have HR := Lib.hid (fun W => din_any x.rate 15 W)
  have HI := Lib.hid (fun W => din_any x.id 15 W)
  clear kA kB
  simp only [decide_eq_true h1] at HB
  simp only [decide_eq_true h2] at HR
  simp only [decide_eq_true h3] at HI
  have HF := Lib.hid (mkS_ok (x := x) ⟨⟨by unfold okR; omega, h1, h2, h3⟩, h⟩)
  have hsl : slB x = [Ds.u8 186, Ds.u8 x.burst.toNat, Ds.u8 (16 * x.rate.toNat + x.id.toNat)] ++ ls x.more := by
    have : slF x = 186 := by unfold slF; rw [e, es, ef]; rfl
    unfold slB; rw [this]; rfl
  obtain ⟨sl, fec, rows, burst, rate, id, more⟩ := x
  simp only at hA e es ef h hsl HB HR HI h1 h2 h3
  subst e es ef
  have hzi : ¬ (252 : Int) < (more.size : Int) := by omega
  obtain ⟨q1, hq1⟩ : ∃ q, 16 * rate = q := ⟨_, rfl⟩
  obtain ⟨P, hP⟩ : ∃ p, q1 + id = p := ⟨_, rfl⟩
  have wr1 := wrapI (a := q1) (by omega) (by omega)
  have wr2 := wrapI (a := P) (by omega) (by omega)
  have HL := Lib.hid (show (#[.int .i64 186, .int .i64 burst, .int .i64 P] : Array Value) = ([Ds.u8 186, Ds.u8 burst.toNat, Ds.u8 (16 * rate.toNat + id.toNat)].map I64).toArray by
    simp only [List.map_cons, List.map_nil, I64, Ds.u8_nat (show 186 < 256 by decide), Ds.u8_nat (show burst.toNat < 256 by omega), Ds.u8_nat (show 16 * rate.toNat + id.toNat < 256 by omega)]
    rw [show ((burst.toNat : Nat) : Int) = burst by omega, show ((16 * rate.toNat + id.toNat : Nat) : Int) = P by omega]; rfl)
  have HIN := Lib.hid (fun W : World => show Ints W.heap.size [Ds.u8 186, Ds.u8 burst.toNat, Ds.u8 (16 * rate.toNat + id.toNat)] (W.alloc (.cells #[.int .i64 186, .int .i64 burst, .int .i64 P] 3)) by rw [HL.out]; exact Ints.lit W _ _)
  have HTX := Lib.hid (fun (W : World) (h : Ints wB.heap.size [Ds.u8 186, Ds.u8 burst.toNat, Ds.u8 (16 * rate.toNat + id.toNat)] W) => dtext_any W wB.heap.size 3 3 _ W rfl (by show 3 ≤ 1000; decide) h (Keeps.refl W))
  obtain ⟨L3, hL3⟩ : ∃ l, [Ds.u8 186, Ds.u8 burst.toNat, Ds.u8 (16 * rate.toNat + id.toNat)] = l := ⟨_, rfl⟩
  simp only [hL3] at HIN HTX hsl
  obtain ⟨V, hV⟩ : ∃ V, st L3 = V := ⟨_, rfl⟩
  have hVz : V.size = 3 := by rw [← hV, ← hL3]; rfl
  rw [hV] at HTX
  obtain ⟨Y, hY⟩ : ∃ Y, V ++ more = Y := ⟨_, rfl⟩
  have HY := Lib.hid (show slD ⟨true, true, 768, burst, rate, id, more⟩ = ⟨119, Y⟩ by
    show (⟨119, st (slB _)⟩ : Dsc) = _
    rw [hsl, ← st_append, st_ls, hV, hY])
  have f3 : ¬ 9223372036854775807 < 3 + more.size := by omega
  clear hsl hL3 hV h
  go_enter Tryd.func20, Tryd.ntmps20
  go_wp2_with (go_at_call 42; (first | (with_reducible refine (HB.out _).mono ?_) | (with_reducible refine (HR.out _).mono ?_) | (with_reducible refine (HI.out _).mono ?_)); rintro _ w1 ⟨rfl, rfl⟩)
  refine wp_draw_tail 15 (by kernel_rfl) [.int .i64 186, .pointer (some ⟨X, 3, none⟩), .int .i64 burst, .pointer (some ⟨X, 4, none⟩), .int .i64 rate, .int .i64 q1, .pointer (some ⟨X, 5, none⟩), .int .i64 id, .int .i64 P, .slice (some ⟨wB.heap.size, 0, none⟩) 3 3, .string V, .pointer (some ⟨X, 6, none⟩), .string more, .string Y, .agg #[.int .i64 119, .string Y]]
    (Once 9 (Eqv wB) (fun W => Keeps wB W ∧ Ints wB.heap.size L3 W)) rfl (by kernel_rfl) (by kernel_rfl) (fin := ?fin0) ?hfin0 (Once.start (Eqv.drew wB)) ?each0 ?hend0
  case hfin0 => simp [seqA, dstOf, Act.put]; rfl
  case each0 =>
    refine ⟨?_, ?_, ?_, ?_, ?_, ?_, ?_, ?_, ?_, ?_, ?_, ?_, ?_, ?_, ?_, trivial⟩
    all_goals intro L w5 h0 hd hs hw
    all_goals unfold Does
    all_goals try simp only [Nat.zero_add, Nat.reduceAdd] at h0
    rotate_left 9
    · have hE := hw.1 h0
      have hz := hE.size
      go_simp
      refine fun L' k => Once.done k ⟨((Keeps.refl wB).eqv hE).alloc _, ?_⟩
      have := HIN.out w5
      rwa [hz] at this
    · have h12 := hd 9 (by kernel_rfl)
      have hB := hw.2 h12
      go_simp
      refine (HTX.out w5 hB.2).mono ?_
      rintro e w8 ⟨rfl, k8⟩
      exact ⟨_, rfl, rfl, fun L' k => ⟨fun h => (by rw [(k 9).2 (.inl h12)] at h; cases h), fun _ => ⟨hB.1.trans k8, hB.2.keeps k8⟩⟩⟩
    all_goals have hke := once_kmix hw
    all_goals have y3 := (HX.out.keeps hke).cell 3 rfl
    all_goals have y4 := (HX.out.keeps hke).cell 4 rfl
    all_goals have y5 := (HX.out.keeps hke).cell 5 rfl
    all_goals have y6 := (HX.out.keeps hke).cell 6 rfl
    all_goals go_simp
    all_goals exact fun L' k => hw.same (by decide) k
  case hend0 =>
  intro L w5 hL hw
  have hk5 := (hw.2 (hL 9 (by omega))).1
  have HD5 := Lib.hid (HD.out.keeps hk5)
  have e0 := HD5.out.z.cell 0 rfl
  have e1 := HD5.out.z.cell 1 rfl
  have g0 := HD5.out.z.fz 0 (by show 0 < 2; decide)
  have g1 := HD5.out.z.fz 1 (by show 1 < 2; decide)
  simp only [List.drop_succ_cons, List.drop_zero]
  clear hk5 hw hL x0 x1 x2 x3 x4 x5 x6 d0 d1 f0 f1
  go_wp2
  refine cs_ret2 Tryd.results20 (lvD (HD5.out.ends (dsC ⟨119, Y⟩) rfl).z.r) rfl rfl rfl ?_
  exact ⟨(by rw [HF.out]; show _ = Ending.returned (.tuple #[dsV (slD _), .int .i64 0]); rw [HY.out]; rfl), (HD5.out.ends (dsC ⟨119, Y⟩) rfl).k⟩
set_option maxHeartbeats 1600000 in
theorem dmake_ok_1024_ff (x : Slc) (w : World) (e : x.rows = 1024) (es : x.sl = false) (ef : x.fec = false) (h1 : 0 ≤ x.burst ∧ x.burst ≤ 255) (h2 : 0 ≤ x.rate ∧ x.rate ≤ 15) (h3 : 0 ≤ x.id ∧ x.id ≤ 15) (h : x.more.size ≤ 252) : Calls Tryd.prog 20 #[slV x] w (DmPost w (mkS x)) := by
  obtain ⟨X, hX⟩ : ∃ X, w.heap.size = X := ⟨_, rfl⟩
  obtain ⟨wA, hA⟩ : ∃ wX, w.alloc (.cells #[.bool x.sl, .bool x.fec, .int .i64 x.rows, .int .i64 x.burst, .int .i64 x.rate, .int .i64 x.id, .string x.more] 47) = wX := ⟨_, rfl⟩
  obtain ⟨wB, hB⟩ : ∃ wX, wA.alloc (.cells #[.int .i64 0, .string ⟨#[]⟩] 44) = wX := ⟨_, rfl⟩
  have hz : wA.heap.size = X + 1 := by rw [← hA, World.size_alloc, hX]
  have kA : Keeps w wA := by rw [← hA]; exact (Keeps.refl w).alloc _
  have kB : Keeps wA wB := by rw [← hB]; exact (Keeps.refl wA).alloc _
  have HK := Lib.hid (kA.trans kB)
  have HX := Lib.hid (show CsAt X (slC x) wB from CsAt.keeps (w := wA) (by rw [← hX, ← hA]; exact CsAt.made w #[.bool x.sl, .bool x.fec, .int .i64 x.rows, .int .i64 x.burst, .int .i64 x.rate, .int .i64 x.id, .string x.more] _ (by simp)) kB)
  have HD := Lib.hid (show CsAns w (X + 1) (dsC zD) wB from ⟨by rw [← hz, ← hB]; exact CsAt.made wA #[.int .i64 0, .string ⟨#[]⟩] _ (by simp), kA.trans kB, by omega⟩)
  have x0 := HX.out.cell 0 rfl
  have x1 := HX.out.cell 1 rfl
  have x2 := HX.out.cell 2 rfl
  have x3 := HX.out.cell 3 rfl
  have x4 := HX.out.cell 4 rfl
  have x5 := HX.out.cell 5 rfl
  have x6 := HX.out.cell 6 rfl
  have d0 := HD.out.z.cell 0 rfl
  have d1 := HD.out.z.cell 1 rfl
  have f0 := HD.out.z.fz 0 (by show 0 < 2; decide)
  have f1 := HD.out.z.fz 1 (by show 1 < 2; decide)
  have HB := Lib.hid (fun W => din_any x.burst 255 W)
  have HR := Lib.hid (fun W => din_any x.rate 15 W)
  have HI := Lib.hid (fun W => din_any x.id 15 W)
  clear kA kB
  simp only [decide_eq_true h1] at HB
  simp only [decide_eq_true h2] at HR
  simp only [decide_eq_true h3] at HI
  have HF := Lib.hid (mkS_ok (x := x) ⟨⟨by unfold okR; omega, h1, h2, h3⟩, h⟩)
  have hsl : slB x = [Ds.u8 27, Ds.u8 x.burst.toNat, Ds.u8 (16 * x.rate.toNat + x.id.toNat)] ++ ls x.more := by
    have : slF x = 27 := by unfold slF; rw [e, es, ef]; rfl
    unfold slB; rw [this]; rfl
  obtain ⟨sl, fec, rows, burst, rate, id, more⟩ := x
  simp only at hA e es ef h hsl HB HR HI h1 h2 h3
  subst e es ef
  have hzi : ¬ (252 : Int) < (more.size : Int) := by omega
  obtain ⟨q1, hq1⟩ : ∃ q, 16 * rate = q := ⟨_, rfl⟩
  obtain ⟨P, hP⟩ : ∃ p, q1 + id = p := ⟨_, rfl⟩
  have wr1 := wrapI (a := q1) (by omega) (by omega)
  have wr2 := wrapI (a := P) (by omega) (by omega)
  have HL := Lib.hid (show (#[.int .i64 27, .int .i64 burst, .int .i64 P] : Array Value) = ([Ds.u8 27, Ds.u8 burst.toNat, Ds.u8 (16 * rate.toNat + id.toNat)].map I64).toArray by
    simp only [List.map_cons, List.map_nil, I64, Ds.u8_nat (show 27 < 256 by decide), Ds.u8_nat (show burst.toNat < 256 by omega), Ds.u8_nat (show 16 * rate.toNat + id.toNat < 256 by omega)]
    rw [show ((burst.toNat : Nat) : Int) = burst by omega, show ((16 * rate.toNat + id.toNat : Nat) : Int) = P by omega]; rfl)
  have HIN := Lib.hid (fun W : World => show Ints W.heap.size [Ds.u8 27, Ds.u8 burst.toNat, Ds.u8 (16 * rate.toNat + id.toNat)] (W.alloc (.cells #[.int .i64 27, .int .i64 burst, .int .i64 P] 3)) by rw [HL.out]; exact Ints.lit W _ _)
  have HTX := Lib.hid (fun (W : World) (h : Ints wB.heap.size [Ds.u8 27, Ds.u8 burst.toNat, Ds.u8 (16 * rate.toNat + id.toNat)] W) => dtext_any W wB.heap.size 3 3 _ W rfl (by show 3 ≤ 1000; decide) h (Keeps.refl W))
  obtain ⟨L3, hL3⟩ : ∃ l, [Ds.u8 27, Ds.u8 burst.toNat, Ds.u8 (16 * rate.toNat + id.toNat)] = l := ⟨_, rfl⟩
  simp only [hL3] at HIN HTX hsl
  obtain ⟨V, hV⟩ : ∃ V, st L3 = V := ⟨_, rfl⟩
  have hVz : V.size = 3 := by rw [← hV, ← hL3]; rfl
  rw [hV] at HTX
  obtain ⟨Y, hY⟩ : ∃ Y, V ++ more = Y := ⟨_, rfl⟩
  have HY := Lib.hid (show slD ⟨false, false, 1024, burst, rate, id, more⟩ = ⟨119, Y⟩ by
    show (⟨119, st (slB _)⟩ : Dsc) = _
    rw [hsl, ← st_append, st_ls, hV, hY])
  have f3 : ¬ 9223372036854775807 < 3 + more.size := by omega
  clear hsl hL3 hV h
  go_enter Tryd.func20, Tryd.ntmps20
  go_wp2_with (go_at_call 42; (first | (with_reducible refine (HB.out _).mono ?_) | (with_reducible refine (HR.out _).mono ?_) | (with_reducible refine (HI.out _).mono ?_)); rintro _ w1 ⟨rfl, rfl⟩)
  refine wp_draw_tail 15 (by kernel_rfl) [.int .i64 27, .pointer (some ⟨X, 3, none⟩), .int .i64 burst, .pointer (some ⟨X, 4, none⟩), .int .i64 rate, .int .i64 q1, .pointer (some ⟨X, 5, none⟩), .int .i64 id, .int .i64 P, .slice (some ⟨wB.heap.size, 0, none⟩) 3 3, .string V, .pointer (some ⟨X, 6, none⟩), .string more, .string Y, .agg #[.int .i64 119, .string Y]]
    (Once 9 (Eqv wB) (fun W => Keeps wB W ∧ Ints wB.heap.size L3 W)) rfl (by kernel_rfl) (by kernel_rfl) (fin := ?fin0) ?hfin0 (Once.start (Eqv.drew wB)) ?each0 ?hend0
  case hfin0 => simp [seqA, dstOf, Act.put]; rfl
  case each0 =>
    refine ⟨?_, ?_, ?_, ?_, ?_, ?_, ?_, ?_, ?_, ?_, ?_, ?_, ?_, ?_, ?_, trivial⟩
    all_goals intro L w5 h0 hd hs hw
    all_goals unfold Does
    all_goals try simp only [Nat.zero_add, Nat.reduceAdd] at h0
    rotate_left 9
    · have hE := hw.1 h0
      have hz := hE.size
      go_simp
      refine fun L' k => Once.done k ⟨((Keeps.refl wB).eqv hE).alloc _, ?_⟩
      have := HIN.out w5
      rwa [hz] at this
    · have h12 := hd 9 (by kernel_rfl)
      have hB := hw.2 h12
      go_simp
      refine (HTX.out w5 hB.2).mono ?_
      rintro e w8 ⟨rfl, k8⟩
      exact ⟨_, rfl, rfl, fun L' k => ⟨fun h => (by rw [(k 9).2 (.inl h12)] at h; cases h), fun _ => ⟨hB.1.trans k8, hB.2.keeps k8⟩⟩⟩
    all_goals have hke := once_kmix hw
    all_goals have y3 := (HX.out.keeps hke).cell 3 rfl
    all_goals have y4 := (HX.out.keeps hke).cell 4 rfl
    all_goals have y5 := (HX.out.keeps hke).cell 5 rfl
    all_goals have y6 := (HX.out.keeps hke).cell 6 rfl
    all_goals go_simp
    all_goals exact fun L' k => hw.same (by decide) k
  case hend0 =>
  intro L w5 hL hw
  have hk5 := (hw.2 (hL 9 (by omega))).1
  have HD5 := Lib.hid (HD.out.keeps hk5)
  have e0 := HD5.out.z.cell 0 rfl
  have e1 := HD5.out.z.cell 1 rfl
  have g0 := HD5.out.z.fz 0 (by show 0 < 2; decide)
  have g1 := HD5.out.z.fz 1 (by show 1 < 2; decide)
  simp only [List.drop_succ_cons, List.drop_zero]
  clear hk5 hw hL x0 x1 x2 x3 x4 x5 x6 d0 d1 f0 f1
  go_wp2
  refine cs_ret2 Tryd.results20 (lvD (HD5.out.ends (dsC ⟨119, Y⟩) rfl).z.r) rfl rfl rfl ?_
  exact ⟨(by rw [HF.out]; show _ = Ending.returned (.tuple #[dsV (slD _), .int .i64 0]); rw [HY.out]; rfl), (HD5.out.ends (dsC ⟨119, Y⟩) rfl).k⟩
set_option maxHeartbeats 1600000 in
theorem dmake_ok_1024_ft (x : Slc) (w : World) (e : x.rows = 1024) (es : x.sl = false) (ef : x.fec = true) (h1 : 0 ≤ x.burst ∧ x.burst ≤ 255) (h2 : 0 ≤ x.rate ∧ x.rate ≤ 15) (h3 : 0 ≤ x.id ∧ x.id ≤ 15) (h : x.more.size ≤ 252) : Calls Tryd.prog 20 #[slV x] w (DmPost w (mkS x)) := by
  obtain ⟨X, hX⟩ : ∃ X, w.heap.size = X := ⟨_, rfl⟩
  obtain ⟨wA, hA⟩ : ∃ wX, w.alloc (.cells #[.bool x.sl, .bool x.fec, .int .i64 x.rows, .int .i64 x.burst, .int .i64 x.rate, .int .i64 x.id, .string x.more] 47) = wX := ⟨_, rfl⟩
  obtain ⟨wB, hB⟩ : ∃ wX, wA.alloc (.cells #[.int .i64 0, .string ⟨#[]⟩] 44) = wX := ⟨_, rfl⟩
  have hz : wA.heap.size = X + 1 := by rw [← hA, World.size_alloc, hX]
  have kA : Keeps w wA := by rw [← hA]; exact (Keeps.refl w).alloc _
  have kB : Keeps wA wB := by rw [← hB]; exact (Keeps.refl wA).alloc _
  have HK := Lib.hid (kA.trans kB)
  have HX := Lib.hid (show CsAt X (slC x) wB from CsAt.keeps (w := wA) (by rw [← hX, ← hA]; exact CsAt.made w #[.bool x.sl, .bool x.fec, .int .i64 x.rows, .int .i64 x.burst, .int .i64 x.rate, .int .i64 x.id, .string x.more] _ (by simp)) kB)
  have HD := Lib.hid (show CsAns w (X + 1) (dsC zD) wB from ⟨by rw [← hz, ← hB]; exact CsAt.made wA #[.int .i64 0, .string ⟨#[]⟩] _ (by simp), kA.trans kB, by omega⟩)
  have x0 := HX.out.cell 0 rfl
  have x1 := HX.out.cell 1 rfl
  have x2 := HX.out.cell 2 rfl
  have x3 := HX.out.cell 3 rfl
  have x4 := HX.out.cell 4 rfl
  have x5 := HX.out.cell 5 rfl
  have x6 := HX.out.cell 6 rfl
  have d0 := HD.out.z.cell 0 rfl
  have d1 := HD.out.z.cell 1 rfl
  have f0 := HD.out.z.fz 0 (by show 0 < 2; decide)
  have f1 := HD.out.z.fz 1 (by show 1 < 2; decide)
  have HB := Lib.hid (fun W => din_any x.burst 255 W)
  have HR := Lib.hid (fun W => din_any x.rate 15 W)
  have HI := Lib.hid (fun W => din_any x.id 15 W)
  clear kA kB
  simp only [decide_eq_true h1] at HB
  simp only [decide_eq_true h2] at HR
  simp only [decide_eq_true h3] at HI
  have HF := Lib.hid (mkS_ok (x := x) ⟨⟨by unfold okR; omega, h1, h2, h3⟩, h⟩)
  have hsl : slB x = [Ds.u8 59, Ds.u8 x.burst.toNat, Ds.u8 (16 * x.rate.toNat + x.id.toNat)] ++ ls x.more := by
    have : slF x = 59 := by unfold slF; rw [e, es, ef]; rfl
    unfold slB; rw [this]; rfl
  obtain ⟨sl, fec, rows, burst, rate, id, more⟩ := x
  simp only at hA e es ef h hsl HB HR HI h1 h2 h3
  subst e es ef
  have hzi : ¬ (252 : Int) < (more.size : Int) := by omega
  obtain ⟨q1, hq1⟩ : ∃ q, 16 * rate = q := ⟨_, rfl⟩
  obtain ⟨P, hP⟩ : ∃ p, q1 + id = p := ⟨_, rfl⟩
  have wr1 := wrapI (a := q1) (by omega) (by omega)
  have wr2 := wrapI (a := P) (by omega) (by omega)
  have HL := Lib.hid (show (#[.int .i64 59, .int .i64 burst, .int .i64 P] : Array Value) = ([Ds.u8 59, Ds.u8 burst.toNat, Ds.u8 (16 * rate.toNat + id.toNat)].map I64).toArray by
    simp only [List.map_cons, List.map_nil, I64, Ds.u8_nat (show 59 < 256 by decide), Ds.u8_nat (show burst.toNat < 256 by omega), Ds.u8_nat (show 16 * rate.toNat + id.toNat < 256 by omega)]
    rw [show ((burst.toNat : Nat) : Int) = burst by omega, show ((16 * rate.toNat + id.toNat : Nat) : Int) = P by omega]; rfl)
  have HIN := Lib.hid (fun W : World => show Ints W.heap.size [Ds.u8 59, Ds.u8 burst.toNat, Ds.u8 (16 * rate.toNat + id.toNat)] (W.alloc (.cells #[.int .i64 59, .int .i64 burst, .int .i64 P] 3)) by rw [HL.out]; exact Ints.lit W _ _)
  have HTX := Lib.hid (fun (W : World) (h : Ints wB.heap.size [Ds.u8 59, Ds.u8 burst.toNat, Ds.u8 (16 * rate.toNat + id.toNat)] W) => dtext_any W wB.heap.size 3 3 _ W rfl (by show 3 ≤ 1000; decide) h (Keeps.refl W))
  obtain ⟨L3, hL3⟩ : ∃ l, [Ds.u8 59, Ds.u8 burst.toNat, Ds.u8 (16 * rate.toNat + id.toNat)] = l := ⟨_, rfl⟩
  simp only [hL3] at HIN HTX hsl
  obtain ⟨V, hV⟩ : ∃ V, st L3 = V := ⟨_, rfl⟩
  have hVz : V.size = 3 := by rw [← hV, ← hL3]; rfl
  rw [hV] at HTX
  obtain ⟨Y, hY⟩ : ∃ Y, V ++ more = Y := ⟨_, rfl⟩
  have HY := Lib.hid (show slD ⟨false, true, 1024, burst, rate, id, more⟩ = ⟨119, Y⟩ by
    show (⟨119, st (slB _)⟩ : Dsc) = _
    rw [hsl, ← st_append, st_ls, hV, hY])
  have f3 : ¬ 9223372036854775807 < 3 + more.size := by omega
  clear hsl hL3 hV h
  go_enter Tryd.func20, Tryd.ntmps20
  go_wp2_with (go_at_call 42; (first | (with_reducible refine (HB.out _).mono ?_) | (with_reducible refine (HR.out _).mono ?_) | (with_reducible refine (HI.out _).mono ?_)); rintro _ w1 ⟨rfl, rfl⟩)
  refine wp_draw_tail 15 (by kernel_rfl) [.int .i64 59, .pointer (some ⟨X, 3, none⟩), .int .i64 burst, .pointer (some ⟨X, 4, none⟩), .int .i64 rate, .int .i64 q1, .pointer (some ⟨X, 5, none⟩), .int .i64 id, .int .i64 P, .slice (some ⟨wB.heap.size, 0, none⟩) 3 3, .string V, .pointer (some ⟨X, 6, none⟩), .string more, .string Y, .agg #[.int .i64 119, .string Y]]
    (Once 9 (Eqv wB) (fun W => Keeps wB W ∧ Ints wB.heap.size L3 W)) rfl (by kernel_rfl) (by kernel_rfl) (fin := ?fin0) ?hfin0 (Once.start (Eqv.drew wB)) ?each0 ?hend0
  case hfin0 => simp [seqA, dstOf, Act.put]; rfl
  case each0 =>
    refine ⟨?_, ?_, ?_, ?_, ?_, ?_, ?_, ?_, ?_, ?_, ?_, ?_, ?_, ?_, ?_, trivial⟩
    all_goals intro L w5 h0 hd hs hw
    all_goals unfold Does
    all_goals try simp only [Nat.zero_add, Nat.reduceAdd] at h0
    rotate_left 9
    · have hE := hw.1 h0
      have hz := hE.size
      go_simp
      refine fun L' k => Once.done k ⟨((Keeps.refl wB).eqv hE).alloc _, ?_⟩
      have := HIN.out w5
      rwa [hz] at this
    · have h12 := hd 9 (by kernel_rfl)
      have hB := hw.2 h12
      go_simp
      refine (HTX.out w5 hB.2).mono ?_
      rintro e w8 ⟨rfl, k8⟩
      exact ⟨_, rfl, rfl, fun L' k => ⟨fun h => (by rw [(k 9).2 (.inl h12)] at h; cases h), fun _ => ⟨hB.1.trans k8, hB.2.keeps k8⟩⟩⟩
    all_goals have hke := once_kmix hw
    all_goals have y3 := (HX.out.keeps hke).cell 3 rfl
    all_goals have y4 := (HX.out.keeps hke).cell 4 rfl
    all_goals have y5 := (HX.out.keeps hke).cell 5 rfl
    all_goals have y6 := (HX.out.keeps hke).cell 6 rfl
    all_goals go_simp
    all_goals exact fun L' k => hw.same (by decide) k
  case hend0 =>
  intro L w5 hL hw
  have hk5 := (hw.2 (hL 9 (by omega))).1
  have HD5 := Lib.hid (HD.out.keeps hk5)
  have e0 := HD5.out.z.cell 0 rfl
  have e1 := HD5.out.z.cell 1 rfl
  have g0 := HD5.out.z.fz 0 (by show 0 < 2; decide)
  have g1 := HD5.out.z.fz 1 (by show 1 < 2; decide)
  simp only [List.drop_succ_cons, List.drop_zero]
  clear hk5 hw hL x0 x1 x2 x3 x4 x5 x6 d0 d1 f0 f1
  go_wp2
  refine cs_ret2 Tryd.results20 (lvD (HD5.out.ends (dsC ⟨119, Y⟩) rfl).z.r) rfl rfl rfl ?_
  exact ⟨(by rw [HF.out]; show _ = Ending.returned (.tuple #[dsV (slD _), .int .i64 0]); rw [HY.out]; rfl), (HD5.out.ends (dsC ⟨119, Y⟩) rfl).k⟩
set_option maxHeartbeats 1600000 in
theorem dmake_ok_1024_tf (x : Slc) (w : World) (e : x.rows = 1024) (es : x.sl = true) (ef : x.fec = false) (h1 : 0 ≤ x.burst ∧ x.burst ≤ 255) (h2 : 0 ≤ x.rate ∧ x.rate ≤ 15) (h3 : 0 ≤ x.id ∧ x.id ≤ 15) (h : x.more.size ≤ 252) : Calls Tryd.prog 20 #[slV x] w (DmPost w (mkS x)) := by
  obtain ⟨X, hX⟩ : ∃ X, w.heap.size = X := ⟨_, rfl⟩
  obtain ⟨wA, hA⟩ : ∃ wX, w.alloc (.cells #[.bool x.sl, .bool x.fec, .int .i64 x.rows, .int .i64 x.burst, .int .i64 x.rate, .int .i64 x.id, .string x.more] 47) = wX := ⟨_, rfl⟩
  obtain ⟨wB, hB⟩ : ∃ wX, wA.alloc (.cells #[.int .i64 0, .string ⟨#[]⟩] 44) = wX := ⟨_, rfl⟩
  have hz : wA.heap.size = X + 1 := by rw [← hA, World.size_alloc, hX]
  have kA : Keeps w wA := by rw [← hA]; exact (Keeps.refl w).alloc _
  have kB : Keeps wA wB := by rw [← hB]; exact (Keeps.refl wA).alloc _
  have HK := Lib.hid (kA.trans kB)
  have HX := Lib.hid (show CsAt X (slC x) wB from CsAt.keeps (w := wA) (by rw [← hX, ← hA]; exact CsAt.made w #[.bool x.sl, .bool x.fec, .int .i64 x.rows, .int .i64 x.burst, .int .i64 x.rate, .int .i64 x.id, .string x.more] _ (by simp)) kB)
  have HD := Lib.hid (show CsAns w (X + 1) (dsC zD) wB from ⟨by rw [← hz, ← hB]; exact CsAt.made wA #[.int .i64 0, .string ⟨#[]⟩] _ (by simp), kA.trans kB, by omega⟩)
  have x0 := HX.out.cell 0 rfl
  have x1 := HX.out.cell 1 rfl
  have x2 := HX.out.cell 2 rfl
  have x3 := HX.out.cell 3 rfl
  have x4 := HX.out.cell 4 rfl
  have x5 := HX.out.cell 5 rfl
  have x6 := HX.out.cell 6 rfl
  have d0 := HD.out.z.cell 0 rfl
  have d1 := HD.out.z.cell 1 rfl
  have f0 := HD.out.z.fz 0 (by show 0 < 2; decide)
  have f1 := HD.out.z.fz 1 (by show 1 < 2; decide)
  have HB := Lib.hid (fun W => din_any x.burst 255 W)
  have HR := Lib.hid (fun W => din_any x.rate 15 W)
  have HI := Lib.hid (fun W => din_any x.id 15 W)
  clear kA kB
  simp only [decide_eq_true h1] at HB
  simp only [decide_eq_true h2] at HR
  simp only [decide_eq_true h3] at HI
  have HF := Lib.hid (mkS_ok (x := x) ⟨⟨by unfold okR; omega, h1, h2, h3⟩, h⟩)
  have hsl : slB x = [Ds.u8 155, Ds.u8 x.burst.toNat, Ds.u8 (16 * x.rate.toNat + x.id.toNat)] ++ ls x.more := by
    have : slF x = 155 := by unfold slF; rw [e, es, ef]; rfl
    unfold slB; rw [this]; rfl
  obtain ⟨sl, fec, rows, burst, rate, id, more⟩ := x
  simp only at hA e es ef h hsl HB HR HI h1 h2 h3
  subst e es ef
  have hzi : ¬ (252 : Int) < (more.size : Int) := by omega
  obtain ⟨q1, hq1⟩ : ∃ q, 16 * rate = q := ⟨_, rfl⟩
  obtain ⟨P, hP⟩ : ∃ p, q1 + id = p := ⟨_, rfl⟩
  have wr1 := wrapI (a := q1) (by omega) (by omega)
  have wr2 := wrapI (a := P) (by omega) (by omega)
  have HL := Lib.hid (show (#[.int .i64 155, .int .i64 burst, .int .i64 P] : Array Value) = ([Ds.u8 155, Ds.u8 burst.toNat, Ds.u8 (16 * rate.toNat + id.toNat)].map I64).toArray by
    simp only [List.map_cons, List.map_nil, I64, Ds.u8_nat (show 155 < 256 by decide), Ds.u8_nat (show burst.toNat < 256 by omega), Ds.u8_nat (show 16 * rate.toNat + id.toNat < 256 by omega)]
    rw [show ((burst.toNat : Nat) : Int) = burst by omega, show ((16 * rate.toNat + id.toNat : Nat) : Int) = P by omega]; rfl)
  have HIN := Lib.hid (fun W : World => show Ints W.heap.size [Ds.u8 155, Ds.u8 burst.toNat, Ds.u8 (16 * rate.toNat + id.toNat)] (W.alloc (.cells #[.int .i64 155, .int .i64 burst, .int .i64 P] 3)) by rw [HL.out]; exact Ints.lit W _ _)
  have HTX := Lib.hid (fun (W : World) (h : Ints wB.heap.size [Ds.u8 155, Ds.u8 burst.toNat, Ds.u8 (16 * rate.toNat + id.toNat)] W) => dtext_any W wB.heap.size 3 3 _ W rfl (by show 3 ≤ 1000; decide) h (Keeps.refl W))
  obtain ⟨L3, hL3⟩ : ∃ l, [Ds.u8 155, Ds.u8 burst.toNat, Ds.u8 (16 * rate.toNat + id.toNat)] = l := ⟨_, rfl⟩
  simp only [hL3] at HIN HTX hsl
  obtain ⟨V, hV⟩ : ∃ V, st L3 = V := ⟨_, rfl⟩
  have hVz : V.size = 3 := by rw [← hV, ← hL3]; rfl
  rw [hV] at HTX
  obtain ⟨Y, hY⟩ : ∃ Y, V ++ more = Y := ⟨_, rfl⟩
  have HY := Lib.hid (show slD ⟨true, false, 1024, burst, rate, id, more⟩ = ⟨119, Y⟩ by
    show (⟨119, st (slB _)⟩ : Dsc) = _
    rw [hsl, ← st_append, st_ls, hV, hY])
  have f3 : ¬ 9223372036854775807 < 3 + more.size := by omega
  clear hsl hL3 hV h
  go_enter Tryd.func20, Tryd.ntmps20
  go_wp2_with (go_at_call 42; (first | (with_reducible refine (HB.out _).mono ?_) | (with_reducible refine (HR.out _).mono ?_) | (with_reducible refine (HI.out _).mono ?_)); rintro _ w1 ⟨rfl, rfl⟩)
  refine wp_draw_tail 15 (by kernel_rfl) [.int .i64 155, .pointer (some ⟨X, 3, none⟩), .int .i64 burst, .pointer (some ⟨X, 4, none⟩), .int .i64 rate, .int .i64 q1, .pointer (some ⟨X, 5, none⟩), .int .i64 id, .int .i64 P, .slice (some ⟨wB.heap.size, 0, none⟩) 3 3, .string V, .pointer (some ⟨X, 6, none⟩), .string more, .string Y, .agg #[.int .i64 119, .string Y]]
    (Once 9 (Eqv wB) (fun W => Keeps wB W ∧ Ints wB.heap.size L3 W)) rfl (by kernel_rfl) (by kernel_rfl) (fin := ?fin0) ?hfin0 (Once.start (Eqv.drew wB)) ?each0 ?hend0
  case hfin0 => simp [seqA, dstOf, Act.put]; rfl
  case each0 =>
    refine ⟨?_, ?_, ?_, ?_, ?_, ?_, ?_, ?_, ?_, ?_, ?_, ?_, ?_, ?_, ?_, trivial⟩
    all_goals intro L w5 h0 hd hs hw
    all_goals unfold Does
    all_goals try simp only [Nat.zero_add, Nat.reduceAdd] at h0
    rotate_left 9
    · have hE := hw.1 h0
      have hz := hE.size
      go_simp
      refine fun L' k => Once.done k ⟨((Keeps.refl wB).eqv hE).alloc _, ?_⟩
      have := HIN.out w5
      rwa [hz] at this
    · have h12 := hd 9 (by kernel_rfl)
      have hB := hw.2 h12
      go_simp
      refine (HTX.out w5 hB.2).mono ?_
      rintro e w8 ⟨rfl, k8⟩
      exact ⟨_, rfl, rfl, fun L' k => ⟨fun h => (by rw [(k 9).2 (.inl h12)] at h; cases h), fun _ => ⟨hB.1.trans k8, hB.2.keeps k8⟩⟩⟩
    all_goals have hke := once_kmix hw
    all_goals have y3 := (HX.out.keeps hke).cell 3 rfl
    all_goals have y4 := (HX.out.keeps hke).cell 4 rfl
    all_goals have y5 := (HX.out.keeps hke).cell 5 rfl
    all_goals have y6 := (HX.out.keeps hke).cell 6 rfl
    all_goals go_simp
    all_goals exact fun L' k => hw.same (by decide) k
  case hend0 =>
  intro L w5 hL hw
  have hk5 := (hw.2 (hL 9 (by omega))).1
  have HD5 := Lib.hid (HD.out.keeps hk5)
  have e0 := HD5.out.z.cell 0 rfl
  have e1 := HD5.out.z.cell 1 rfl
  have g0 := HD5.out.z.fz 0 (by show 0 < 2; decide)
  have g1 := HD5.out.z.fz 1 (by show 1 < 2; decide)
  simp only [List.drop_succ_cons, List.drop_zero]
  clear hk5 hw hL x0 x1 x2 x3 x4 x5 x6 d0 d1 f0 f1
  go_wp2
  refine cs_ret2 Tryd.results20 (lvD (HD5.out.ends (dsC ⟨119, Y⟩) rfl).z.r) rfl rfl rfl ?_
  exact ⟨(by rw [HF.out]; show _ = Ending.returned (.tuple #[dsV (slD _), .int .i64 0]); rw [HY.out]; rfl), (HD5.out.ends (dsC ⟨119, Y⟩) rfl).k⟩
set_option maxHeartbeats 1600000 in
theorem dmake_ok_1024_tt (x : Slc) (w : World) (e : x.rows = 1024) (es : x.sl = true) (ef : x.fec = true) (h1 : 0 ≤ x.burst ∧ x.burst ≤ 255) (h2 : 0 ≤ x.rate ∧ x.rate ≤ 15) (h3 : 0 ≤ x.id ∧ x.id ≤ 15) (h : x.more.size ≤ 252) : Calls Tryd.prog 20 #[slV x] w (DmPost w (mkS x)) := by
  obtain ⟨X, hX⟩ : ∃ X, w.heap.size = X := ⟨_, rfl⟩
  obtain ⟨wA, hA⟩ : ∃ wX, w.alloc (.cells #[.bool x.sl, .bool x.fec, .int .i64 x.rows, .int .i64 x.burst, .int .i64 x.rate, .int .i64 x.id, .string x.more] 47) = wX := ⟨_, rfl⟩
  obtain ⟨wB, hB⟩ : ∃ wX, wA.alloc (.cells #[.int .i64 0, .string ⟨#[]⟩] 44) = wX := ⟨_, rfl⟩
  have hz : wA.heap.size = X + 1 := by rw [← hA, World.size_alloc, hX]
  have kA : Keeps w wA := by rw [← hA]; exact (Keeps.refl w).alloc _
  have kB : Keeps wA wB := by rw [← hB]; exact (Keeps.refl wA).alloc _
  have HK := Lib.hid (kA.trans kB)
  have HX := Lib.hid (show CsAt X (slC x) wB from CsAt.keeps (w := wA) (by rw [← hX, ← hA]; exact CsAt.made w #[.bool x.sl, .bool x.fec, .int .i64 x.rows, .int .i64 x.burst, .int .i64 x.rate, .int .i64 x.id, .string x.more] _ (by simp)) kB)
  have HD := Lib.hid (show CsAns w (X + 1) (dsC zD) wB from ⟨by rw [← hz, ← hB]; exact CsAt.made wA #[.int .i64 0, .string ⟨#[]⟩] _ (by simp), kA.trans kB, by omega⟩)
  have x0 := HX.out.cell 0 rfl
  have x1 := HX.out.cell 1 rfl
  have x2 := HX.out.cell 2 rfl
  have x3 := HX.out.cell 3 rfl
  have x4 := HX.out.cell 4 rfl
  have x5 := HX.out.cell 5 rfl
  have x6 := HX.out.cell 6 rfl
  have d0 := HD.out.z.cell 0 rfl
  have d1 := HD.out.z.cell 1 rfl
  have f0 := HD.out.z.fz 0 (by show 0 < 2; decide)
  have f1 := HD.out.z.fz 1 (by show 1 < 2; decide)
  have HB := Lib.hid (fun W => din_any x.burst 255 W)
  have HR := Lib.hid (fun W => din_any x.rate 15 W)
  have HI := Lib.hid (fun W => din_any x.id 15 W)
  clear kA kB
  simp only [decide_eq_true h1] at HB
  simp only [decide_eq_true h2] at HR
  simp only [decide_eq_true h3] at HI
  have HF := Lib.hid (mkS_ok (x := x) ⟨⟨by unfold okR; omega, h1, h2, h3⟩, h⟩)
  have hsl : slB x = [Ds.u8 187, Ds.u8 x.burst.toNat, Ds.u8 (16 * x.rate.toNat + x.id.toNat)] ++ ls x.more := by
    have : slF x = 187 := by unfold slF; rw [e, es, ef]; rfl
    unfold slB; rw [this]; rfl
  obtain ⟨sl, fec, rows, burst, rate, id, more⟩ := x
  simp only at hA e es ef h hsl HB HR HI h1 h2 h3
  subst e es ef
  have hzi : ¬ (252 : Int) < (more.size : Int) := by omega
  obtain ⟨q1, hq1⟩ : ∃ q, 16 * rate = q := ⟨_, rfl⟩
  obtain ⟨P, hP⟩ : ∃ p, q1 + id = p := ⟨_, rfl⟩
  have wr1 := wrapI (a := q1) (by omega) (by omega)
  have wr2 := wrapI (a := P) (by omega) (by omega)
  have HL := Lib.hid (show (#[.int .i64 187, .int .i64 burst, .int .i64 P] : Array Value) = ([Ds.u8 187, Ds.u8 burst.toNat, Ds.u8 (16 * rate.toNat + id.toNat)].map I64).toArray by
    simp only [List.map_cons, List.map_nil, I64, Ds.u8_nat (show 187 < 256 by decide), Ds.u8_nat (show burst.toNat < 256 by omega), Ds.u8_nat (show 16 * rate.toNat + id.toNat < 256 by omega)]
    rw [show ((burst.toNat : Nat) : Int) = burst by omega, show ((16 * rate.toNat + id.toNat : Nat) : Int) = P by omega]; rfl)
  have HIN := Lib.hid (fun W : World => show Ints W.heap.size [Ds.u8 187, Ds.u8 burst.toNat, Ds.u8 (16 * rate.toNat + id.toNat)] (W.alloc (.cells #[.int .i64 187, .int .i64 burst, .int .i64 P] 3)) by rw [HL.out]; exact Ints.lit W _ _)
  have HTX := Lib.hid (fun (W : World) (h : Ints wB.heap.size [Ds.u8 187, Ds.u8 burst.toNat, Ds.u8 (16 * rate.toNat + id.toNat)] W) => dtext_any W wB.heap.size 3 3 _ W rfl (by show 3 ≤ 1000; decide) h (Keeps.refl W))
  obtain ⟨L3, hL3⟩ : ∃ l, [Ds.u8 187, Ds.u8 burst.toNat, Ds.u8 (16 * rate.toNat + id.toNat)] = l := ⟨_, rfl⟩
  simp only [hL3] at HIN HTX hsl
  obtain ⟨V, hV⟩ : ∃ V, st L3 = V := ⟨_, rfl⟩
  have hVz : V.size = 3 := by rw [← hV, ← hL3]; rfl
  rw [hV] at HTX
  obtain ⟨Y, hY⟩ : ∃ Y, V ++ more = Y := ⟨_, rfl⟩
  have HY := Lib.hid (show slD ⟨true, true, 1024, burst, rate, id, more⟩ = ⟨119, Y⟩ by
    show (⟨119, st (slB _)⟩ : Dsc) = _
    rw [hsl, ← st_append, st_ls, hV, hY])
  have f3 : ¬ 9223372036854775807 < 3 + more.size := by omega
  clear hsl hL3 hV h
  go_enter Tryd.func20, Tryd.ntmps20
  go_wp2_with (go_at_call 42; (first | (with_reducible refine (HB.out _).mono ?_) | (with_reducible refine (HR.out _).mono ?_) | (with_reducible refine (HI.out _).mono ?_)); rintro _ w1 ⟨rfl, rfl⟩)
  refine wp_draw_tail 15 (by kernel_rfl) [.int .i64 187, .pointer (some ⟨X, 3, none⟩), .int .i64 burst, .pointer (some ⟨X, 4, none⟩), .int .i64 rate, .int .i64 q1, .pointer (some ⟨X, 5, none⟩), .int .i64 id, .int .i64 P, .slice (some ⟨wB.heap.size, 0, none⟩) 3 3, .string V, .pointer (some ⟨X, 6, none⟩), .string more, .string Y, .agg #[.int .i64 119, .string Y]]
    (Once 9 (Eqv wB) (fun W => Keeps wB W ∧ Ints wB.heap.size L3 W)) rfl (by kernel_rfl) (by kernel_rfl) (fin := ?fin0) ?hfin0 (Once.start (Eqv.drew wB)) ?each0 ?hend0
  case hfin0 => simp [seqA, dstOf, Act.put]; rfl
  case each0 =>
    refine ⟨?_, ?_, ?_, ?_, ?_, ?_, ?_, ?_, ?_, ?_, ?_, ?_, ?_, ?_, ?_, trivial⟩
    all_goals intro L w5 h0 hd hs hw
    all_goals unfold Does
    all_goals try simp only [Nat.zero_add, Nat.reduceAdd] at h0
    rotate_left 9
    · have hE := hw.1 h0
      have hz := hE.size
      go_simp
      refine fun L' k => Once.done k ⟨((Keeps.refl wB).eqv hE).alloc _, ?_⟩
      have := HIN.out w5
      rwa [hz] at this
    · have h12 := hd 9 (by kernel_rfl)
      have hB := hw.2 h12
      go_simp
      refine (HTX.out w5 hB.2).mono ?_
      rintro e w8 ⟨rfl, k8⟩
      exact ⟨_, rfl, rfl, fun L' k => ⟨fun h => (by rw [(k 9).2 (.inl h12)] at h; cases h), fun _ => ⟨hB.1.trans k8, hB.2.keeps k8⟩⟩⟩
    all_goals have hke := once_kmix hw
    all_goals have y3 := (HX.out.keeps hke).cell 3 rfl
    all_goals have y4 := (HX.out.keeps hke).cell 4 rfl
    all_goals have y5 := (HX.out.keeps hke).cell 5 rfl
    all_goals have y6 := (HX.out.keeps hke).cell 6 rfl
    all_goals go_simp
    all_goals exact fun L' k => hw.same (by decide) k
  case hend0 =>
  intro L w5 hL hw
  have hk5 := (hw.2 (hL 9 (by omega))).1
  have HD5 := Lib.hid (HD.out.keeps hk5)
  have e0 := HD5.out.z.cell 0 rfl
  have e1 := HD5.out.z.cell 1 rfl
  have g0 := HD5.out.z.fz 0 (by show 0 < 2; decide)
  have g1 := HD5.out.z.fz 1 (by show 1 < 2; decide)
  simp only [List.drop_succ_cons, List.drop_zero]
  clear hk5 hw hL x0 x1 x2 x3 x4 x5 x6 d0 d1 f0 f1
  go_wp2
  refine cs_ret2 Tryd.results20 (lvD (HD5.out.ends (dsC ⟨119, Y⟩) rfl).z.r) rfl rfl rfl ?_
  exact ⟨(by rw [HF.out]; show _ = Ending.returned (.tuple #[dsV (slD _), .int .i64 0]); rw [HY.out]; rfl), (HD5.out.ends (dsC ⟨119, Y⟩) rfl).k⟩
theorem dmake_any (x : Slc) (w : World) : Calls Tryd.prog 20 #[slV x] w (DmPost w (mkS x)) := by
  by_cases hr : okR x.rows
  · by_cases h1 : 0 ≤ x.burst ∧ x.burst ≤ 255
    · by_cases h2 : 0 ≤ x.rate ∧ x.rate ≤ 15
      · by_cases h3 : 0 ≤ x.id ∧ x.id ≤ 15
        · by_cases h : x.more.size ≤ 252
          · cases es : x.sl <;> cases ef : x.fec <;> rcases hr with e | e | e | e
            · exact dmake_ok_256_ff x w e es ef h1 h2 h3 h
            · exact dmake_ok_512_ff x w e es ef h1 h2 h3 h
            · exact dmake_ok_768_ff x w e es ef h1 h2 h3 h
            · exact dmake_ok_1024_ff x w e es ef h1 h2 h3 h
            · exact dmake_ok_256_ft x w e es ef h1 h2 h3 h
            · exact dmake_ok_512_ft x w e es ef h1 h2 h3 h
            · exact dmake_ok_768_ft x w e es ef h1 h2 h3 h
            · exact dmake_ok_1024_ft x w e es ef h1 h2 h3 h
            · exact dmake_ok_256_tf x w e es ef h1 h2 h3 h
            · exact dmake_ok_512_tf x w e es ef h1 h2 h3 h
            · exact dmake_ok_768_tf x w e es ef h1 h2 h3 h
            · exact dmake_ok_1024_tf x w e es ef h1 h2 h3 h
            · exact dmake_ok_256_tt x w e es ef h1 h2 h3 h
            · exact dmake_ok_512_tt x w e es ef h1 h2 h3 h
            · exact dmake_ok_768_tt x w e es ef h1 h2 h3 h
            · exact dmake_ok_1024_tt x w e es ef h1 h2 h3 h
          · rcases hr with e | e | e | e
            · exact dmake_long_256 x w e h1 h2 h3 (by omega)
            · exact dmake_long_512 x w e h1 h2 h3 (by omega)
            · exact dmake_long_768 x w e h1 h2 h3 (by omega)
            · exact dmake_long_1024 x w e h1 h2 h3 (by omega)
        · rcases hr with e | e | e | e
          · exact dmake_id_256 x w e h1 h2 h3
          · exact dmake_id_512 x w e h1 h2 h3
          · exact dmake_id_768 x w e h1 h2 h3
          · exact dmake_id_1024 x w e h1 h2 h3
      · rcases hr with e | e | e | e
        · exact dmake_rate_256 x w e h1 h2
        · exact dmake_rate_512 x w e h1 h2
        · exact dmake_rate_768 x w e h1 h2
        · exact dmake_rate_1024 x w e h1 h2
    · rcases hr with e | e | e | e
      · exact dmake_burst_256 x w e h1
      · exact dmake_burst_512 x w e h1
      · exact dmake_burst_768 x w e h1
      · exact dmake_burst_1024 x w e h1
  · exact dmake_rows x w hr
end Go.Proofs.YtlghkdkaifcliaaDoor
