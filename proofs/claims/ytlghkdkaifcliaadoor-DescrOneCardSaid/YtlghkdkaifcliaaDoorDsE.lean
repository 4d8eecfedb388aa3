/-
  What Make of a Place and ReadPlace of package descr answer. The memory that was there stays.
-/
import Derived.Test.YtlghkdkaifcliaaDoorDsX
import Derived.Test.YtlghkdkaifcliaaDoorDsD
namespace Go.Proofs.YtlghkdkaifcliaaDoor
open Go.RowKit Gf Ds
set_option maxRecDepth 100000
set_option linter.unusedVariables false
set_option linter.unusedSimpArgs false
abbrev TP (w : World) : Prop := Tab 1 wsP w
theorem fits_P {x : Plc} : fits wsP [x.a, x.b, x.c, x.d, x.t, 0, 0, 0, 0] ↔ okPl x := by
  unfold okPl w16
  constructor
  · intro f
    have f0 := f 0 (by decide)
    have f1 := f 1 (by decide)
    have f2 := f 2 (by decide)
    have f3 := f 3 (by decide)
    have f4 := f 4 (by decide)
    have g0 : (0 : Int) ≤ x.a ∧ x.a < 65536 := f0
    have g1 : (0 : Int) ≤ x.b ∧ x.b < 65536 := f1
    have g2 : (0 : Int) ≤ x.c ∧ x.c < 65536 := f2
    have g3 : (0 : Int) ≤ x.d ∧ x.d < 65536 := f3
    have g4 : (0 : Int) ≤ x.t ∧ x.t < 256 := f4
    omega
  · rintro ⟨h0, h1, h2, h3, h4⟩ k hk
    have hk' : k = 0 ∨ k = 1 ∨ k = 2 ∨ k = 3 ∨ k = 4 ∨ k = 5 ∨ k = 6 ∨ k = 7 ∨ k = 8 := by omega
    rcases hk' with rfl | rfl | rfl | rfl | rfl | rfl | rfl | rfl | rfl
    · show (0 : Int) ≤ x.a ∧ x.a < 65536; omega
    · show (0 : Int) ≤ x.b ∧ x.b < 65536; omega
    · show (0 : Int) ≤ x.c ∧ x.c < 65536; omega
    · show (0 : Int) ≤ x.d ∧ x.d < 65536; omega
    · show (0 : Int) ≤ x.t ∧ x.t < 256; omega
    all_goals (show (0 : Int) ≤ 0 ∧ (0 : Int) < 1; omega)
theorem il_P {x : Plc} (h : okPl x) : [x.a, x.b, x.c, x.d, x.t, 0, 0, 0, 0] = il [x.a.toNat, x.b.toNat, x.c.toNat, x.d.toNat, x.t.toNat, 0, 0, 0, 0] := by
  obtain ⟨⟨h0, _⟩, ⟨h1, _⟩, ⟨h2, _⟩, ⟨h3, _⟩, h4, _⟩ := h
  show _ = [((x.a.toNat : Nat) : Int), ((x.b.toNat : Nat) : Int), ((x.c.toNat : Nat) : Int), ((x.d.toNat : Nat) : Int), ((x.t.toNat : Nat) : Int), 0, 0, 0, 0]
  rw [Int.toNat_of_nonneg h0, Int.toNat_of_nonneg h1, Int.toNat_of_nonneg h2, Int.toNat_of_nonneg h3, Int.toNat_of_nonneg h4]
theorem txP_of {x : Plc} (h : okPl x) : st (txW wsP [x.a.toNat, x.b.toNat, x.c.toNat, x.d.toNat, x.t.toNat, 0, 0, 0, 0]) = (plD x).body := by
  obtain ⟨⟨_, h0⟩, ⟨_, h1⟩, ⟨_, h2⟩, ⟨_, h3⟩, _, h4⟩ := h
  rw [txP _ _ _ _ _ ⟨by omega, by omega, by omega, by omega, by omega⟩]; rfl
set_option maxHeartbeats 3200000 in
theorem pmk_no (x : Plc) (h : ¬ okPl x) (w : World) (hT : TP w) : Calls Tryd.prog 24 #[plV x] w (DmPost w (mkP x)) := by
  have HF := Lib.hid (mkP_no h)
  have hf := fun y => h (fits_P.1 y)
  have HFI := Lib.hid (fun W => dfit_any (ws := wsP) (ns := [x.a, x.b, x.c, x.d, x.t, 0, 0, 0, 0]) rfl rfl gn_P W)
  rw [decide_eq_false hf] at HFI
  clear hf h
  obtain ⟨a, b, c, d, t⟩ := x
  obtain ⟨X, hX⟩ : ∃ X, w.heap.size = X := ⟨_, rfl⟩
  obtain ⟨wA, hA⟩ : ∃ wX, w.alloc (.cells #[.int .i64 a, .int .i64 b, .int .i64 c, .int .i64 d, .int .i64 t] 55) = wX := ⟨_, rfl⟩
  obtain ⟨wB, hB⟩ : ∃ wX, wA.alloc (.cells #[.int .i64 0, .string ⟨#[]⟩] 37) = wX := ⟨_, rfl⟩
  obtain ⟨wZ, hZ⟩ : ∃ wX, wB.alloc (.cells #[.int .i64 0, .int .i64 0, .int .i64 0, .int .i64 0, .int .i64 0, .int .i64 0, .int .i64 0, .int .i64 0, .int .i64 0] 111) = wX := ⟨_, rfl⟩
  have hz : wA.heap.size = X + 1 := by rw [← hA, World.size_alloc, hX]
  have hz2 : wB.heap.size = X + 2 := by rw [← hB, World.size_alloc, hz]
  have kA : Keeps w wA := by rw [← hA]; exact (Keeps.refl w).alloc _
  have kB : Keeps wA wB := by rw [← hB]; exact (Keeps.refl wA).alloc _
  have kZ : Keeps wB wZ := by rw [← hZ]; exact (Keeps.refl wB).alloc _
  have HZ := Lib.hid (show CsAt (X + 2) (nC [0, 0, 0, 0, 0, 0, 0, 0, 0]) wZ by rw [← hz2, ← hZ]; exact CsAt.made wB #[.int .i64 0, .int .i64 0, .int .i64 0, .int .i64 0, .int .i64 0, .int .i64 0, .int .i64 0, .int .i64 0, .int .i64 0] _ (by simp))
  obtain ⟨wC, hC⟩ : ∃ W, wZ.setCells (X + 2) 0 (nC [a, b, c, d, t, 0, 0, 0, 0]) = W := ⟨_, rfl⟩
  have kC : Keeps wB wC := by rw [← hC]; exact (only_setCells (X + 2) (nC [a, b, c, d, t, 0, 0, 0, 0]) 0 wZ).keeps kZ (by omega)
  have HX := (show CsAt X (plC ⟨a, b, c, d, t⟩) wB from CsAt.keeps (w := wA) (by rw [← hX, ← hA]; exact CsAt.made w #[.int .i64 a, .int .i64 b, .int .i64 c, .int .i64 d, .int .i64 t] _ (by simp)) kB)
  have hdd := (show CsAns w (X + 1) (dsC zD) wB from ⟨by rw [← hz, ← hB]; exact CsAt.made wA #[.int .i64 0, .string ⟨#[]⟩] _ (by simp), kA.trans kB, by omega⟩)
  have HD := Lib.hid (hdd.keeps kC)
  have HC := Lib.hid (show CsAt (X + 2) (nC [a, b, c, d, t, 0, 0, 0, 0]) wC by rw [← hC]; exact HZ.out.store (nC [a, b, c, d, t, 0, 0, 0, 0]) rfl)
  have HT := Lib.hid (hT.keeps ((kA.trans kB).trans kC))
  have q0 := HX.cell 0 rfl
  have q1 := HX.cell 1 rfl
  have q2 := HX.cell 2 rfl
  have q3 := HX.cell 3 rfl
  have q4 := HX.cell 4 rfl
  clear kA kB kC kZ HX hdd hT
  go_enter Tryd.func24, Tryd.ntmps24
  go_wp2_with (first | (refine wp_stN (b := X + 2) HZ.out rfl (nC [a, b, c, d, t, 0, 0, 0, 0]) rfl (nC_one _) rfl _ _ rfl rfl rfl ?_; rw [hC]) | (refine dwp_ldG (g := 1) (l := wsP) HT.out rfl _ rfl rfl ?_) | (refine wp_ldN (b := X + 2) HC.out rfl rfl _ rfl rfl ?_) | (go_at_call 47; refine (HFI.out wC).mono ?_; rintro _ w2 ⟨rfl, k2⟩; have HD2 := Lib.hid (HD.out.keeps k2); have HT2 := Lib.hid (HT.out.keeps k2); have HC2 := Lib.hid (HC.out.keeps k2); clear k2) | (refine dwp_stP (b := X + 1) (off := 0) zD (HD2.out.z.there (by decide)) rfl _ _ rfl rfl rfl ?_))
  refine cs_ret2 Tryd.results24 (dlvP (HD2.out.ends (dsC zD) rfl).z.r) rfl rfl rfl ?_
  exact ⟨(by rw [HF.out]; rfl), (HD2.out.ends (dsC zD) rfl).k⟩
set_option maxHeartbeats 3200000 in
theorem pmk_ok (x : Plc) (h : okPl x) (w : World) (hT : TP w) : Calls Tryd.prog 24 #[plV x] w (DmPost w (mkP x)) := by
  have HF := Lib.hid (mkP_ok h)
  have hf := fits_P.2 h
  have HFI := Lib.hid (fun W => dfit_any (ws := wsP) (ns := [x.a, x.b, x.c, x.d, x.t, 0, 0, 0, 0]) rfl rfl gn_P W)
  rw [decide_eq_true hf] at HFI
  have hil := il_P h
  have htx := txP_of h
  obtain ⟨NN, hNN⟩ : ∃ NN, NN = [x.a.toNat, x.b.toNat, x.c.toNat, x.d.toNat, x.t.toNat, 0, 0, 0, 0] := ⟨_, rfl⟩
  rw [← hNN] at hil htx
  have hNl : NN.length = 9 := by rw [hNN]; rfl
  have hfN : ∀ k, k < 9 → gn NN k < 2 ^ gn wsP k := fun k hk => by
    have := (hf k hk).2
    rw [hil, gi_il] at this
    exact_mod_cast this
  have HTX := Lib.hid (fun W => dwtext_any (ws := wsP) (ns := NN) rfl hNl gn_P hfN rfl (by decide) W)
  rw [← hil] at HTX
  obtain ⟨BD, hBD⟩ : ∃ BD, (plD x).body = BD := ⟨_, rfl⟩
  rw [htx, hBD] at HTX
  have HSD := Lib.hid (show plD x = ⟨19, BD⟩ by rw [← hBD]; rfl)
  clear hf h hNN hil htx hNl hfN hBD
  obtain ⟨a, b, c, d, t⟩ := x
  obtain ⟨X, hX⟩ : ∃ X, w.heap.size = X := ⟨_, rfl⟩
  obtain ⟨wA, hA⟩ : ∃ wX, w.alloc (.cells #[.int .i64 a, .int .i64 b, .int .i64 c, .int .i64 d, .int .i64 t] 55) = wX := ⟨_, rfl⟩
  obtain ⟨wB, hB⟩ : ∃ wX, wA.alloc (.cells #[.int .i64 0, .string ⟨#[]⟩] 37) = wX := ⟨_, rfl⟩
  obtain ⟨wZ, hZ⟩ : ∃ wX, wB.alloc (.cells #[.int .i64 0, .int .i64 0, .int .i64 0, .int .i64 0, .int .i64 0, .int .i64 0, .int .i64 0, .int .i64 0, .int .i64 0] 111) = wX := ⟨_, rfl⟩
  have hz : wA.heap.size = X + 1 := by rw [← hA, World.size_alloc, hX]
  have hz2 : wB.heap.size = X + 2 := by rw [← hB, World.size_alloc, hz]
  have kA : Keeps w wA := by rw [← hA]; exact (Keeps.refl w).alloc _
  have kB : Keeps wA wB := by rw [← hB]; exact (Keeps.refl wA).alloc _
  have kZ : Keeps wB wZ := by rw [← hZ]; exact (Keeps.refl wB).alloc _
  have HZ := Lib.hid (show CsAt (X + 2) (nC [0, 0, 0, 0, 0, 0, 0, 0, 0]) wZ by rw [← hz2, ← hZ]; exact CsAt.made wB #[.int .i64 0, .int .i64 0, .int .i64 0, .int .i64 0, .int .i64 0, .int .i64 0, .int .i64 0, .int .i64 0, .int .i64 0] _ (by simp))
  obtain ⟨wC, hC⟩ : ∃ W, wZ.setCells (X + 2) 0 (nC [a, b, c, d, t, 0, 0, 0, 0]) = W := ⟨_, rfl⟩
  have kC : Keeps wB wC := by rw [← hC]; exact (only_setCells (X + 2) (nC [a, b, c, d, t, 0, 0, 0, 0]) 0 wZ).keeps kZ (by omega)
  have HX := (show CsAt X (plC ⟨a, b, c, d, t⟩) wB from CsAt.keeps (w := wA) (by rw [← hX, ← hA]; exact CsAt.made w #[.int .i64 a, .int .i64 b, .int .i64 c, .int .i64 d, .int .i64 t] _ (by simp)) kB)
  have hdd := (show CsAns w (X + 1) (dsC zD) wB from ⟨by rw [← hz, ← hB]; exact CsAt.made wA #[.int .i64 0, .string ⟨#[]⟩] _ (by simp), kA.trans kB, by omega⟩)
  have HD := Lib.hid (hdd.keeps kC)
  have HC := Lib.hid (show CsAt (X + 2) (nC [a, b, c, d, t, 0, 0, 0, 0]) wC by rw [← hC]; exact HZ.out.store (nC [a, b, c, d, t, 0, 0, 0, 0]) rfl)
  have HT := Lib.hid (hT.keeps ((kA.trans kB).trans kC))
  have q0 := HX.cell 0 rfl
  have q1 := HX.cell 1 rfl
  have q2 := HX.cell 2 rfl
  have q3 := HX.cell 3 rfl
  have q4 := HX.cell 4 rfl
  clear kA kB kC kZ HX hdd hT
  go_enter Tryd.func24, Tryd.ntmps24
  go_wp2_with (first | (refine wp_stN (b := X + 2) HZ.out rfl (nC [a, b, c, d, t, 0, 0, 0, 0]) rfl (nC_one _) rfl _ _ rfl rfl rfl ?_; rw [hC]) | (refine dwp_ldG (g := 1) (l := wsP) HT.out rfl _ rfl rfl ?_) | (refine wp_ldN (b := X + 2) HC.out rfl rfl _ rfl rfl ?_) | (go_at_call 47; refine (HFI.out wC).mono ?_; rintro _ w2 ⟨rfl, k2⟩; have HD2 := Lib.hid (HD.out.keeps k2); have HT2 := Lib.hid (HT.out.keeps k2); have HC2 := Lib.hid (HC.out.keeps k2); clear k2) | (refine dwp_ldG (g := 1) (l := wsP) HT2.out rfl _ rfl rfl ?_) | (refine wp_ldN (b := X + 2) HC2.out rfl rfl _ rfl rfl ?_) | (go_at_call 48; refine (HTX.out w2).mono ?_; rintro _ w3 ⟨rfl, k3⟩; have HD3 := Lib.hid (HD2.out.keeps k3); clear k3) | (refine dwp_stP (b := X + 1) (off := 0) ⟨19, BD⟩ (HD3.out.z.there (by decide)) rfl _ _ rfl rfl rfl ?_))
  refine cs_ret2 Tryd.results24 (dlvP (s := ⟨19, BD⟩) (HD3.out.ends (dsC ⟨19, BD⟩) rfl).z.r) rfl rfl rfl ?_
  exact ⟨(by rw [HF.out, HSD.out]; rfl), (HD3.out.ends (dsC ⟨19, BD⟩) rfl).k⟩
theorem pmk_any (x : Plc) (w : World) (hT : TP w) : Calls Tryd.prog 24 #[plV x] w (DmPost w (mkP x)) := by
  by_cases h : okPl x
  · exact pmk_ok x h w hT
  · exact pmk_no x h w hT
def EpPost (w : World) (q : Plc × Int) (e : Ending) (w' : World) : Prop := e = .returned (.tuple #[plV q.1, .int .i64 q.2]) ∧ Keeps w w'
set_option maxHeartbeats 1600000 in
theorem erp_kind (d : Dsc) (w : World) (hT : TP w) (h : d.tag ≠ 19) : Calls Tryd.prog 26 #[dsV d] w (EpPost w (rpl d)) := by
  obtain ⟨X, hX⟩ : ∃ X, w.heap.size = X := ⟨_, rfl⟩
  obtain ⟨wA, hA⟩ : ∃ wX, w.alloc (.cells #[.int .i64 d.tag, .string d.body] 37) = wX := ⟨_, rfl⟩
  obtain ⟨wB, hB⟩ : ∃ wX, wA.alloc (.cells #[.int .i64 0, .int .i64 0, .int .i64 0, .int .i64 0, .int .i64 0] 55) = wX := ⟨_, rfl⟩
  have hz : wA.heap.size = X + 1 := by rw [← hA, World.size_alloc, hX]
  have kA : Keeps w wA := by rw [← hA]; exact (Keeps.refl w).alloc _
  have kB : Keeps wA wB := by rw [← hB]; exact (Keeps.refl wA).alloc _
  have HX := Lib.hid (show CsAt X (dsC d) wB from CsAt.keeps (w := wA) (by rw [← hX, ← hA]; exact CsAt.made w #[.int .i64 d.tag, .string d.body] _ (by simp)) kB)
  have HD := Lib.hid (show CsAns w (X + 1) (plC zPl) wB from ⟨by rw [← hz, ← hB]; exact CsAt.made wA #[.int .i64 0, .int .i64 0, .int .i64 0, .int .i64 0, .int .i64 0] _ (by simp), kA.trans kB, by omega⟩)
  have HT := Lib.hid (hT.keeps (kA.trans kB))
  have HBY := Lib.hid (fun W => dbytes_any (ws := wsP) rfl (by decide) (n := 9) rfl W)
  have q0 := HX.out.cell 0 rfl
  clear kA kB hT
  have HF := Lib.hid (show rpl d = (zPl, 14) by unfold rpl; rw [if_pos h])
  obtain ⟨tag, body⟩ := d
  simp only at *
  have ht : (tag != 19) = true := bne_iff_ne.2 h
  clear h
  go_enter Tryd.func26, Tryd.ntmps26
  have HDZ := Lib.hid (HD.out.keeps (Keeps.refl wB))
  go_wp2_with (refine dwp_stPl (b := X + 1) (off := 0) zPl (HDZ.out.z.there (by decide)) rfl _ _ rfl rfl rfl ?_)
  refine cs_ret2 Tryd.results26 (dlvPl (HDZ.out.ends (plC zPl) rfl).z.r) rfl rfl rfl ?_
  exact ⟨(by rw [HF.out]; rfl), (HDZ.out.ends (plC zPl) rfl).k⟩
set_option maxHeartbeats 1600000 in
theorem erp_short (d : Dsc) (w : World) (hT : TP w) (h : d.tag = 19) (k : d.body.size < 9) : Calls Tryd.prog 26 #[dsV d] w (EpPost w (rpl d)) := by
  obtain ⟨X, hX⟩ : ∃ X, w.heap.size = X := ⟨_, rfl⟩
  obtain ⟨wA, hA⟩ : ∃ wX, w.alloc (.cells #[.int .i64 d.tag, .string d.body] 37) = wX := ⟨_, rfl⟩
  obtain ⟨wB, hB⟩ : ∃ wX, wA.alloc (.cells #[.int .i64 0, .int .i64 0, .int .i64 0, .int .i64 0, .int .i64 0] 55) = wX := ⟨_, rfl⟩
  have hz : wA.heap.size = X + 1 := by rw [← hA, World.size_alloc, hX]
  have kA : Keeps w wA := by rw [← hA]; exact (Keeps.refl w).alloc _
  have kB : Keeps wA wB := by rw [← hB]; exact (Keeps.refl wA).alloc _
  have HX := Lib.hid (show CsAt X (dsC d) wB from CsAt.keeps (w := wA) (by rw [← hX, ← hA]; exact CsAt.made w #[.int .i64 d.tag, .string d.body] _ (by simp)) kB)
  have HD := Lib.hid (show CsAns w (X + 1) (plC zPl) wB from ⟨by rw [← hz, ← hB]; exact CsAt.made wA #[.int .i64 0, .int .i64 0, .int .i64 0, .int .i64 0, .int .i64 0] _ (by simp), kA.trans kB, by omega⟩)
  have HT := Lib.hid (hT.keeps (kA.trans kB))
  have HBY := Lib.hid (fun W => dbytes_any (ws := wsP) rfl (by decide) (n := 9) rfl W)
  have q0 := HX.out.cell 0 rfl
  clear kA kB hT
  have HF := Lib.hid (show rpl d = (zPl, 10) by unfold rpl; rw [if_neg (fun x => x h), if_pos k])
  obtain ⟨tag, body⟩ := d
  simp only at *
  subst h
  have ht : (body.size : Int) < 9 := by omega
  clear k
  go_enter Tryd.func26, Tryd.ntmps26
  go_wp2
  refine wp_draw_tail 6 (by kernel_rfl) [.pointer (some ⟨X, 1, none⟩), .string body, .int .i64 (body.size : Int), nV (il wsP), .int .i64 9, .bool true]
    (fun _ W => Keeps wB W) rfl (by kernel_rfl) (by kernel_rfl) (fin := ?fin0) ?hfin0 ((Keeps.refl wB).eqv (Eqv.drew wB)) ?each0 ?hend0
  case hfin0 => simp [seqA, dstOf, Act.put]; rfl
  case each0 =>
    refine ⟨?_, ?_, ?_, ?_, ?_, ?_, trivial⟩
    all_goals intro L w5 h0 hd hs hw
    rotate_left 3
    · exact does_load _ _ rfl 1 0 rfl (nC (il wsP)) _ ((HT.out.keeps (Keeps.refl wB)).keeps hw).2 Tryd.underlying113 rfl (by kernel_rfl) ⟨fun _ => rfl, fun _ _ => hw⟩
    all_goals unfold Does
    all_goals have y1 := ((HX.out.keeps (Keeps.refl wB)).keeps hw).cell 1 rfl
    all_goals go_simp
    all_goals first | exact fun L' k => hw | (refine (HBY.out w5).mono ?_; rintro _ w6 ⟨rfl, k6⟩; exact ⟨_, rfl, rfl, fun _ _ => Keeps.trans hw k6⟩)
  case hend0 =>
  intro L w7 hL hw
  have HK7 := Lib.hid ((Keeps.refl wB).trans hw)
  simp only [List.drop_succ_cons, List.drop_zero]
  clear hw hL
  have HDZ := Lib.hid (HD.out.keeps HK7.out)
  go_wp2_with (refine dwp_stPl (b := X + 1) (off := 0) zPl (HDZ.out.z.there (by decide)) rfl _ _ rfl rfl rfl ?_)
  refine cs_ret2 Tryd.results26 (dlvPl (HDZ.out.ends (plC zPl) rfl).z.r) rfl rfl rfl ?_
  exact ⟨(by rw [HF.out]; rfl), (HDZ.out.ends (plC zPl) rfl).k⟩
set_option maxHeartbeats 1600000 in
theorem erp_long (d : Dsc) (w : World) (hT : TP w) (h : d.tag = 19) (k : ¬ d.body.size < 9) (l : 9 < d.body.size) : Calls Tryd.prog 26 #[dsV d] w (EpPost w (rpl d)) := by
  obtain ⟨X, hX⟩ : ∃ X, w.heap.size = X := ⟨_, rfl⟩
  obtain ⟨wA, hA⟩ : ∃ wX, w.alloc (.cells #[.int .i64 d.tag, .string d.body] 37) = wX := ⟨_, rfl⟩
  obtain ⟨wB, hB⟩ : ∃ wX, wA.alloc (.cells #[.int .i64 0, .int .i64 0, .int .i64 0, .int .i64 0, .int .i64 0] 55) = wX := ⟨_, rfl⟩
  have hz : wA.heap.size = X + 1 := by rw [← hA, World.size_alloc, hX]
  have kA : Keeps w wA := by rw [← hA]; exact (Keeps.refl w).alloc _
  have kB : Keeps wA wB := by rw [← hB]; exact (Keeps.refl wA).alloc _
  have HX := Lib.hid (show CsAt X (dsC d) wB from CsAt.keeps (w := wA) (by rw [← hX, ← hA]; exact CsAt.made w #[.int .i64 d.tag, .string d.body] _ (by simp)) kB)
  have HD := Lib.hid (show CsAns w (X + 1) (plC zPl) wB from ⟨by rw [← hz, ← hB]; exact CsAt.made wA #[.int .i64 0, .int .i64 0, .int .i64 0, .int .i64 0, .int .i64 0] _ (by simp), kA.trans kB, by omega⟩)
  have HT := Lib.hid (hT.keeps (kA.trans kB))
  have HBY := Lib.hid (fun W => dbytes_any (ws := wsP) rfl (by decide) (n := 9) rfl W)
  have q0 := HX.out.cell 0 rfl
  clear kA kB hT
  have HF := Lib.hid (show rpl d = (zPl, 11) by unfold rpl; rw [if_neg (fun x => x h), if_neg k, if_pos l])
  obtain ⟨tag, body⟩ := d
  simp only at *
  subst h
  have ht : ¬ (body.size : Int) < 9 := by omega
  have ht2 : (9 : Int) < (body.size : Int) := by omega
  clear k l
  go_enter Tryd.func26, Tryd.ntmps26
  go_wp2
  refine wp_draw_tail 6 (by kernel_rfl) [.pointer (some ⟨X, 1, none⟩), .string body, .int .i64 (body.size : Int), nV (il wsP), .int .i64 9, .bool false]
    (fun _ W => Keeps wB W) rfl (by kernel_rfl) (by kernel_rfl) (fin := ?fin0) ?hfin0 ((Keeps.refl wB).eqv (Eqv.drew wB)) ?each0 ?hend0
  case hfin0 => simp [seqA, dstOf, Act.put]; rfl
  case each0 =>
    refine ⟨?_, ?_, ?_, ?_, ?_, ?_, trivial⟩
    all_goals intro L w5 h0 hd hs hw
    rotate_left 3
    · exact does_load _ _ rfl 1 0 rfl (nC (il wsP)) _ ((HT.out.keeps (Keeps.refl wB)).keeps hw).2 Tryd.underlying113 rfl (by kernel_rfl) ⟨fun _ => rfl, fun _ _ => hw⟩
    all_goals unfold Does
    all_goals have y1 := ((HX.out.keeps (Keeps.refl wB)).keeps hw).cell 1 rfl
    all_goals go_simp
    all_goals first | exact fun L' k => hw | (refine (HBY.out w5).mono ?_; rintro _ w6 ⟨rfl, k6⟩; exact ⟨_, rfl, rfl, fun _ _ => Keeps.trans hw k6⟩)
  case hend0 =>
  intro L w7 hL hw
  have HK7 := Lib.hid ((Keeps.refl wB).trans hw)
  simp only [List.drop_succ_cons, List.drop_zero]
  clear hw hL
  go_wp2
  refine wp_draw_tail 6 (by kernel_rfl) [.pointer (some ⟨X, 1, none⟩), .string body, .int .i64 (body.size : Int), nV (il wsP), .int .i64 9, .bool true]
    (fun _ W => Keeps w7 W) rfl (by kernel_rfl) (by kernel_rfl) (fin := ?fin1) ?hfin1 ((Keeps.refl w7).eqv (Eqv.drew w7)) ?each1 ?hend1
  case hfin1 => simp [seqA, dstOf, Act.put]; rfl
  case each1 =>
    refine ⟨?_, ?_, ?_, ?_, ?_, ?_, trivial⟩
    all_goals intro L w5 h0 hd hs hw
    rotate_left 3
    · exact does_load _ _ rfl 1 0 rfl (nC (il wsP)) _ ((HT.out.keeps HK7.out).keeps hw).2 Tryd.underlying113 rfl (by kernel_rfl) ⟨fun _ => rfl, fun _ _ => hw⟩
    all_goals unfold Does
    all_goals have y1 := ((HX.out.keeps HK7.out).keeps hw).cell 1 rfl
    all_goals go_simp
    all_goals first | exact fun L' k => hw | (refine (HBY.out w5).mono ?_; rintro _ w6 ⟨rfl, k6⟩; exact ⟨_, rfl, rfl, fun _ _ => Keeps.trans hw k6⟩)
  case hend1 =>
  intro L w8 hL hw
  have HK8 := Lib.hid (HK7.out.trans hw)
  simp only [List.drop_succ_cons, List.drop_zero]
  clear hw hL
  have HDZ := Lib.hid (HD.out.keeps HK8.out)
  go_wp2_with (refine dwp_stPl (b := X + 1) (off := 0) zPl (HDZ.out.z.there (by decide)) rfl _ _ rfl rfl rfl ?_)
  refine cs_ret2 Tryd.results26 (dlvPl (HDZ.out.ends (plC zPl) rfl).z.r) rfl rfl rfl ?_
  exact ⟨(by rw [HF.out]; rfl), (HDZ.out.ends (plC zPl) rfl).k⟩
set_option maxHeartbeats 3200000 in
theorem erp_ok (d : Dsc) (w : World) (hT : TP w) (h : d.tag = 19) (k : ¬ d.body.size < 9) (l : ¬ 9 < d.body.size) : Calls Tryd.prog 26 #[dsV d] w (EpPost w (rpl d)) := by
  obtain ⟨X, hX⟩ : ∃ X, w.heap.size = X := ⟨_, rfl⟩
  obtain ⟨wA, hA⟩ : ∃ wX, w.alloc (.cells #[.int .i64 d.tag, .string d.body] 37) = wX := ⟨_, rfl⟩
  obtain ⟨wB, hB⟩ : ∃ wX, wA.alloc (.cells #[.int .i64 0, .int .i64 0, .int .i64 0, .int .i64 0, .int .i64 0] 55) = wX := ⟨_, rfl⟩
  have hz : wA.heap.size = X + 1 := by rw [← hA, World.size_alloc, hX]
  have kA : Keeps w wA := by rw [← hA]; exact (Keeps.refl w).alloc _
  have kB : Keeps wA wB := by rw [← hB]; exact (Keeps.refl wA).alloc _
  have HX := Lib.hid (show CsAt X (dsC d) wB from CsAt.keeps (w := wA) (by rw [← hX, ← hA]; exact CsAt.made w #[.int .i64 d.tag, .string d.body] _ (by simp)) kB)
  have HD := Lib.hid (show CsAns w (X + 1) (plC zPl) wB from ⟨by rw [← hz, ← hB]; exact CsAt.made wA #[.int .i64 0, .int .i64 0, .int .i64 0, .int .i64 0, .int .i64 0] _ (by simp), kA.trans kB, by omega⟩)
  have HT := Lib.hid (hT.keeps (kA.trans kB))
  have HBY := Lib.hid (fun W => dbytes_any (ws := wsP) rfl (by decide) (n := 9) rfl W)
  have q0 := HX.out.cell 0 rfl
  clear kA kB hT
  have HF := (show rpl d = (rdPl (ls d.body), 0) by unfold rpl; rw [if_neg (fun x => x h), if_neg k, if_neg l])
  obtain ⟨tag, body⟩ := d
  simp only at *
  subst h
  have ht : ¬ (body.size : Int) < 9 := by omega
  have ht2 : ¬ (9 : Int) < (body.size : Int) := by omega
  have HRD := Lib.hid (fun W => dread_any (ws := wsP) rfl gn_P rfl (by decide) (S := body) (by show 72 / 8 ≤ body.size; omega) (by omega) W)
  obtain ⟨c0, c1, c2, c3, c4, c5, c6, c7, c8, hl⟩ := nine_of (l := ls body) (by rw [← ls_size]; omega)
  rw [hl, rdP] at HRD
  rw [hl] at HF
  obtain ⟨n0, hn0⟩ : ∃ n, 256 * c0.toNat + c1.toNat = n := ⟨_, rfl⟩
  obtain ⟨n1, hn1⟩ : ∃ n, 256 * c2.toNat + c3.toNat = n := ⟨_, rfl⟩
  obtain ⟨n2, hn2⟩ : ∃ n, 256 * c4.toNat + c5.toNat = n := ⟨_, rfl⟩
  obtain ⟨n3, hn3⟩ : ∃ n, 256 * c6.toNat + c7.toNat = n := ⟨_, rfl⟩
  obtain ⟨n4, hn4⟩ : ∃ n, c8.toNat = n := ⟨_, rfl⟩
  have hQ : rdPl [c0, c1, c2, c3, c4, c5, c6, c7, c8] = ⟨(n0 : Int), (n1 : Int), (n2 : Int), (n3 : Int), (n4 : Int)⟩ := by
    rw [← hn0, ← hn1, ← hn2, ← hn3, ← hn4]; rfl
  rw [hn0, hn1, hn2, hn3, hn4] at HRD
  rw [hQ] at HF
  replace HF := Lib.hid HF
  clear hn0 hn1 hn2 hn3 hn4 hl hQ k l
  go_enter Tryd.func26, Tryd.ntmps26
  go_wp2
  refine wp_draw_tail 6 (by kernel_rfl) [.pointer (some ⟨X, 1, none⟩), .string body, .int .i64 (body.size : Int), nV (il wsP), .int .i64 9, .bool false]
    (fun _ W => Keeps wB W) rfl (by kernel_rfl) (by kernel_rfl) (fin := ?fin0) ?hfin0 ((Keeps.refl wB).eqv (Eqv.drew wB)) ?each0 ?hend0
  case hfin0 => simp [seqA, dstOf, Act.put]; rfl
  case each0 =>
    refine ⟨?_, ?_, ?_, ?_, ?_, ?_, trivial⟩
    all_goals intro L w5 h0 hd hs hw
    rotate_left 3
    · exact does_load _ _ rfl 1 0 rfl (nC (il wsP)) _ ((HT.out.keeps (Keeps.refl wB)).keeps hw).2 Tryd.underlying113 rfl (by kernel_rfl) ⟨fun _ => rfl, fun _ _ => hw⟩
    all_goals unfold Does
    all_goals have y1 := ((HX.out.keeps (Keeps.refl wB)).keeps hw).cell 1 rfl
    all_goals go_simp
    all_goals first | exact fun L' k => hw | (refine (HBY.out w5).mono ?_; rintro _ w6 ⟨rfl, k6⟩; exact ⟨_, rfl, rfl, fun _ _ => Keeps.trans hw k6⟩)
  case hend0 =>
  intro L w7 hL hw
  have HK7 := Lib.hid ((Keeps.refl wB).trans hw)
  simp only [List.drop_succ_cons, List.drop_zero]
  clear hw hL
  go_wp2
  refine wp_draw_tail 6 (by kernel_rfl) [.pointer (some ⟨X, 1, none⟩), .string body, .int .i64 (body.size : Int), nV (il wsP), .int .i64 9, .bool false]
    (fun _ W => Keeps w7 W) rfl (by kernel_rfl) (by kernel_rfl) (fin := ?fin1) ?hfin1 ((Keeps.refl w7).eqv (Eqv.drew w7)) ?each1 ?hend1
  case hfin1 => simp [seqA, dstOf, Act.put]; rfl
  case each1 =>
    refine ⟨?_, ?_, ?_, ?_, ?_, ?_, trivial⟩
    all_goals intro L w5 h0 hd hs hw
    rotate_left 3
    · exact does_load _ _ rfl 1 0 rfl (nC (il wsP)) _ ((HT.out.keeps HK7.out).keeps hw).2 Tryd.underlying113 rfl (by kernel_rfl) ⟨fun _ => rfl, fun _ _ => hw⟩
    all_goals unfold Does
    all_goals have y1 := ((HX.out.keeps HK7.out).keeps hw).cell 1 rfl
    all_goals go_simp
    all_goals first | exact fun L' k => hw | (refine (HBY.out w5).mono ?_; rintro _ w6 ⟨rfl, k6⟩; exact ⟨_, rfl, rfl, fun _ _ => Keeps.trans hw k6⟩)
  case hend1 =>
  intro L w8 hL hw
  have HK8 := Lib.hid (HK7.out.trans hw)
  simp only [List.drop_succ_cons, List.drop_zero]
  clear hw hL
  have HX8 := Lib.hid (HX.out.keeps HK8.out)
  have HD8 := Lib.hid (HD.out.keeps HK8.out)
  have HT8 := Lib.hid (HT.out.keeps HK8.out)
  have q1 := HX8.out.cell 1 rfl
  go_wp2_with (first | (refine dwp_ldG (g := 1) (l := wsP) HT8.out rfl _ rfl rfl ?_) | (go_at_call 50; refine (HRD.out _).mono ?_; rintro _ w2 ⟨rfl, k2⟩; have HD2 := Lib.hid (HD8.out.keeps k2); obtain ⟨Y, hY⟩ : ∃ Y, w2.heap.size = Y := ⟨_, rfl⟩; obtain ⟨wC, hC⟩ : ∃ W, w2.alloc (.cells #[.int .i64 0, .int .i64 0, .int .i64 0, .int .i64 0, .int .i64 0, .int .i64 0, .int .i64 0, .int .i64 0, .int .i64 0] 111) = W := ⟨_, rfl⟩; have HC := Lib.hid (show CsAns w2 Y (nC [0, 0, 0, 0, 0, 0, 0, 0, 0]) wC from ⟨by rw [← hY, ← hC]; exact CsAt.made w2 #[.int .i64 0, .int .i64 0, .int .i64 0, .int .i64 0, .int .i64 0, .int .i64 0, .int .i64 0, .int .i64 0, .int .i64 0] _ (by simp), by rw [← hC]; exact (Keeps.refl w2).alloc _, by omega⟩); clear k2 q0 q1) | (refine wp_stN (b := Y) HC.out.z rfl (nC [(n0 : Int), (n1 : Int), (n2 : Int), (n3 : Int), (n4 : Int), 0, 0, 0, 0]) rfl (nC_one _) rfl _ _ rfl rfl rfl ?_; obtain ⟨wD, hD⟩ : ∃ W, wC.setCells Y 0 (nC [(n0 : Int), (n1 : Int), (n2 : Int), (n3 : Int), (n4 : Int), 0, 0, 0, 0]) = W := ⟨_, rfl⟩; have hcD := HC.out.ends (nC [(n0 : Int), (n1 : Int), (n2 : Int), (n3 : Int), (n4 : Int), 0, 0, 0, 0]) rfl; rw [hD] at hcD ⊢; have HCD := hcD.z; have HDZ := Lib.hid (HD2.out.keeps hcD.k); have z0 := HCD.cell 0 rfl; have z1 := HCD.cell 1 rfl; have z2 := HCD.cell 2 rfl; have z3 := HCD.cell 3 rfl; have z4 := HCD.cell 4 rfl; clear hcD hD hC hY HCD) | (refine dwp_stPl (b := X + 1) (off := 0) ⟨(n0 : Int), (n1 : Int), (n2 : Int), (n3 : Int), (n4 : Int)⟩ (HDZ.out.z.there (by decide)) rfl _ _ rfl rfl rfl ?_))
  refine cs_ret2 Tryd.results26 (dlvPl (s := ⟨(n0 : Int), (n1 : Int), (n2 : Int), (n3 : Int), (n4 : Int)⟩) (HDZ.out.ends (plC ⟨(n0 : Int), (n1 : Int), (n2 : Int), (n3 : Int), (n4 : Int)⟩) rfl).z.r) rfl rfl rfl ?_
  exact ⟨(by rw [HF.out]; rfl), (HDZ.out.ends (plC ⟨(n0 : Int), (n1 : Int), (n2 : Int), (n3 : Int), (n4 : Int)⟩) rfl).k⟩
theorem erp_any (d : Dsc) (w : World) (hT : TP w) : Calls Tryd.prog 26 #[dsV d] w (EpPost w (rpl d)) := by
  by_cases h : d.tag = 19
  · by_cases k : d.body.size < 9
    · exact erp_short d w hT h k
    · by_cases l : 9 < d.body.size
      · exact erp_long d w hT h k l
      · exact erp_ok d w hT h k l
  · exact erp_kind d w hT h
end Go.Proofs.YtlghkdkaifcliaaDoor
