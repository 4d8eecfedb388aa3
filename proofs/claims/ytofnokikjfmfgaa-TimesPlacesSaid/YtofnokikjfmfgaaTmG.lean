/-
  What kept, Check and bit of package times answer, and the document's Check, Number, Bytes and Of. The memory that was there stays.
-/
import Derived.Test.YtofnokikjfmfgaaTmV
namespace Go.Proofs.Ytofnokikjfmfgaa
open Go.RowKit Gf Tm
set_option maxRecDepth 100000
def TmPost (w0 : World) (s : Tms) (e : Ending) (w' : World) : Prop := e = .returned (tmV s) ∧ Keeps w0 w'
theorem tmkept_any (s : Tms) (w : World) : Calls Try.prog 40 #[tmV s] w (TmPost w (kpT s)) := by
  obtain ⟨dt, tb, fr, ad⟩ := s
  have m1 : bits .and .i64 dt 4095 = dt % 4096 := mask_any 12 (by decide) dt rfl
  have m2 : bits .and .i64 ad 262143 = ad % 262144 := mask_any 18 (by decide) ad rfl
  go_enter Try.func40, Try.ntmps40
  go_wp2
  exact bodyPost_ret (v := tmV (kpT ⟨dt, tb, fr, ad⟩)) (by simp [results, Try.results40, go_sem]; exact ⟨rfl, rfl, rfl, rfl⟩) rfl ⟨rfl, ((Keeps.refl w).alloc _).alloc _⟩
theorem tmbit_any (b : Bool) (w : World) : Calls Try.prog 38 #[.bool b] w fun e w' => e = .returned (.int .u64 (bv b : Int)) ∧ w = w' := by
  cases b
  all_goals
    go_enter Try.func38, Try.ntmps38
    go_wp2
    go_ret
    exact ⟨rfl, rfl⟩
theorem rtmcheck_any (s : Tms) (b : Bool) (h : decide (okT s) = b) (w : World) : Calls Try.prog 16 #[tmV s] w fun e w' => e = .returned (.bool b) ∧ Keeps w w' := by
  subst h
  obtain ⟨dt, tb, fr, ad⟩ := s
  by_cases h1 : 0 ≤ dt
  · by_cases h2 : dt ≤ 4095
    · by_cases h3 : 0 ≤ ad
      · by_cases h4 : ad ≤ 262143
        · rw [decide_eq_true (show okT ⟨dt, tb, fr, ad⟩ from ⟨⟨h1, h2⟩, h3, h4⟩)]
          go_enter Try.func16, Try.ntmps16
          go_wp2
          go_ret
          exact ⟨rfl, (Keeps.refl w).alloc _⟩
        · rw [decide_eq_false (show ¬ okT ⟨dt, tb, fr, ad⟩ from fun x => h4 x.2.2)]
          go_enter Try.func16, Try.ntmps16
          go_wp2
          go_ret
          exact ⟨rfl, (Keeps.refl w).alloc _⟩
      · rw [decide_eq_false (show ¬ okT ⟨dt, tb, fr, ad⟩ from fun x => h3 x.2.1)]
        go_enter Try.func16, Try.ntmps16
        go_wp2
        go_ret
        exact ⟨rfl, (Keeps.refl w).alloc _⟩
    · rw [decide_eq_false (show ¬ okT ⟨dt, tb, fr, ad⟩ from fun x => h2 x.1.2)]
      go_enter Try.func16, Try.ntmps16
      go_wp2
      go_ret
      exact ⟨rfl, (Keeps.refl w).alloc _⟩
  · rw [decide_eq_false (show ¬ okT ⟨dt, tb, fr, ad⟩ from fun x => h1 x.1.1)]
    go_enter Try.func16, Try.ntmps16
    go_wp2
    go_ret
    exact ⟨rfl, (Keeps.refl w).alloc _⟩
def TckPost (w0 : World) (n : Int) (e : Ending) (w' : World) : Prop := e = .returned (.int .i64 n) ∧ Keeps w0 w'
set_option maxHeartbeats 1600000 in
theorem tmcheck_any (w0 : World) (s : Tms) (w : World) (hk : Keeps w0 w) : Calls Try.prog 17 #[tmV s] w (TckPost w0 (ckT s)) := by
  have h1 := TmAt.made w s 34
  obtain ⟨b, hb⟩ : ∃ b, w.heap.size = b := ⟨_, rfl⟩
  obtain ⟨wA, hA⟩ : ∃ wA, w.alloc (.cells #[.int .i64 s.dt, .bool s.tb, .bool s.fr, .int .i64 s.ad] 34) = wA := ⟨_, rfl⟩
  have hkA : Keeps w0 wA := by rw [← hA]; exact hk.alloc _
  rw [hA, hb] at h1
  have HS := Lib.hid h1
  have HK := Lib.hid hkA
  have HKP := Lib.hid (fun W => tmkept_any s W)
  unfold TmPost at HKP
  have hne : ∀ W, (binOp .neq 34 (tmV (kpT s)) (tmV s)).run Try.prog W = .ok (.bool (!sameT (kpT s) s)) W := fun W => neT
  have heg := egT
  have HC : Hid (ckT s = if sameT (kpT s) s then 0 else 15) := Lib.hid (by
    by_cases h : okT s
    · rw [ckT_ok h, kpT_iff.2 h, sameT_self]; rfl
    · rw [ckT_no h, sameT_no (fun e => h (kpT_iff.1 e))]; rfl)
  obtain ⟨B, hB⟩ : ∃ B, sameT (kpT s) s = B := ⟨_, rfl⟩
  rw [hB] at HC
  simp only [hB] at hne
  obtain ⟨kp, hkp⟩ : ∃ kp, kpT s = kp := ⟨_, rfl⟩
  rw [hkp] at HKP
  simp only [hkp] at hne
  clear h1 hkA hk hB hkp
  obtain ⟨q0, q1, q2, q3, _⟩ := HS.out
  obtain ⟨dt, tb, fr, ad⟩ := s
  obtain ⟨kd, kt, kf, ka⟩ := kp
  simp only at hA q0 q1 q2 q3 hne
  go_enter Try.func17, Try.ntmps17
  go_wp2
  refine wp_draw (by kernel_rfl) [tmV ⟨dt, tb, fr, ad⟩, tmV ⟨kd, kt, kf, ka⟩, tmV ⟨dt, tb, fr, ad⟩, .bool (!B)]
    (fun _ W => Keeps wA W) rfl (by kernel_rfl) (fin := ?fin) ?hfin ((Keeps.refl wA).eqv (Eqv.drew wA)) ?each ?hend
  case hfin => simp [seqA, dstOf, Act.put]; rfl
  case each =>
    refine ⟨?_, ?_, ?_, ?_, trivial⟩
    all_goals intro X w6 h0 hd hs hw
    all_goals unfold Does
    all_goals obtain ⟨q0, q1, q2, q3, _⟩ := HS.out.keeps hw
    all_goals go_simp
    all_goals first
      | exact fun L' k => hw
      | ((with_reducible refine (HKP.out w6).mono ?_); rintro e w8 ⟨rfl, k8⟩; exact ⟨_, rfl, rfl, fun _ _ => hw.trans k8⟩)
  case hend =>
  intro X w6 hL hw
  have HKE := Lib.hid (HK.out.trans hw)
  clear hw hL
  cases B
  · go_wp2
    go_ret
    exact ⟨by rw [HC.out]; rfl, HKE.out⟩
  · go_wp2
    go_ret
    exact ⟨by rw [HC.out]; rfl, HKE.out⟩
def nbI (s : Tms) : Int := s.dt * 1048576 + s.ad + (bv s.tb : Int) * 524288 + (bv s.fr : Int) * 262144
theorem nbI_nbr {s : Tms} (h : okT s) : nbI s = (nbr s : Int) := by
  unfold okT at h; unfold nbI nbr; omega
theorem rtmnumber_any (s : Tms) (h : okT s) (w : World) : Calls Try.prog 41 #[tmV s] w fun e w' => e = .returned (.int .i64 (nbI s)) ∧ Keeps w w' := by
  obtain ⟨dt, tb, fr, ad⟩ := s
  obtain ⟨⟨h1, h2⟩, h3, h4⟩ := h
  simp only at h1 h2 h3 h4
  have w1 := wrapI (a := dt * 1048576) (by omega) (by omega)
  have w2 := wrapI (a := dt * 1048576 + ad) (by omega) (by omega)
  have w3 := wrapI (a := dt * 1048576 + ad + 524288) (by omega) (by omega)
  have w4 := wrapI (a := dt * 1048576 + ad + 524288 + 262144) (by omega) (by omega)
  have w5 := wrapI (a := dt * 1048576 + ad + 262144) (by omega) (by omega)
  cases tb <;> cases fr
  all_goals
    go_enter Try.func41, Try.ntmps41
    go_wp2
    go_ret
    refine ⟨?_, (Keeps.refl w).alloc _⟩
    have hb1 : (bv true : Int) = 1 := rfl
    have hb0 : (bv false : Int) = 0 := rfl
    exact congrArg (fun n => Ending.returned (Value.int .i64 n)) (by simp only [nbI, hb0, hb1]; omega)
/-- The four bytes of a number, as the document takes them off. -/
theorem by4_int {n : Nat} (h : n < 4294967296) : ∃ x0 x1 x2 x3 : UInt8, by4 n = [x0, x1, x2, x3] ∧ (n : Int) / 16777216 = (x0.toNat : Int) ∧ (n : Int) / 65536 % 256 = (x1.toNat : Int) ∧ (n : Int) / 256 % 256 = (x2.toNat : Int) ∧ (n : Int) % 256 = (x3.toNat : Int) := by
  refine ⟨_, _, _, _, rfl, ?_, ?_, ?_, ?_⟩
  all_goals rw [w8_nat (by omega)]; omega
/-- A literal of four bytes, as a text. -/
theorem text4 (x0 x1 x2 x3 : UInt8) (W : World) : (convert 44 9 (.slice (some ⟨W.heap.size, 0, none⟩) 4 4)).run Try.prog (W.alloc (.cells #[.int .u8 (x0.toNat : Int), .int .u8 (x1.toNat : Int), .int .u8 (x2.toNat : Int), .int .u8 (x3.toNat : Int)] 5)) =
    .ok (.string (st [x0, x1, x2, x3])) (W.alloc (.cells #[.int .u8 (x0.toNat : Int), .int .u8 (x1.toNat : Int), .int .u8 (x2.toNat : Int), .int .u8 (x3.toNat : Int)] 5)) :=
  Own.text (l := [x0, x1, x2, x3]) (base := W.heap.size) (show Own (W.alloc (.cells #[B x0, B x1, B x2, B x3] 5)) W.heap.size (.slice (some ⟨W.heap.size, 0, none⟩) 4 4) [x0, x1, x2, x3] from World.ownsRow_lit W #[B x0, B x1, B x2, B x3] 4 (Nat.le_refl _) (by unfold maxLen; omega) rfl)
set_option maxHeartbeats 1600000 in
theorem rtmbytes_any (s : Tms) (h : okT s) (w : World) : Calls Try.prog 18 #[tmV s] w fun e w' => e = .returned (.string (st (by4 (nbr s)))) ∧ Keeps w w' := by
  have HN := Lib.hid (rtmnumber_any s h)
  rw [nbI_nbr h] at HN
  have hlt := nbr_lt h
  obtain ⟨x0, x1, x2, x3, e0, e1, e2, e3, e4⟩ := by4_int hlt
  rw [e0]
  obtain ⟨N, hN⟩ : ∃ N : Int, (nbr s : Int) = N := ⟨_, rfl⟩
  have hN0 : 0 ≤ N := by omega
  have hN1 : N < 4294967296 := by omega
  rw [hN] at HN e1 e2 e3 e4
  have k1 : N / 65536 < 65536 := by omega
  have k2 : N / 256 < 16777216 := by omega
  obtain ⟨m1, g1⟩ : ∃ m, N / 65536 = m := ⟨_, rfl⟩
  obtain ⟨m2, g2⟩ : ∃ m, N / 256 = m := ⟨_, rfl⟩
  rw [g1] at e2 k1
  rw [g2] at e3 k2
  have m10 : 0 ≤ m1 := by omega
  have m20 : 0 ≤ m2 := by omega
  have t1 : N.tdiv 16777216 = (x0.toNat : Int) := by rw [Int.tdiv_eq_ediv_of_nonneg hN0, e1]
  have t2 : N.tdiv 65536 = m1 := by rw [Int.tdiv_eq_ediv_of_nonneg hN0, g1]
  have t3 : N.tdiv 256 = m2 := by rw [Int.tdiv_eq_ediv_of_nonneg hN0, g2]
  have t4 : m1.tmod 256 = (x1.toNat : Int) := by rw [Int.tmod_eq_emod_of_nonneg m10, e2]
  have t5 : m2.tmod 256 = (x2.toNat : Int) := by rw [Int.tmod_eq_emod_of_nonneg m20, e3]
  have t6 : N.tmod 256 = (x3.toNat : Int) := by rw [Int.tmod_eq_emod_of_nonneg hN0, e4]
  have b0 := x0.toNat_lt
  have b1 := x1.toNat_lt
  have b2 := x2.toNat_lt
  have b3 := x3.toNat_lt
  have wr1 := wrapI (a := m1) (by omega) (by omega)
  have wr2 := wrapI (a := m2) (by omega) (by omega)
  have u0 : IntKind.u8.wrap (x0.toNat : Int) = (x0.toNat : Int) := by rw [IntKind.wrap_u8']; omega
  have u1 : IntKind.u8.wrap (x1.toNat : Int) = (x1.toNat : Int) := by rw [IntKind.wrap_u8']; omega
  have u2 : IntKind.u8.wrap (x2.toNat : Int) = (x2.toNat : Int) := by rw [IntKind.wrap_u8']; omega
  have u3 : IntKind.u8.wrap (x3.toNat : Int) = (x3.toNat : Int) := by rw [IntKind.wrap_u8']; omega
  have ht := text4 x0 x1 x2 x3
  obtain ⟨S, hS⟩ : ∃ S, st [x0, x1, x2, x3] = S := ⟨_, rfl⟩
  rw [hS] at ht ⊢
  clear h hlt e0 hN k1 k2 hS
  obtain ⟨dt, tb, fr, ad⟩ := s
  go_enter Try.func18, Try.ntmps18
  go_wp2_with (go_at_call 41; refine (HN.out _).mono ?_; rintro _ w2 ⟨rfl, k2⟩)
  go_ret
  exact ⟨rfl, (((Keeps.refl w).alloc _).trans k2).alloc _⟩
theorem four_bytes {s : ByteArray} (h : s.size = 4) : ∃ a b c d : UInt8, s = ⟨#[a, b, c, d]⟩ := by
  obtain ⟨⟨l⟩⟩ := s
  obtain ⟨a, b, c, d, e⟩ := four_of (show l.length = 4 from h)
  exact ⟨a, b, c, d, by rw [e]⟩
theorem ofN_int {n : Nat} {N m1 m2 m3 m4 : Int} (hN : N = (n : Int)) (h1 : m1 = N / 1048576) (h2 : m2 = N / 524288 % 2) (h3 : m3 = N / 262144 % 2) (h4 : m4 = N % 262144) : ofN n = ⟨m1, m2 == 1, m3 == 1, m4⟩ := by
  subst hN
  have d : ∀ (k : Nat) (K : Int), K = (k : Int) → decide (k = 1) = (K == 1) := by
    intro k K h
    subst h
    by_cases e : k = 1
    · subst e; rfl
    · rw [decide_eq_false e]; symm; rw [beq_eq_false_iff_ne]; omega
  refine tms_ext (by show ((n / 1048576 : Nat) : Int) = m1; omega) ?_ ?_ (by show ((n % 262144 : Nat) : Int) = m4; omega)
  · exact d _ _ (by rw [h2]; omega)
  · exact d _ _ (by rw [h3]; omega)
/-- The end of a function that answers times, in a cell. -/
theorem tm_ret {W : World} {a : Act} {fn : Func} {T : TypeId} {b : Nat} {s : Tms} {Q : Ending → World → Prop} (hres : fn.results = #[.cell 2 T])
    (hl : (loadVar T ⟨b, 0, none⟩).run Try.prog W = .ok (tmV s) W) (h2 : a.tmps.getD 2 undef = .pointer (some ⟨b, 0, none⟩)) (hd : a.defers = [])
    (h : Q (.returned (tmV s)) W) : bodyPost Try.prog fn Q Exit.ret a W := by
  have h2' : a.tmps[2]?.getD undef = .pointer (some ⟨b, 0, none⟩) := by rw [← h2, Array.getD_eq_getD_getElem?]
  exact bodyPost_ret (v := tmV s) (by simp only [results, hres]; simp [asAddr, h2', hl]) hd h
/-- The end of a function that answers times (in a cell) and an error. -/
theorem tm_ret2 {W : World} {a : Act} {fn : Func} {T : TypeId} {b : Nat} {s : Tms} {n : Int} {Q : Ending → World → Prop} (hres : fn.results = #[.cell 2 T, .tmp 3])
    (hl : (loadVar T ⟨b, 0, none⟩).run Try.prog W = .ok (tmV s) W) (h2 : a.tmps.getD 2 undef = .pointer (some ⟨b, 0, none⟩)) (h3 : a.tmps.getD 3 undef = .int .i64 n) (hd : a.defers = [])
    (h : Q (.returned (.tuple #[tmV s, .int .i64 n])) W) : bodyPost Try.prog fn Q Exit.ret a W := by
  have h2' : a.tmps[2]?.getD undef = .pointer (some ⟨b, 0, none⟩) := by rw [← h2, Array.getD_eq_getD_getElem?]
  have h3' : a.tmps[3]?.getD undef = .int .i64 n := by rw [← h3, Array.getD_eq_getD_getElem?]
  exact bodyPost_ret (v := .tuple #[tmV s, .int .i64 n]) (by simp only [results, hres]; simp [Result.andThen, asAddr, h2', h3', hl]) hd h
set_option maxHeartbeats 1600000 in
theorem rtmof_any (s : ByteArray) (h : s.size = 4) (w : World) : Calls Try.prog 20 #[.string s] w (TmPost w (ofN (n4 (ls s)))) := by
  obtain ⟨a, b, c, d, rfl⟩ := four_bytes h
  have e : (n4 (ls ⟨#[a, b, c, d]⟩) : Int) = (((a.toNat : Int) * 256 + (b.toNat : Int)) * 256 + (c.toNat : Int)) * 256 + (d.toNat : Int) := by
    have : n4 (ls ⟨#[a, b, c, d]⟩) = ((a.toNat * 256 + b.toNat) * 256 + c.toNat) * 256 + d.toNat := rfl
    omega
  have a0 := a.toNat_lt
  have b0 := b.toNat_lt
  have c0 := c.toNat_lt
  have d0 := d.toNat_lt
  obtain ⟨A, hA⟩ : ∃ A : Int, (a.toNat : Int) = A := ⟨_, rfl⟩
  obtain ⟨B, hB⟩ : ∃ B : Int, (b.toNat : Int) = B := ⟨_, rfl⟩
  obtain ⟨C, hC⟩ : ∃ C : Int, (c.toNat : Int) = C := ⟨_, rfl⟩
  obtain ⟨D, hD⟩ : ∃ D : Int, (d.toNat : Int) = D := ⟨_, rfl⟩
  rw [hA, hB, hC, hD] at e
  have hA2 : 0 ≤ A ∧ A ≤ 255 := by omega
  have hB2 : 0 ≤ B ∧ B ≤ 255 := by omega
  have hC2 : 0 ≤ C ∧ C ≤ 255 := by omega
  have hD2 : 0 ≤ D ∧ D ≤ 255 := by omega
  obtain ⟨N, hN⟩ : ∃ N : Int, N = ((A * 256 + B) * 256 + C) * 256 + D := ⟨_, rfl⟩
  have hN2 : 0 ≤ N ∧ N < 4294967296 := by omega
  obtain ⟨m1, g1⟩ : ∃ m, m = N / 1048576 := ⟨_, rfl⟩
  obtain ⟨q2, g2⟩ : ∃ m, m = N / 524288 := ⟨_, rfl⟩
  obtain ⟨q3, g3⟩ : ∃ m, m = N / 262144 := ⟨_, rfl⟩
  obtain ⟨m2, g4⟩ : ∃ m, m = q2 % 2 := ⟨_, rfl⟩
  obtain ⟨m3, g5⟩ : ∃ m, m = q3 % 2 := ⟨_, rfl⟩
  obtain ⟨m4, g6⟩ : ∃ m, m = N % 262144 := ⟨_, rfl⟩
  have HE := Lib.hid (ofN_int (n := n4 (ls ⟨#[a, b, c, d]⟩)) (N := N) (m1 := m1) (m2 := m2) (m3 := m3) (m4 := m4) (by omega) g1 (by rw [g4, g2]) (by rw [g5, g3]) g6)
  obtain ⟨P1, p1⟩ : ∃ P, A * 256 + B = P := ⟨_, rfl⟩
  obtain ⟨P2, p2⟩ : ∃ P, P1 * 256 + C = P := ⟨_, rfl⟩
  have p3 : P2 * 256 + D = N := by omega
  have wa := wrapI (a := A) (by omega) (by omega)
  have wb := wrapI (a := B) (by omega) (by omega)
  have wc := wrapI (a := C) (by omega) (by omega)
  have wd := wrapI (a := D) (by omega) (by omega)
  have w1 := wrapI (a := A * 256) (by omega) (by omega)
  have w2 := wrapI (a := P1) (by omega) (by omega)
  have w3 := wrapI (a := P1 * 256) (by omega) (by omega)
  have w4 := wrapI (a := P2) (by omega) (by omega)
  have w5 := wrapI (a := P2 * 256) (by omega) (by omega)
  have w6 := wrapI (a := N) (by omega) (by omega)
  have v1 := wrapI (a := m1) (by omega) (by omega)
  have v2 := wrapI (a := q2) (by omega) (by omega)
  have v3 := wrapI (a := q3) (by omega) (by omega)
  have q20 : 0 ≤ q2 := by omega
  have q30 : 0 ≤ q3 := by omega
  have t1 : N.tdiv 1048576 = m1 := by rw [Int.tdiv_eq_ediv_of_nonneg hN2.1, g1]
  have t2 : N.tdiv 524288 = q2 := by rw [Int.tdiv_eq_ediv_of_nonneg hN2.1, g2]
  have t3 : N.tdiv 262144 = q3 := by rw [Int.tdiv_eq_ediv_of_nonneg hN2.1, g3]
  have t4 : q2.tmod 2 = m2 := by rw [Int.tmod_eq_emod_of_nonneg q20, g4]
  have t5 : q3.tmod 2 = m3 := by rw [Int.tmod_eq_emod_of_nonneg q30, g5]
  have t6 : N.tmod 262144 = m4 := by rw [Int.tmod_eq_emod_of_nonneg hN2.1, g6]
  have s1 : N / 1048576 = m1 := g1.symm
  have s2 : N / 524288 = q2 := g2.symm
  have s3 : N / 262144 = q3 := g3.symm
  have s4 : q2 % 2 = m2 := g4.symm
  have s5 : q3 % 2 = m3 := g5.symm
  have s6 : N % 262144 = m4 := g6.symm
  obtain ⟨wA, hwA⟩ : ∃ wA, w.alloc (.cells #[.int .i64 0, .bool false, .bool false, .int .i64 0] 34) = wA := ⟨_, rfl⟩
  have hat : TmAt w.heap.size zt wA := by rw [← hwA]; exact TmAt.made w zt 34
  have HKA := Lib.hid (show Keeps w wA by rw [← hwA]; exact (Keeps.refl w).alloc _)
  have HAT := Lib.hid hat
  have HHS := Lib.hid (Nat.le_refl w.heap.size)
  clear e hN a0 b0 c0 d0 g1 g2 g3 g4 g5 g6 hat
  go_enter Try.func20, Try.ntmps20
  go_wp2
  refine wp_draw (by kernel_rfl) [.string ⟨#[a, b, c, d]⟩, .int .u8 A, .int .i64 A, .int .i64 (A * 256), .string ⟨#[a, b, c, d]⟩, .int .u8 B, .int .i64 B, .int .i64 P1, .int .i64 (P1 * 256), .string ⟨#[a, b, c, d]⟩, .int .u8 C, .int .i64 C, .int .i64 P2, .int .i64 (P2 * 256), .string ⟨#[a, b, c, d]⟩, .int .u8 D, .int .i64 D, .int .i64 N, .int .i64 N]
    (fun _ W => Eqv wA W) rfl (by kernel_rfl) (fin := ?fin) ?hfin (Eqv.drew wA) ?each ?hend
  case hfin => simp [seqA, dstOf, Act.put]; rfl
  case each =>
    refine ⟨?_, ?_, ?_, ?_, ?_, ?_, ?_, ?_, ?_, ?_, ?_, ?_, ?_, ?_, ?_, ?_, ?_, ?_, ?_, trivial⟩
    all_goals intro X w6 h0 hd hs hw
    all_goals unfold Does
    all_goals go_simp
    all_goals first | exact fun L' k => hw | exact ⟨hA, fun L' k => hw⟩ | exact ⟨hB, fun L' k => hw⟩ | exact ⟨hC, fun L' k => hw⟩ | exact ⟨hD, fun L' k => hw⟩ | exact hA | exact hB | exact hC | exact hD
  case hend =>
  intro X w6 hL hw
  have A6 := Lib.hid (HAT.out.eqv hw)
  have K6 := Lib.hid (HKA.out.eqv hw)
  clear hw hL
  go_wp2_with (refine wp_stT (b := w.heap.size) (off := 0) ⟨m1, m2 == 1, m3 == 1, m4⟩ A6.out.there rfl _ _ rfl rfl rfl ?_)
  have E := A6.out.store ⟨m1, m2 == 1, m3 == 1, m4⟩
  refine tm_ret Try.results20 (lvT E) rfl rfl ⟨by rw [HE.out], ?_⟩
  exact (only_setCells w.heap.size (tmC ⟨m1, m2 == 1, m3 == 1, m4⟩) 0 w6).keeps K6.out (Nat.le_refl _)
end Go.Proofs.Ytofnokikjfmfgaa
