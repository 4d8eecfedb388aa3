/-
  What Encode of package times answers, of any times; and that the chapter's examples hold. The memory that was there stays.
-/
import Derived.Test.YtofnokikjfmfgaaTmD
import Derived.Test.YtofnokikjfmfgaaTmF
namespace Go.Proofs.Ytofnokikjfmfgaa
open Go.RowKit Gf Tm Bit Fl
set_option maxRecDepth 100000
/-- While times are written: the writer, the times. -/
structure Wtm (w0 : World) (b bo : Nat) (t : Tms) (L : List Bool) (W : World) : Prop where
  o : OutAt bo L W
  a : TmAt b t W
  k : Keeps w0 W
  n : b ≠ bo
  m : w0.heap.size ≤ bo
theorem Wtm.put {w0 W : World} {b bo : Nat} {t : Tms} {L : List Bool} (h : Wtm w0 b bo t L W) (x N : Nat) {X : Int} {M : Int} (hX : X = un x) (hM : M = (N : Int)) (hx : x < 2 ^ 64) (hN : N ≤ 64) (hL : L.length + N ≤ 1000000) :
    Calls Try.prog 37 #[.pointer (some ⟨bo, 0, none⟩), .int .u64 X, .int .i64 M] W fun e w' => e = .returned (.int .i64 0) ∧ Wtm w0 b bo t (L ++ lb x N) w' := by
  subst hX hM
  exact (put_ok h.o x N hx hN hL).mono fun _ _ hh => ⟨hh.1, hh.2.1, h.a.only h.n hh.2.2, hh.2.2.keeps h.k h.m, h.n, h.m⟩
def EcPost (w0 : World) (r : List UInt8 × Int) (e : Ending) (w' : World) : Prop := e = .returned (.tuple #[.string (st r.1), .int .i64 r.2]) ∧ Keeps w0 w'
theorem EcPost.of {w0 W : World} {r : List UInt8 × Int} {l : List UInt8} {n : Int} {s : ByteArray} (e : r = (l, n)) (hs : s = st l) (k : Keeps w0 W) : EcPost w0 r (.returned (.tuple #[.string s, .int .i64 n])) W := by rw [e, hs]; exact ⟨rfl, k⟩
set_option maxHeartbeats 3200000 in
theorem tmencode_any (w0 : World) (t : Tms) (w : World) (hk : Keeps w0 w) : Calls Try.prog 15 #[tmV t] w (EcPost w0 (ecT t)) := by
  have h1 := TmAt.made w t 34
  obtain ⟨b, hb⟩ : ∃ b, w.heap.size = b := ⟨_, rfl⟩
  obtain ⟨wA, hA⟩ : ∃ wA, w.alloc (.cells #[.int .i64 t.dt, .bool t.tb, .bool t.fr, .int .i64 t.ad] 34) = wA := ⟨_, rfl⟩
  have hkA : Keeps w0 wA := by rw [← hA]; exact hk.alloc _
  have hmA : w0.heap.size ≤ wA.heap.size := Below.size hkA
  rw [hA, hb] at h1
  have HS := Lib.hid h1
  have HK := Lib.hid hkA
  have HC := Lib.hid (tmcheck_any wA t wA (Keeps.refl wA))
  unfold TckPost at HC
  by_cases hok : okT t
  · rw [ckT_ok hok] at HC
    have HE := Lib.hid (ecT_ok hok)
    have HP := Lib.hid (pack_tbits hok)
    unfold tbits at HP
    obtain ⟨L1, l1⟩ : ∃ L, L = lb t.dt.toNat 12 := ⟨_, rfl⟩
    obtain ⟨L2, l2⟩ : ∃ L, L = lb (bv t.tb) 1 := ⟨_, rfl⟩
    obtain ⟨L3, l3⟩ : ∃ L, L = lb (bv t.fr) 1 := ⟨_, rfl⟩
    obtain ⟨L4, l4⟩ : ∃ L, L = lb t.ad.toNat 18 := ⟨_, rfl⟩
    have z1 : L1.length = 12 := by rw [l1, lb_length]
    have z2 : L2.length = 1 := by rw [l2, lb_length]
    have z3 : L3.length = 1 := by rw [l3, lb_length]
    have z4 : L4.length = 18 := by rw [l4, lb_length]
    rw [← l1, ← l2, ← l3, ← l4] at HP
    obtain ⟨S, hS⟩ : ∃ S, S = st (by4 (nbr t)) := ⟨_, rfl⟩
    have HSS := Lib.hid hS
    have b1 := bv_le t.tb
    have b2 := bv_le t.fr
    have t64 : (2 : Nat) ^ 64 = 18446744073709551616 := rfl
    obtain ⟨⟨d1, d2⟩, d3, d4⟩ := hok
    have P1 := Lib.hid (fun bo W (h : Wtm w0 b bo t [] W) => h.put t.dt.toNat 12 (X := t.dt) (M := 12) (by unfold un; omega) rfl (by rw [t64]; omega) (by decide) (by simp))
    have P2 := Lib.hid (fun bo W (h : Wtm w0 b bo t L1 W) => h.put (bv t.tb) 1 (X := (bv t.tb : Int)) (M := 1) rfl rfl (by rw [t64]; omega) (by decide) (by omega))
    have P3 := Lib.hid (fun bo W (h : Wtm w0 b bo t (L1 ++ L2) W) => h.put (bv t.fr) 1 (X := (bv t.fr : Int)) (M := 1) rfl rfl (by rw [t64]; omega) (by decide) (by rw [List.length_append]; omega))
    have P4 := Lib.hid (fun bo W (h : Wtm w0 b bo t (L1 ++ L2 ++ L3) W) => h.put t.ad.toNat 18 (X := t.ad) (M := 18) (by unfold un; omega) rfl (by rw [t64]; omega) (by decide) (by rw [List.length_append, List.length_append]; omega))
    rw [← l1, List.nil_append] at P1
    rw [← l2] at P2
    rw [← l3] at P3
    rw [← l4] at P4
    have P5 := Lib.hid (fun bo W (h : OutAt bo (L1 ++ L2 ++ L3 ++ L4) W) => string_any h (by rw [List.length_append, List.length_append, List.length_append]; omega))
    rw [HP.out, ← hS] at P5
    have HB1 := Lib.hid (fun W => tmbit_any t.tb W)
    have HB2 := Lib.hid (fun W => tmbit_any t.fr W)
    have c1 : IntKind.u64.wrap t.dt = t.dt := by rw [IntKind.wrap_u64]; omega
    have c2 : IntKind.u64.wrap t.ad = t.ad := by rw [IntKind.wrap_u64]; omega
    obtain ⟨q0, q1, q2, q3, _⟩ := h1
    have HAB := Lib.hid (TmAt.old HS.out)
    clear l1 l2 l3 l4 z1 z2 z3 z4 hS b1 b2 t64 hk hkA HP
    obtain ⟨dt, tb, fr, ad⟩ := t
    simp only at hA q0 q1 q2 q3 d1 d2 d3 d4 c1 c2
    obtain ⟨X1, hX1⟩ : ∃ X : Int, X = (bv tb : Int) := ⟨_, rfl⟩
    obtain ⟨X2, hX2⟩ : ∃ X : Int, X = (bv fr : Int) := ⟨_, rfl⟩
    rw [← hX1] at HB1 P2
    rw [← hX2] at HB2 P3
    clear hX1 hX2
    go_enter Try.func15, Try.ntmps15
    go_wp2_with (first | (go_at_call 17; refine HC.out.mono ?_; rintro _ w2 ⟨rfl, k2⟩; have HS2 := Lib.hid (HS.out.keeps k2); have HK2 := Lib.hid (HK.out.trans k2); have HW := Lib.hid (show Wtm w0 b w2.heap.size ⟨dt, tb, fr, ad⟩ [] (w2.alloc (.cells zout 82)) from ⟨out_zero w2, HS2.out.keeps ((Keeps.refl w2).alloc _), HK2.out.alloc _, by have := HAB.out; have := Below.size k2; omega, Below.size HK2.out⟩); clear k2) | (with_reducible refine wpList_allocZ infoOut rfl rfl ?_; obtain ⟨w3, hw3⟩ : ∃ w3, w2.alloc (.cells zout 82) = w3 := ⟨_, rfl⟩; obtain ⟨bo, hbo⟩ : ∃ bo, w2.heap.size = bo := ⟨_, rfl⟩; rw [hw3] at HW ⊢; rw [hbo] at HW ⊢; have r0 := HW.out.a.c0; clear hw3 hbo) | (go_at_call 38; refine (HB1.out _).mono ?_; rintro _ _ ⟨rfl, rfl⟩; clear HB1) | (go_at_call 38; refine (HB2.out _).mono ?_; rintro _ _ ⟨rfl, rfl⟩; clear HB2) | (go_at_call 37; with_reducible refine (P1.out _ _ HW.out).mono ?_; rintro _ w4 ⟨rfl, h4⟩; have r1 := h4.a.c1; have H4 := Lib.hid h4; clear h4 HW P1) | (go_at_call 37; with_reducible refine (P2.out _ _ H4.out).mono ?_; rintro _ w5 ⟨rfl, h5⟩; have r2 := h5.a.c2; have H5 := Lib.hid h5; clear h5 H4 P2) | (go_at_call 37; with_reducible refine (P3.out _ _ H5.out).mono ?_; rintro _ w6 ⟨rfl, h6⟩; have r3 := h6.a.c3; have H6 := Lib.hid h6; clear h6 H5 P3) | (go_at_call 37; with_reducible refine (P4.out _ _ H6.out).mono ?_; rintro _ w7 ⟨rfl, h7⟩; have H7 := Lib.hid h7; clear h7 H6 P4) | (go_at_call 39; refine (P5.out _ _ H7.out.o).mono ?_; rintro _ w8 ⟨rfl, k8⟩))
    go_ret2
    exact EcPost.of HE.out HSS.out (H7.out.k.trans k8)
  · rw [ckT_no hok] at HC
    have HE := Lib.hid (ecT_no hok)
    obtain ⟨q0, q1, q2, q3, _⟩ := h1
    clear hok hkA
    obtain ⟨dt, tb, fr, ad⟩ := t
    simp only at hA q0 q1 q2 q3
    go_enter Try.func15, Try.ntmps15
    go_wp2_with (go_at_call 17; refine HC.out.mono ?_; rintro _ w2 ⟨rfl, k2⟩; have HK2 := Lib.hid (HK.out.trans k2); clear k2)
    go_ret2
    exact EcPost.of HE.out rfl HK2.out
def exT : Tms := ⟨5, true, false, 3⟩
theorem exT_enc : ecT exT = ([0, 88, 0, 3], 0) := by rw [ecT_ok (by decide)]; rfl
theorem exT_del : dl 0 21 10 = (3, 0) := by decide
theorem exT_win : wd 0 3 10 = (21, 30, 0) := by decide
theorem exT_pl : pl 256 257 = (1, 1, 0) := by decide
theorem fl_one : fl 1 = 4607182418800017408 := by decide
theorem one_eq : FloatKind.f64.format.order 4607182418800017408 4607182418800017408 = some .eq := by decide
set_option maxHeartbeats 1600000 in
theorem awake9_any (w0 w : World) (hk : Keeps w0 w) : Calls Try.prog 14 #[] w fun e w' => e = .returned (.bool true) ∧ Keeps w0 w' := by
  have HE := Lib.hid (fun W => tmencode_any W exT W (Keeps.refl W))
  unfold EcPost at HE
  rw [exT_enc] at HE
  have HD := Lib.hid (fun W => tmdelta_any 0 21 10 W)
  rw [exT_del] at HD
  have HW := Lib.hid (fun W => tmwindow_any 0 3 10 W)
  rw [exT_win] at HW
  have HP := Lib.hid (fun W => tmplace_any 256 257 W)
  unfold PlPost at HP
  rw [exT_pl] at HP
  simp only [fl_one] at HP
  have ho := one_eq
  obtain ⟨S, hS⟩ : ∃ S, st [0, 88, 0, 3] = S := ⟨_, rfl⟩
  have hSt : S.toList = [0, 88, 0, 3] := by rw [← hS]; exact st_toList _
  have hS2 : S = ⟨#[0, 88, 0, 3]⟩ := by rw [← hS]; rfl
  go_enter Try.func14, Try.ntmps14
  go_wp2_with (first | (go_at_call 15; refine (HE.out _).mono ?_; rintro _ w1 ⟨rfl, k1⟩) | (go_at_call 21; refine (HD.out _).mono ?_; rintro _ _ ⟨rfl, rfl⟩) | (go_at_call 25; refine (HW.out _).mono ?_; rintro _ _ ⟨rfl, rfl⟩) | (go_at_call 27; refine (HP.out _).mono ?_; rintro _ w2 ⟨rfl, k2⟩))
  go_ret
  exact ⟨rfl, (hk.trans k1).eqv k2⟩
end Go.Proofs.Ytofnokikjfmfgaa
