/-
  What Decode and Encode of package times answer. The memory that was there stays.
-/
import Derived.Test.YtdpgphidielajaaTmV
import Derived.Test.YtdpgphidielajaaBitsIn
import Derived.Test.YtdpgphidielajaaBitsOut
namespace Go.Proofs.Ytdpgphidielajaa
open Go.RowKit Gf Tm Bit
set_option maxRecDepth 100000
/-- Times and an error are answered. -/
def DcPost (w0 : World) (r : Tms × Int) (e : Ending) (w' : World) : Prop := e = .returned (.tuple #[tmV r.1, .int .i64 r.2]) ∧ Keeps w0 w'
theorem DcPost.of {w0 W : World} {r : Tms × Int} {s : Tms} {n : Int} (e : r = (s, n)) (k : Keeps w0 W) : DcPost w0 r (.returned (.tuple #[tmV s, .int .i64 n])) W := by rw [e]; exact ⟨rfl, k⟩
/-- While times are read: the reader, what is built, what is answered. -/
structure Rtm (w0 : World) (rb b2 b4 : Nat) (s : ByteArray) (p : Nat) (S : Tms) (W : World) : Prop where
  i : InAt rb 0 s p W
  a : TmAt b4 S W
  z : TmAt b2 zt W
  k : Keeps w0 W
  n1 : b4 ≠ rb
  n2 : b2 ≠ rb
  n3 : b2 ≠ b4
  m1 : w0.heap.size ≤ rb
  m2 : w0.heap.size ≤ b2
  m4 : w0.heap.size ≤ b4
section
variable {w0 W W' : World} {rb b2 b4 p q : Nat} {s : ByteArray} {S : Tms}
theorem Rtm.got (h : Rtm w0 rb b2 b4 s p S W) (i : InAt rb 0 s q W') (o : Only rb W W') : Rtm w0 rb b2 b4 s q S W' :=
  ⟨i, h.a.only h.n1 o, h.z.only h.n2 o, o.keeps h.k h.m1, h.n1, h.n2, h.n3, h.m1, h.m2, h.m4⟩
theorem Rtm.wrote (h : Rtm w0 rb b2 b4 s p S W) {S' : Tms} (o : Only b4 W W') (a : TmAt b4 S' W') : Rtm w0 rb b2 b4 s p S' W' :=
  ⟨h.i.only (Ne.symm h.n1) o, a, h.z.only h.n3 o, o.keeps h.k h.m4, h.n1, h.n2, h.n3, h.m1, h.m2, h.m4⟩
theorem Rtm.set0 (h : Rtm w0 rb b2 b4 s p S W) (x : Int) : Rtm w0 rb b2 b4 s p { S with dt := x } (W.setCell ⟨b4, 0, none⟩ (.int .i64 x)) := h.wrote (Only.setCell W ⟨b4, 0, none⟩ _) (h.a.set0 x)
theorem Rtm.set1 (h : Rtm w0 rb b2 b4 s p S W) (x : Bool) : Rtm w0 rb b2 b4 s p { S with tb := x } (W.setCell ⟨b4, 1, none⟩ (.bool x)) := h.wrote (Only.setCell W ⟨b4, 1, none⟩ _) (h.a.set1 x)
theorem Rtm.set2 (h : Rtm w0 rb b2 b4 s p S W) (x : Bool) : Rtm w0 rb b2 b4 s p { S with fr := x } (W.setCell ⟨b4, 2, none⟩ (.bool x)) := h.wrote (Only.setCell W ⟨b4, 2, none⟩ _) (h.a.set2 x)
theorem Rtm.set3 (h : Rtm w0 rb b2 b4 s p S W) (x : Int) : Rtm w0 rb b2 b4 s p { S with ad := x } (W.setCell ⟨b4, 3, none⟩ (.int .i64 x)) := h.wrote (Only.setCell W ⟨b4, 3, none⟩ _) (h.a.set3 x)
/-- The result's cell is written: at the end. -/
theorem Rtm.ends (h : Rtm w0 rb b2 b4 s p S W) (t : Tms) : TmAt b2 t (W.setCells b2 0 (tmC t)) ∧ Keeps w0 (W.setCells b2 0 (tmC t)) :=
  ⟨h.z.store t, (only_setCells b2 (tmC t) 0 W).keeps h.k h.m2⟩
/-- Get, in this state. -/
theorem Rtm.get (h : Rtm w0 rb b2 b4 s p S W) (N : Nat) {v : Int} (hv : un (num (((ob (ls s)).drop p).take N)) = v) (hq : p + N = q) (hN : N ≤ 64) (hs : s.size ≤ 1000000) (hp : p + N ≤ 8 * s.size) :
    Calls Try.prog 49 #[.pointer (some ⟨rb, 0, none⟩), .int .i64 (N : Int)] W fun x w' => x = .returned (.int .u64 v) ∧ Rtm w0 rb b2 b4 s q S w' := by
  have := get_ok h.i N hN hs hp
  rw [hv, hq] at this
  exact this.mono fun _ _ hh => ⟨hh.1, h.got hh.2.1 hh.2.2⟩
end
theorem Rtm.start {w0 w wA w2 : World} (hk : Keeps w0 w) {b : Nat} {s : ByteArray} (hb : w.heap.size = b) (hA : (w.alloc (.cells #[.int .i64 0, .bool false, .bool false, .int .i64 0] 23)).alloc (.cells #[.int .i64 0, .bool false, .bool false, .int .i64 0] 23) = wA)
    (i : InAt (b + 2) 0 s 0 w2) (k : Keeps wA w2) : Rtm w0 (b + 2) b (b + 1) s 0 zt w2 := by
  subst hb
  subst hA
  have h1 := TmAt.made w zt 23
  have h2 := TmAt.made (w.alloc (.cells #[.int .i64 0, .bool false, .bool false, .int .i64 0] 23)) zt 23
  rw [World.size_alloc] at h2
  have hz := Below.size hk
  exact ⟨i, h2.keeps k, (h1.keeps ((Keeps.refl _).alloc _)).keeps k, ((hk.alloc _).alloc _).trans k, by omega, by omega, by omega, by omega, by omega, by omega⟩
theorem ofN_eta {n : Nat} {x0 x1 x2 x3 : Int} (e0 : x0 = ((n / 1048576 : Nat) : Int)) (e1 : x1 = ((n / 524288 % 2 : Nat) : Int)) (e2 : x2 = ((n / 262144 % 2 : Nat) : Int)) (e3 : x3 = ((n % 262144 : Nat) : Int)) : ofN n = ⟨x0, x1 != 0, x2 != 0, x3⟩ := by
  have d : ∀ n : Nat, n ≤ 1 → decide (n = 1) = ((n : Int) != 0) := by
    intro n hn
    have : n = 0 ∨ n = 1 := by omega
    rcases this with rfl | rfl <;> decide
  subst e0 e1 e2 e3
  unfold ofN
  rw [d _ (by omega), d _ (by omega)]
set_option maxHeartbeats 3200000 in
theorem tmdecode_any (w0 : World) (s : ByteArray) (w : World) (hk : Keeps w0 w) : Calls Try.prog 30 #[.string s] w (DcPost w0 (dcT (ls s))) := by
  obtain ⟨b, hbw⟩ : ∃ b, w.heap.size = b := ⟨_, rfl⟩
  by_cases h4 : s.size = 4
  · have hl : (ls s).length = 4 := by rw [← ls_size]; exact h4
    obtain ⟨v0, v1, v2, v3⟩ := gets4 hl
    have HD := Lib.hid (dcT_ok hl)
    have hnl := n4_lt (ls s)
    obtain ⟨n, hn⟩ : ∃ n, n4 (ls s) = n := ⟨_, rfl⟩
    rw [hn] at v0 v1 v2 v3 hnl HD
    obtain ⟨x0, e0⟩ : ∃ x, x = ((n / 1048576 : Nat) : Int) := ⟨_, rfl⟩
    obtain ⟨x1, e1⟩ : ∃ x, x = ((n / 524288 % 2 : Nat) : Int) := ⟨_, rfl⟩
    obtain ⟨x2, e2⟩ : ∃ x, x = ((n / 262144 % 2 : Nat) : Int) := ⟨_, rfl⟩
    obtain ⟨x3, e3⟩ : ∃ x, x = ((n % 262144 : Nat) : Int) := ⟨_, rfl⟩
    have y0 : 0 ≤ x0 ∧ x0 ≤ 4095 := by omega
    have y3 : 0 ≤ x3 ∧ x3 ≤ 262143 := by omega
    have HE := Lib.hid (ofN_eta e0 e1 e2 e3)
    obtain ⟨wA, hA⟩ : ∃ wA, (w.alloc (.cells #[.int .i64 0, .bool false, .bool false, .int .i64 0] 23)).alloc (.cells #[.int .i64 0, .bool false, .bool false, .int .i64 0] 23) = wA := ⟨_, rfl⟩
    have hzA : wA.heap.size = b + 2 := by rw [← hA]; simp [hbw]
    have RD := Lib.hid (read_any s wA)
    rw [hzA] at RD
    have ST := Lib.hid (fun w2 => Rtm.start (w2 := w2) (s := s) hk hbw hA)
    have G0 := Lib.hid (fun S W (h : Rtm w0 (b + 2) b (b + 1) s 0 S W) => h.get (v := x0) 12 (by rw [v0, e0]; rfl) rfl (by decide) (by omega) (by omega))
    have G1 := Lib.hid (fun S W (h : Rtm w0 (b + 2) b (b + 1) s 12 S W) => h.get (v := x1) 1 (by rw [v1, e1]; rfl) rfl (by decide) (by omega) (by omega))
    have G2 := Lib.hid (fun S W (h : Rtm w0 (b + 2) b (b + 1) s 13 S W) => h.get (v := x2) 1 (by rw [v2, e2]; rfl) rfl (by decide) (by omega) (by omega))
    have G3 := Lib.hid (fun S W (h : Rtm w0 (b + 2) b (b + 1) s 14 S W) => h.get (v := x3) 18 (by rw [v3, e3]; rfl) rfl (by decide) (by omega) (by omega))
    have hA' := hA
    have hsz : (s.size : Int) = 4 := by omega
    clear v0 v1 v2 v3 e0 e1 e2 e3 hnl hn hk hA hl h4
    have q0 : zt.dt = 0 := rfl
    go_enter Try.func30, Try.ntmps30
    go_wp2_with (first | (go_at_call 48; refine RD.out.mono ?_; rintro _ w1 ⟨rfl, i1, k1⟩; have R0 := Lib.hid (ST.out _ i1 k1); clear i1 k1 RD ST)  | (go_at_call 49; refine (G0.out _ _ R0.out).mono ?_; rintro _ v0 ⟨rfl, r⟩; have q0 := r.a.c0; have f0 := r.a.fz 0 (by decide); have R1 := Lib.hid (r.set0 x0); clear r R0 G0)  | (go_at_call 49; refine (G1.out _ _ R1.out).mono ?_; rintro _ v1 ⟨rfl, r⟩; have q1 := r.a.c1; have f1 := r.a.fz 1 (by decide); have R2 := Lib.hid (r.set1 (x1 != 0)); clear r R1 G1)  | (go_at_call 49; refine (G2.out _ _ R2.out).mono ?_; rintro _ v2 ⟨rfl, r⟩; have q2 := r.a.c2; have f2 := r.a.fz 2 (by decide); have R3 := Lib.hid (r.set2 (x2 != 0)); clear r R2 G2)  | (go_at_call 49; refine (G3.out _ _ R3.out).mono ?_; rintro _ v3 ⟨rfl, r⟩; have q3 := r.a.c3; have f3 := r.a.fz 3 (by decide); have R4 := Lib.hid (r.set3 x3); clear r R3 G3)  | (refine wp_ldT (b := b + 1) (off := 0) R4.out.a.range rfl _ rfl rfl ?_)  | (refine wp_stT (b := b) (off := 0) ⟨x0, x1 != 0, x2 != 0, x3⟩ R4.out.z.there rfl _ _ rfl rfl rfl ?_))
    have E := R4.out.ends ⟨x0, x1 != 0, x2 != 0, x3⟩
    exact tm_ret2 Try.results30 (lvT E.1) rfl rfl rfl (DcPost.of (by rw [HD.out, HE.out]) E.2)
  · obtain ⟨wA, hA⟩ : ∃ wA, w.alloc (.cells #[.int .i64 0, .bool false, .bool false, .int .i64 0] 23) = wA := ⟨_, rfl⟩
    have A0 := Lib.hid (show TmAt b zt wA by rw [← hA, ← hbw]; exact TmAt.made w zt 23)
    have K0 := Lib.hid (show Keeps w0 (wA.setCells b 0 (tmC zt)) by rw [← hA]; exact (only_setCells b (tmC zt) 0 _).keeps (hk.alloc _) (by rw [← hbw]; exact Below.size hk))
    clear hk
    by_cases h5 : s.size < 4
    · have HD := Lib.hid (dcT_short (l := ls s) (by rw [← ls_size]; exact h5))
      have i5 : (s.size : Int) < 4 := by omega
      clear h4 h5
      go_enter Try.func30, Try.ntmps30
      go_wp2_with (refine wp_stT (b := b) (off := 0) zt A0.out.there rfl _ _ rfl rfl rfl ?_)
      exact tm_ret2 Try.results30 (lvT (A0.out.store zt)) rfl rfl rfl (DcPost.of HD.out K0.out)
    · have HD := Lib.hid (dcT_long (l := ls s) (by rw [← ls_size]; omega))
      have i5 : ¬ (s.size : Int) < 4 := by omega
      have i6 : (4 : Int) < (s.size : Int) := by omega
      clear h4 h5
      go_enter Try.func30, Try.ntmps30
      go_wp2_with (refine wp_stT (b := b) (off := 0) zt A0.out.there rfl _ _ rfl rfl rfl ?_)
      exact tm_ret2 Try.results30 (lvT (A0.out.store zt)) rfl rfl rfl (DcPost.of HD.out K0.out)
end Go.Proofs.Ytdpgphidielajaa
namespace Go.Proofs.Ytdpgphidielajaa
open Go.RowKit Gf Tm Bit
set_option maxRecDepth 100000
/-- While times are written: the writer, the times. -/
structure Wtm (w0 : World) (b bo : Nat) (t : Tms) (L : List Bool) (W : World) : Prop where
  o : OutAt bo L W
  a : TmAt b t W
  k : Keeps w0 W
  n : b ≠ bo
  m : w0.heap.size ≤ bo
theorem Wtm.put {w0 W : World} {b bo : Nat} {t : Tms} {L : List Bool} (h : Wtm w0 b bo t L W) (x N : Nat) {X : Int} {M : Int} (hX : X = un x) (hM : M = (N : Int)) (hx : x < 2 ^ 64) (hN : N ≤ 64) (hL : L.length + N ≤ 1000000) :
    Calls Try.prog 33 #[.pointer (some ⟨bo, 0, none⟩), .int .u64 X, .int .i64 M] W fun e w' => e = .returned (.int .i64 0) ∧ Wtm w0 b bo t (L ++ lb x N) w' := by
  subst hX hM
  exact (put_ok h.o x N hx hN hL).mono fun _ _ hh => ⟨hh.1, hh.2.1, h.a.only h.n hh.2.2, hh.2.2.keeps h.k h.m, h.n, h.m⟩
def EcPost (w0 : World) (r : List UInt8 × Int) (e : Ending) (w' : World) : Prop := e = .returned (.tuple #[.string (st r.1), .int .i64 r.2]) ∧ Keeps w0 w'
theorem EcPost.of {w0 W : World} {r : List UInt8 × Int} {l : List UInt8} {n : Int} {s : ByteArray} (e : r = (l, n)) (hs : s = st l) (k : Keeps w0 W) : EcPost w0 r (.returned (.tuple #[.string s, .int .i64 n])) W := by rw [e, hs]; exact ⟨rfl, k⟩
set_option maxHeartbeats 3200000 in
theorem tmencode_any (w0 : World) (t : Tms) (w : World) (hk : Keeps w0 w) : Calls Try.prog 20 #[tmV t] w (EcPost w0 (ecT t)) := by
  have h1 := TmAt.made w t 23
  obtain ⟨b, hb⟩ : ∃ b, w.heap.size = b := ⟨_, rfl⟩
  obtain ⟨wA, hA⟩ : ∃ wA, w.alloc (.cells #[.int .i64 t.dt, .bool t.tb, .bool t.fr, .int .i64 t.ad] 23) = wA := ⟨_, rfl⟩
  have hkA : Keeps w0 wA := by rw [← hA]; exact hk.alloc _
  have hmA : w0.heap.size ≤ wA.heap.size := Below.size hkA
  rw [hA, hb] at h1
  have HS := Lib.hid h1
  have HK := Lib.hid hkA
  have HC := Lib.hid (tmcheck_any wA t wA (Keeps.refl wA))
  unfold TckPost at HC
  by_cases hok : okT t
  · rw [ckT_ok hok] at HC
    have HE := Lib.hid (ecT_ok hok)
    have HP := Lib.hid (pack_tbits hok)
    unfold tbits at HP
    obtain ⟨L1, l1⟩ : ∃ L, L = lb t.dt.toNat 12 := ⟨_, rfl⟩
    obtain ⟨L2, l2⟩ : ∃ L, L = lb (bv t.tb) 1 := ⟨_, rfl⟩
    obtain ⟨L3, l3⟩ : ∃ L, L = lb (bv t.fr) 1 := ⟨_, rfl⟩
    obtain ⟨L4, l4⟩ : ∃ L, L = lb t.ad.toNat 18 := ⟨_, rfl⟩
    have z1 : L1.length = 12 := by rw [l1, lb_length]
    have z2 : L2.length = 1 := by rw [l2, lb_length]
    have z3 : L3.length = 1 := by rw [l3, lb_length]
    have z4 : L4.length = 18 := by rw [l4, lb_length]
    rw [← l1, ← l2, ← l3, ← l4] at HP
    obtain ⟨S, hS⟩ : ∃ S, S = st (by4 (nbr t)) := ⟨_, rfl⟩
    have HSS := Lib.hid hS
    have b1 := bv_le t.tb
    have b2 := bv_le t.fr
    have t64 : (2 : Nat) ^ 64 = 18446744073709551616 := rfl
    obtain ⟨⟨d1, d2⟩, d3, d4⟩ := hok
    have P1 := Lib.hid (fun bo W (h : Wtm w0 b bo t [] W) => h.put t.dt.toNat 12 (X := t.dt) (M := 12) (by unfold un; omega) rfl (by rw [t64]; omega) (by decide) (by simp))
    have P2 := Lib.hid (fun bo W (h : Wtm w0 b bo t L1 W) => h.put (bv t.tb) 1 (X := (bv t.tb : Int)) (M := 1) rfl rfl (by rw [t64]; omega) (by decide) (by omega))
    have P3 := Lib.hid (fun bo W (h : Wtm w0 b bo t (L1 ++ L2) W) => h.put (bv t.fr) 1 (X := (bv t.fr : Int)) (M := 1) rfl rfl (by rw [t64]; omega) (by decide) (by rw [List.length_append]; omega))
    have P4 := Lib.hid (fun bo W (h : Wtm w0 b bo t (L1 ++ L2 ++ L3) W) => h.put t.ad.toNat 18 (X := t.ad) (M := 18) (by unfold un; omega) rfl (by rw [t64]; omega) (by decide) (by rw [List.length_append, List.length_append]; omega))
    rw [← l1, List.nil_append] at P1
    rw [← l2] at P2
    rw [← l3] at P3
    rw [← l4] at P4
    have P5 := Lib.hid (fun bo W (h : OutAt bo (L1 ++ L2 ++ L3 ++ L4) W) => string_any h (by rw [List.length_append, List.length_append, List.length_append]; omega))
    rw [HP.out, ← hS] at P5
    have HB1 := Lib.hid (fun W => tmbit_any t.tb W)
    have HB2 := Lib.hid (fun W => tmbit_any t.fr W)
    have c1 : IntKind.u64.wrap t.dt = t.dt := by rw [IntKind.wrap_u64]; omega
    have c2 : IntKind.u64.wrap t.ad = t.ad := by rw [IntKind.wrap_u64]; omega
    obtain ⟨q0, q1, q2, q3, _⟩ := h1
    have HAB := Lib.hid (TmAt.old HS.out)
    clear l1 l2 l3 l4 z1 z2 z3 z4 hS b1 b2 t64 hk hkA HP
    obtain ⟨dt, tb, fr, ad⟩ := t
    simp only at hA q0 q1 q2 q3 d1 d2 d3 d4 c1 c2
    obtain ⟨X1, hX1⟩ : ∃ X : Int, X = (bv tb : Int) := ⟨_, rfl⟩
    obtain ⟨X2, hX2⟩ : ∃ X : Int, X = (bv fr : Int) := ⟨_, rfl⟩
    rw [← hX1] at HB1 P2
    rw [← hX2] at HB2 P3
    clear hX1 hX2
    go_enter Try.func20, Try.ntmps20
    go_wp2_with (first | (go_at_call 24; refine HC.out.mono ?_; rintro _ w2 ⟨rfl, k2⟩; have HS2 := Lib.hid (HS.out.keeps k2); have HK2 := Lib.hid (HK.out.trans k2); have HW := Lib.hid (show Wtm w0 b w2.heap.size ⟨dt, tb, fr, ad⟩ [] (w2.alloc (.cells zout 74)) from ⟨out_zero w2, HS2.out.keeps ((Keeps.refl w2).alloc _), HK2.out.alloc _, by have := HAB.out; have := Below.size k2; omega, Below.size HK2.out⟩); clear k2) | (with_reducible refine wpList_allocZ infoOut rfl rfl ?_; obtain ⟨w3, hw3⟩ : ∃ w3, w2.alloc (.cells zout 74) = w3 := ⟨_, rfl⟩; obtain ⟨bo, hbo⟩ : ∃ bo, w2.heap.size = bo := ⟨_, rfl⟩; rw [hw3] at HW ⊢; rw [hbo] at HW ⊢; have r0 := HW.out.a.c0; clear hw3 hbo) | (go_at_call 34; refine (HB1.out _).mono ?_; rintro _ _ ⟨rfl, rfl⟩; clear HB1) | (go_at_call 34; refine (HB2.out _).mono ?_; rintro _ _ ⟨rfl, rfl⟩; clear HB2) | (go_at_call 33; with_reducible refine (P1.out _ _ HW.out).mono ?_; rintro _ w4 ⟨rfl, h4⟩; have r1 := h4.a.c1; have H4 := Lib.hid h4; clear h4 HW P1) | (go_at_call 33; with_reducible refine (P2.out _ _ H4.out).mono ?_; rintro _ w5 ⟨rfl, h5⟩; have r2 := h5.a.c2; have H5 := Lib.hid h5; clear h5 H4 P2) | (go_at_call 33; with_reducible refine (P3.out _ _ H5.out).mono ?_; rintro _ w6 ⟨rfl, h6⟩; have r3 := h6.a.c3; have H6 := Lib.hid h6; clear h6 H5 P3) | (go_at_call 33; with_reducible refine (P4.out _ _ H6.out).mono ?_; rintro _ w7 ⟨rfl, h7⟩; have H7 := Lib.hid h7; clear h7 H6 P4) | (go_at_call 35; refine (P5.out _ _ H7.out.o).mono ?_; rintro _ w8 ⟨rfl, k8⟩))
    go_ret2
    exact EcPost.of HE.out HSS.out (H7.out.k.trans k8)
  · rw [ckT_no hok] at HC
    have HE := Lib.hid (ecT_no hok)
    obtain ⟨q0, q1, q2, q3, _⟩ := h1
    clear hok hkA
    obtain ⟨dt, tb, fr, ad⟩ := t
    simp only at hA q0 q1 q2 q3
    go_enter Try.func20, Try.ntmps20
    go_wp2_with (go_at_call 24; refine HC.out.mono ?_; rintro _ w2 ⟨rfl, k2⟩; have HK2 := Lib.hid (HK.out.trans k2); clear k2)
    go_ret2
    exact EcPost.of HE.out rfl HK2.out
end Go.Proofs.Ytdpgphidielajaa
