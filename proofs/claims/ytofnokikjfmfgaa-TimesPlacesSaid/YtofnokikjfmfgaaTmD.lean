/-
  What Decode and Encode of package times answer: for texts of any length, and any times. The memory that was there stays.
-/
import Derived.Test.YtofnokikjfmfgaaTmG
import Derived.Test.YtofnokikjfmfgaaBitsD
import Derived.Test.YtofnokikjfmfgaaBitsLaw
namespace Go.Proofs.Ytofnokikjfmfgaa
open Go.RowKit Gf Tm Bit
set_option maxRecDepth 100000
/-- Times and an error are answered. -/
def DcPost (w0 : World) (r : Tms × Int) (e : Ending) (w' : World) : Prop := e = .returned (.tuple #[tmV r.1, .int .i64 r.2]) ∧ Keeps w0 w'
theorem DcPost.of {w0 W : World} {r : Tms × Int} {s : Tms} {n : Int} (e : r = (s, n)) (k : Keeps w0 W) : DcPost w0 r (.returned (.tuple #[tmV s, .int .i64 n])) W := by rw [e]; exact ⟨rfl, k⟩
/-- While times are read: the reader, what is built, what is answered. -/
structure Rtm (w0 : World) (rb b2 b4 : Nat) (s : ByteArray) (p : Nat) (S : Tms) (W : World) : Prop where
  i : InAt rb 0 s p W
  a : TmAt b4 S W
  z : TmAt b2 zt W
  k : Keeps w0 W
  n1 : b4 ≠ rb
  n2 : b2 ≠ rb
  n3 : b2 ≠ b4
  m1 : w0.heap.size ≤ rb
  m2 : w0.heap.size ≤ b2
  m4 : w0.heap.size ≤ b4
section
variable {w0 W W' : World} {rb b2 b4 p q : Nat} {s : ByteArray} {S : Tms}
theorem Rtm.got (h : Rtm w0 rb b2 b4 s p S W) (i : InAt rb 0 s q W') (o : Only rb W W') : Rtm w0 rb b2 b4 s q S W' :=
  ⟨i, h.a.only h.n1 o, h.z.only h.n2 o, o.keeps h.k h.m1, h.n1, h.n2, h.n3, h.m1, h.m2, h.m4⟩
theorem Rtm.wrote (h : Rtm w0 rb b2 b4 s p S W) {S' : Tms} (o : Only b4 W W') (a : TmAt b4 S' W') : Rtm w0 rb b2 b4 s p S' W' :=
  ⟨h.i.only (Ne.symm h.n1) o, a, h.z.only h.n3 o, o.keeps h.k h.m4, h.n1, h.n2, h.n3, h.m1, h.m2, h.m4⟩
theorem Rtm.set0 (h : Rtm w0 rb b2 b4 s p S W) (x : Int) : Rtm w0 rb b2 b4 s p { S with dt := x } (W.setCell ⟨b4, 0, none⟩ (.int .i64 x)) := h.wrote (Only.setCell W ⟨b4, 0, none⟩ _) (h.a.set0 x)
theorem Rtm.set1 (h : Rtm w0 rb b2 b4 s p S W) (x : Bool) : Rtm w0 rb b2 b4 s p { S with tb := x } (W.setCell ⟨b4, 1, none⟩ (.bool x)) := h.wrote (Only.setCell W ⟨b4, 1, none⟩ _) (h.a.set1 x)
theorem Rtm.set2 (h : Rtm w0 rb b2 b4 s p S W) (x : Bool) : Rtm w0 rb b2 b4 s p { S with fr := x } (W.setCell ⟨b4, 2, none⟩ (.bool x)) := h.wrote (Only.setCell W ⟨b4, 2, none⟩ _) (h.a.set2 x)
theorem Rtm.set3 (h : Rtm w0 rb b2 b4 s p S W) (x : Int) : Rtm w0 rb b2 b4 s p { S with ad := x } (W.setCell ⟨b4, 3, none⟩ (.int .i64 x)) := h.wrote (Only.setCell W ⟨b4, 3, none⟩ _) (h.a.set3 x)
/-- The result's cell is written: at the end. -/
theorem Rtm.ends (h : Rtm w0 rb b2 b4 s p S W) (t : Tms) : TmAt b2 t (W.setCells b2 0 (tmC t)) ∧ Keeps w0 (W.setCells b2 0 (tmC t)) :=
  ⟨h.z.store t, (only_setCells b2 (tmC t) 0 W).keeps h.k h.m2⟩
/-- Get, in this state. -/
theorem Rtm.get (h : Rtm w0 rb b2 b4 s p S W) (N : Nat) {v : Int} (hv : un (num (((ob (ls s)).drop p).take N)) = v) (hq : p + N = q) (hN : N ≤ 64) (hs : s.size ≤ 1000000) (hp : p + N ≤ 8 * s.size) :
    Calls Try.prog 43 #[.pointer (some ⟨rb, 0, none⟩), .int .i64 (N : Int)] W fun x w' => x = .returned (.int .u64 v) ∧ Rtm w0 rb b2 b4 s q S w' := by
  have := get_ok h.i N hN hs hp
  rw [hv, hq] at this
  exact this.mono fun _ _ hh => ⟨hh.1, h.got hh.2.1 hh.2.2⟩
end
theorem Rtm.start {w0 w wA w2 : World} (hk : Keeps w0 w) {b : Nat} {s : ByteArray} (hb : w.heap.size = b) (hA : (w.alloc (.cells #[.int .i64 0, .bool false, .bool false, .int .i64 0] 34)).alloc (.cells #[.int .i64 0, .bool false, .bool false, .int .i64 0] 34) = wA)
    (i : InAt (b + 2) 0 s 0 w2) (k : Keeps wA w2) : Rtm w0 (b + 2) b (b + 1) s 0 zt w2 := by
  subst hb
  subst hA
  have h1 := TmAt.made w zt 34
  have h2 := TmAt.made (w.alloc (.cells #[.int .i64 0, .bool false, .bool false, .int .i64 0] 34)) zt 34
  rw [World.size_alloc] at h2
  have hz := Below.size hk
  exact ⟨i, h2.keeps k, (h1.keeps ((Keeps.refl _).alloc _)).keeps k, ((hk.alloc _).alloc _).trans k, by omega, by omega, by omega, by omega, by omega, by omega⟩
theorem ofN_eta {n : Nat} {x0 x1 x2 x3 : Int} (e0 : x0 = ((n / 1048576 : Nat) : Int)) (e1 : x1 = ((n / 524288 % 2 : Nat) : Int)) (e2 : x2 = ((n / 262144 % 2 : Nat) : Int)) (e3 : x3 = ((n % 262144 : Nat) : Int)) : ofN n = ⟨x0, x1 != 0, x2 != 0, x3⟩ := by
  have d : ∀ n : Nat, n ≤ 1 → decide (n = 1) = ((n : Int) != 0) := by
    intro n hn
    have : n = 0 ∨ n = 1 := by omega
    rcases this with rfl | rfl <;> decide
  subst e0 e1 e2 e3
  unfold ofN
  rw [d _ (by omega), d _ (by omega)]
set_option maxHeartbeats 3200000 in
theorem tmdecode_any (w0 : World) (s : ByteArray) (w : World) (hk : Keeps w0 w) : Calls Try.prog 19 #[.string s] w (DcPost w0 (dcT (ls s))) := by
  obtain ⟨b, hbw⟩ : ∃ b, w.heap.size = b := ⟨_, rfl⟩
  by_cases h4 : s.size = 4
  · have hl : (ls s).length = 4 := by rw [← ls_size]; exact h4
    obtain ⟨v0, v1, v2, v3⟩ := gets4 hl
    have HD := Lib.hid (dcT_ok hl)
    have hnl := n4_lt (ls s)
    obtain ⟨n, hn⟩ : ∃ n, n4 (ls s) = n := ⟨_, rfl⟩
    rw [hn] at v0 v1 v2 v3 hnl HD
    obtain ⟨x0, e0⟩ : ∃ x, x = ((n / 1048576 : Nat) : Int) := ⟨_, rfl⟩
    obtain ⟨x1, e1⟩ : ∃ x, x = ((n / 524288 % 2 : Nat) : Int) := ⟨_, rfl⟩
    obtain ⟨x2, e2⟩ : ∃ x, x = ((n / 262144 % 2 : Nat) : Int) := ⟨_, rfl⟩
    obtain ⟨x3, e3⟩ : ∃ x, x = ((n % 262144 : Nat) : Int) := ⟨_, rfl⟩
    have y0 : 0 ≤ x0 ∧ x0 ≤ 4095 := by omega
    have y3 : 0 ≤ x3 ∧ x3 ≤ 262143 := by omega
    have HE := Lib.hid (ofN_eta e0 e1 e2 e3)
    obtain ⟨wA, hA⟩ : ∃ wA, (w.alloc (.cells #[.int .i64 0, .bool false, .bool false, .int .i64 0] 34)).alloc (.cells #[.int .i64 0, .bool false, .bool false, .int .i64 0] 34) = wA := ⟨_, rfl⟩
    have hzA : wA.heap.size = b + 2 := by rw [← hA]; simp [hbw]
    have RD := Lib.hid (read_any s wA)
    rw [hzA] at RD
    have ST := Lib.hid (fun w2 => Rtm.start (w2 := w2) (s := s) hk hbw hA)
    have G0 := Lib.hid (fun S W (h : Rtm w0 (b + 2) b (b + 1) s 0 S W) => h.get (v := x0) 12 (by rw [v0, e0]; rfl) rfl (by decide) (by omega) (by omega))
    have G1 := Lib.hid (fun S W (h : Rtm w0 (b + 2) b (b + 1) s 12 S W) => h.get (v := x1) 1 (by rw [v1, e1]; rfl) rfl (by decide) (by omega) (by omega))
    have G2 := Lib.hid (fun S W (h : Rtm w0 (b + 2) b (b + 1) s 13 S W) => h.get (v := x2) 1 (by rw [v2, e2]; rfl) rfl (by decide) (by omega) (by omega))
    have G3 := Lib.hid (fun S W (h : Rtm w0 (b + 2) b (b + 1) s 14 S W) => h.get (v := x3) 18 (by rw [v3, e3]; rfl) rfl (by decide) (by omega) (by omega))
    have hA' := hA
    have hsz : (s.size : Int) = 4 := by omega
    clear v0 v1 v2 v3 e0 e1 e2 e3 hnl hn hk hA hl h4
    have q0 : zt.dt = 0 := rfl
    go_enter Try.func19, Try.ntmps19
    go_wp2_with (first | (go_at_call 42; refine RD.out.mono ?_; rintro _ w1 ⟨rfl, i1, k1⟩; have R0 := Lib.hid (ST.out _ i1 k1); clear i1 k1 RD ST)  | (go_at_call 43; refine (G0.out _ _ R0.out).mono ?_; rintro _ v0 ⟨rfl, r⟩; have q0 := r.a.c0; have f0 := r.a.fz 0 (by decide); have R1 := Lib.hid (r.set0 x0); clear r R0 G0)  | (go_at_call 43; refine (G1.out _ _ R1.out).mono ?_; rintro _ v1 ⟨rfl, r⟩; have q1 := r.a.c1; have f1 := r.a.fz 1 (by decide); have R2 := Lib.hid (r.set1 (x1 != 0)); clear r R1 G1)  | (go_at_call 43; refine (G2.out _ _ R2.out).mono ?_; rintro _ v2 ⟨rfl, r⟩; have q2 := r.a.c2; have f2 := r.a.fz 2 (by decide); have R3 := Lib.hid (r.set2 (x2 != 0)); clear r R2 G2)  | (go_at_call 43; refine (G3.out _ _ R3.out).mono ?_; rintro _ v3 ⟨rfl, r⟩; have q3 := r.a.c3; have f3 := r.a.fz 3 (by decide); have R4 := Lib.hid (r.set3 x3); clear r R3 G3)  | (refine wp_ldT (b := b + 1) (off := 0) R4.out.a.range rfl _ rfl rfl ?_)  | (refine wp_stT (b := b) (off := 0) ⟨x0, x1 != 0, x2 != 0, x3⟩ R4.out.z.there rfl _ _ rfl rfl rfl ?_))
    have E := R4.out.ends ⟨x0, x1 != 0, x2 != 0, x3⟩
    exact tm_ret2 Try.results19 (lvT E.1) rfl rfl rfl (DcPost.of (by rw [HD.out, HE.out]) E.2)
  · obtain ⟨wA, hA⟩ : ∃ wA, w.alloc (.cells #[.int .i64 0, .bool false, .bool false, .int .i64 0] 34) = wA := ⟨_, rfl⟩
    have A0 := Lib.hid (show TmAt b zt wA by rw [← hA, ← hbw]; exact TmAt.made w zt 34)
    have K0 := Lib.hid (show Keeps w0 (wA.setCells b 0 (tmC zt)) by rw [← hA]; exact (only_setCells b (tmC zt) 0 _).keeps (hk.alloc _) (by rw [← hbw]; exact Below.size hk))
    clear hk
    by_cases h5 : s.size < 4
    · have HD := Lib.hid (dcT_short (l := ls s) (by rw [← ls_size]; exact h5))
      have i5 : (s.size : Int) < 4 := by omega
      clear h4 h5
      go_enter Try.func19, Try.ntmps19
      go_wp2_with (refine wp_stT (b := b) (off := 0) zt A0.out.there rfl _ _ rfl rfl rfl ?_)
      exact tm_ret2 Try.results19 (lvT (A0.out.store zt)) rfl rfl rfl (DcPost.of HD.out K0.out)
    · have HD := Lib.hid (dcT_long (l := ls s) (by rw [← ls_size]; omega))
      have i5 : ¬ (s.size : Int) < 4 := by omega
      have i6 : (4 : Int) < (s.size : Int) := by omega
      clear h4 h5
      go_enter Try.func19, Try.ntmps19
      go_wp2_with (refine wp_stT (b := b) (off := 0) zt A0.out.there rfl _ _ rfl rfl rfl ?_)
      exact tm_ret2 Try.results19 (lvT (A0.out.store zt)) rfl rfl rfl (DcPost.of HD.out K0.out)
end Go.Proofs.Ytofnokikjfmfgaa
