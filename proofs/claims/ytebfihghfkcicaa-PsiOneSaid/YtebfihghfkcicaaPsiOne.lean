/-
  For any bytes t, any place, and any turn of the byte there PsiOne returns true; nothing that was there is changed.
-/
import Derived.Test.YtebfihghfkcicaaRows
import Derived.Test.YtebfihghfkcicaaPsImp
import Derived.Test.YtebfihghfkcicaaPsApi
namespace Go.Proofs.Ytebfihghfkcicaa.psiOne
open Go.ChangeShapes Go.WideShapes Go.ChangeAt Go.RowKit Gf Ps
open Go.ChangeMaps (open_string shut_string)
set_option maxRecDepth 100000
set_option linter.unusedVariables false
theorem xor8 (a b : UInt8) : bits BinOp.xor IntKind.u8 (a.toNat : Int) (b.toNat : Int) = ((a ^^^ b).toNat : Int) := by
  rw [u8_xor_nat _ _ a.toNat_lt b.toNat_lt, UInt8.toNat_xor]
theorem set_split {l : List UInt8} {k : Nat} (h : k < l.length) (z : UInt8) : l.take k ++ [z] ++ l.drop (k + 1) = l.set k z := by
  rw [List.set_eq_take_append_cons_drop, if_pos h]; simp
def vsO (S A q B1 R X : ByteArray) (a : Int) (x u y : Int) (γ : Nat) : List Value :=
  [.string S, .int .i64 a, .string A, .string S, .int .i64 a, .int .u8 x, .int .u8 u, .int .u8 y, .slice (some ⟨γ, 0, none⟩) 1 1, .string q, .string B1, .string S, .int .i64 a, .int .i64 (a + 1), .string R, .string X, .string X]
theorem vsO_a {S A q B1 R X : ByteArray} {a x u y : Int} {γ g : Nat} {L : Nat → Bool} (h : L 8 = false) : ∀ j, L j = true → (vsO S A q B1 R X a x u y g).getD j undef = (vsO S A q B1 R X a x u y γ).getD j undef := by
  intro j hj
  by_cases e : j = 8
  · subst e; rw [h] at hj; cases hj
  · rcases j with _ | _ | _ | _ | _ | _ | _ | _ | _ | _ | _ | _ | _ | _ | _ | _ | _ | j <;> first | rfl | exact absurd rfl e
structure PR (w1 : World) (zl : List UInt8) (γ : Nat) (L : Nat → Bool) (W : World) : Prop where
  kp : Keeps w1 W
  one : L 8 = true → Blk γ zl W
theorem PR.on {w1 : World} {zl : List UInt8} {γ : Nat} {L L' : Nat → Bool} {W W' : World} (h : PR w1 zl γ L W) {i : Nat} (h8 : 8 ≠ i) (k : ∀ j, L' j = true ↔ (L j = true ∨ j = i)) (hk : Keeps W W') : PR w1 zl γ L' W' :=
  ⟨h.kp.trans hk, fun x => (h.one (same_at k h8 ▸ x)).below hk⟩
theorem PR.same {w1 : World} {zl : List UInt8} {γ : Nat} {L L' : Nat → Bool} {W : World} (h : PR w1 zl γ L W) {i : Nat} (h8 : 8 ≠ i) (k : ∀ j, L' j = true ↔ (L j = true ∨ j = i)) : PR w1 zl γ L' W := h.on h8 k (Keeps.refl W)
theorem wp_ldPat {ops : Array Oper} {rest : List Oper} {o : Oper} {u : Act} {w : World} {Q : Exit → Act → World → Prop} {b : Nat} {s v : Int} {a : Option Addr} {n cap : Nat} (h : w.rangeAt b 0 [.int .i64 s, .int .i64 v, .slice a n cap]) (hgd : o.guard = none) (x : Operand) (ho : o.op = .load 24 x)
    (hx : u.eval x = .pointer (some ⟨b, 0, none⟩)) (k : wpList Try.prog ops Q rest (u.put o.dst (.agg #[.int .i64 s, .int .i64 v, .slice a n cap])) w) : wpList Try.prog ops Q (o :: rest) u w :=
  wpList_load_mid hgd _ x ho b 0 hx [.int .i64 s, .int .i64 v, .slice a n cap] _ h Try.underlying24 rfl (by kernel_rfl) k
theorem wp_ldPmt {ops : Array Oper} {rest : List Oper} {o : Oper} {u : Act} {w : World} {Q : Exit → Act → World → Prop} {b : Nat} {p v c : Int} {i : ByteArray} {a : Option Addr} {n cap : Nat} (h : w.rangeAt b 0 [.int .i64 p, .int .i64 v, .int .i64 c, .string i, .slice a n cap]) (hgd : o.guard = none) (x : Operand) (ho : o.op = .load 27 x)
    (hx : u.eval x = .pointer (some ⟨b, 0, none⟩)) (k : wpList Try.prog ops Q rest (u.put o.dst (.agg #[.int .i64 p, .int .i64 v, .int .i64 c, .string i, .slice a n cap])) w) : wpList Try.prog ops Q (o :: rest) u w :=
  wpList_load_mid hgd _ x ho b 0 hx [.int .i64 p, .int .i64 v, .int .i64 c, .string i, .slice a n cap] _ h Try.underlying27 rfl (by kernel_rfl) k
theorem c_long (A : PsApi) (t : ByteArray) (at' : Int) (y : Int) (w : World) (hO : A.Ok w) (h : 2000 < t.size) :
    Calls Try.prog 4 #[.string t, .int .i64 at', .int .u8 y] w fun e w' => e = .returned (.bool true) ∧ Below w.heap.size w w' := by
  have HW := Lib.hid (fun W (k : Keeps w W) => awake17_any A w W k (A.okK hO k))
  have hi : (2000 : Int) < (t.size : Int) := by omega
  clear h hO
  go_enter Try.func4, Try.ntmps4
  go_wp2_with (go_at_call 8; refine (HW.out _ (Keeps.refl w)).mono ?_; rintro _ w9 ⟨rfl, k9⟩; have HK9 := Lib.hid k9; clear k9)
  go_ret
  exact ⟨rfl, HK9.out⟩
set_option maxHeartbeats 1600000 in
theorem c_none (A : PsApi) (t : ByteArray) (at' : Int) (y : Int) (w : World) (hO : A.Ok w) (h : t.size ≤ 2000) (hp : ∀ x, PatOk x → patE x ≠ ls t) (hm : ∀ x, PmtOk x → pmtE x ≠ ls t) :
    Calls Try.prog 4 #[.string t, .int .i64 at', .int .u8 y] w fun e w' => e = .returned (.bool true) ∧ Below w.heap.size w w' := by
  have HW := Lib.hid (fun W (k : Keeps w W) => awake17_any A w W k (A.okK hO k))
  have hi : ¬ (2000 : Int) < (t.size : Int) := by omega
  have HDP := Lib.hid (fun W (k : Keeps w W) => A.dpNo t (A.okK hO k) h hp)
  have HDM := Lib.hid (fun W (k : Keeps w W) => A.dmNo t (A.okK hO k) h hm)
  clear h hO hp hm
  go_enter Try.func4, Try.ntmps4
  go_wp2_with (first | (go_at_call 10; (with_reducible refine (HDP.out _ (Keeps.refl w)).mono ?_); rintro _ w1 ⟨⟨a1, c1, r1, rfl, h1⟩, k1⟩; have hb1 : (r1 == 0) = false := beq_eq_false_iff_ne.2 h1; have hn1 : (r1 != 0) = true := bne_iff_ne.2 h1; have HK1 := Lib.hid ((Keeps.refl w).trans k1); clear k1 h1) | (go_at_call 11; (with_reducible refine (HDM.out _ (HK1.out.alloc _)).mono ?_); rintro _ w2 ⟨⟨a2, c2, r2, rfl, h2⟩, k2⟩; have hb2 : (r2 == 0) = false := beq_eq_false_iff_ne.2 h2; have hn2 : (r2 != 0) = true := bne_iff_ne.2 h2; have HK2 := Lib.hid ((HK1.out.alloc _).trans k2); clear k2 h2) | (go_at_call 8; refine (HW.out _ (HK2.out.alloc _)).mono ?_; rintro _ w9 ⟨rfl, k9⟩; have HK9 := Lib.hid k9; clear k9))
  go_ret
  exact ⟨rfl, HK9.out⟩
set_option maxHeartbeats 1600000 in
theorem c_pat_lo (A : PsApi) (t : ByteArray) (at' : Int) (y : Int) (w : World) (hO : A.Ok w) (h : t.size ≤ 2000) (x : Pat) (hx : PatOk x) (hl : ls t = patE x) (g : at' < 0) :
    Calls Try.prog 4 #[.string t, .int .i64 at', .int .u8 y] w fun e w' => e = .returned (.bool true) ∧ Below w.heap.size w w' := by
  have HW := Lib.hid (fun W (k : Keeps w W) => awake17_any A w W k (A.okK hO k))
  have hi : ¬ (2000 : Int) < (t.size : Int) := by omega
  have HDP := Lib.hid (fun W (k : Keeps w W) => A.dpOk t (A.okK hO k) hx hl)
  have HDM := Lib.hid (fun W (k : Keeps w W) => A.dmPat t (A.okK hO k) hx hl)
  have HE := Lib.hid (fun a c W (k : Keeps w W) (h : IsE rowPr W a x.l.length x.l) (h1 : x.l.length ≤ c) (h2 : c ≤ maxLen) => A.epOk (x := x) h h1 h2 (A.okK hO k) hx)
  have hst : st (patE x) = t := by rw [← hl, st_ls]
  simp only [hst] at HE
  obtain ⟨str, ver, l⟩ := x
  obtain ⟨n, hn⟩ : ∃ n, l.length = n := ⟨_, rfl⟩
  simp only [patV, hn] at HDP HE
  clear hst hn
  clear h hO hx hl
  go_enter Try.func4, Try.ntmps4
  go_wp2_with (first | (go_at_call 10; (with_reducible refine (HDP.out _ (Keeps.refl w)).mono ?_); rintro _ w1 ⟨⟨a1, c1, rfl, i1, l1, m1⟩, k1⟩; have HK1 := Lib.hid k1; have HL1 := Lib.hid l1; have HM1 := Lib.hid m1; have HI1 := Lib.hid (i1.keeps ((Keeps.refl w1).alloc (.cells #[.int .i64 str, .int .i64 ver, .slice a1 n c1] 24))); have HB1 := Lib.hid (CsAt.made w1 #[.int .i64 str, .int .i64 ver, .slice a1 n c1] 24 (by simp)); obtain ⟨b1, hb1⟩ : ∃ b, w1.heap.size = b := ⟨_, rfl⟩; rw [hb1] at HB1; clear k1 l1 m1 i1) | (go_at_call 11; (with_reducible refine (HDM.out _ (HK1.out.alloc _)).mono ?_); rintro _ w2 ⟨⟨a2, c2, rfl⟩, k2⟩; have HK2 := Lib.hid (((HK1.out.alloc _).trans k2).alloc (.cells #[.int .i64 0, .int .i64 0, .int .i64 0, .string ⟨#[]⟩, .slice a2 0 c2] 27)); have HI2 := Lib.hid ((HI1.out.keeps k2).keeps ((Keeps.refl w2).alloc (.cells #[.int .i64 0, .int .i64 0, .int .i64 0, .string ⟨#[]⟩, .slice a2 0 c2] 27))); have HB2 := Lib.hid ((HB1.out.keeps k2).keeps ((Keeps.refl w2).alloc (.cells #[.int .i64 0, .int .i64 0, .int .i64 0, .string ⟨#[]⟩, .slice a2 0 c2] 27))); clear k2) | (refine wp_ldPat (b := b1) HB2.out.r rfl _ rfl rfl ?_) | (go_at_call 9; refine (HE.out _ _ _ HK2.out HI2.out HL1.out HM1.out).mono ?_; rintro _ w3 ⟨rfl, k3⟩; have HK3 := Lib.hid (HK2.out.trans k3); clear k3) | (go_at_call 8; refine (HW.out _ (HK3.out)).mono ?_; rintro _ w9 ⟨rfl, k9⟩; have HK9 := Lib.hid k9; clear k9))
  go_ret
  exact ⟨rfl, HK9.out⟩
set_option maxHeartbeats 1600000 in
theorem c_pat_hi (A : PsApi) (t : ByteArray) (at' : Int) (y : Int) (w : World) (hO : A.Ok w) (h : t.size ≤ 2000) (x : Pat) (hx : PatOk x) (hl : ls t = patE x) (g : ¬ at' < 0 ∧ (t.size : Int) ≤ at') :
    Calls Try.prog 4 #[.string t, .int .i64 at', .int .u8 y] w fun e w' => e = .returned (.bool true) ∧ Below w.heap.size w w' := by
  have HW := Lib.hid (fun W (k : Keeps w W) => awake17_any A w W k (A.okK hO k))
  have hi : ¬ (2000 : Int) < (t.size : Int) := by omega
  have HDP := Lib.hid (fun W (k : Keeps w W) => A.dpOk t (A.okK hO k) hx hl)
  have HDM := Lib.hid (fun W (k : Keeps w W) => A.dmPat t (A.okK hO k) hx hl)
  have HE := Lib.hid (fun a c W (k : Keeps w W) (h : IsE rowPr W a x.l.length x.l) (h1 : x.l.length ≤ c) (h2 : c ≤ maxLen) => A.epOk (x := x) h h1 h2 (A.okK hO k) hx)
  have hst : st (patE x) = t := by rw [← hl, st_ls]
  simp only [hst] at HE
  obtain ⟨str, ver, l⟩ := x
  obtain ⟨n, hn⟩ : ∃ n, l.length = n := ⟨_, rfl⟩
  simp only [patV, hn] at HDP HE
  clear hst hn
  obtain ⟨g1, g2⟩ := g
  clear h hO hx hl
  go_enter Try.func4, Try.ntmps4
  go_wp2_with (first | (go_at_call 10; (with_reducible refine (HDP.out _ (Keeps.refl w)).mono ?_); rintro _ w1 ⟨⟨a1, c1, rfl, i1, l1, m1⟩, k1⟩; have HK1 := Lib.hid k1; have HL1 := Lib.hid l1; have HM1 := Lib.hid m1; have HI1 := Lib.hid (i1.keeps ((Keeps.refl w1).alloc (.cells #[.int .i64 str, .int .i64 ver, .slice a1 n c1] 24))); have HB1 := Lib.hid (CsAt.made w1 #[.int .i64 str, .int .i64 ver, .slice a1 n c1] 24 (by simp)); obtain ⟨b1, hb1⟩ : ∃ b, w1.heap.size = b := ⟨_, rfl⟩; rw [hb1] at HB1; clear k1 l1 m1 i1) | (go_at_call 11; (with_reducible refine (HDM.out _ (HK1.out.alloc _)).mono ?_); rintro _ w2 ⟨⟨a2, c2, rfl⟩, k2⟩; have HK2 := Lib.hid (((HK1.out.alloc _).trans k2).alloc (.cells #[.int .i64 0, .int .i64 0, .int .i64 0, .string ⟨#[]⟩, .slice a2 0 c2] 27)); have HI2 := Lib.hid ((HI1.out.keeps k2).keeps ((Keeps.refl w2).alloc (.cells #[.int .i64 0, .int .i64 0, .int .i64 0, .string ⟨#[]⟩, .slice a2 0 c2] 27))); have HB2 := Lib.hid ((HB1.out.keeps k2).keeps ((Keeps.refl w2).alloc (.cells #[.int .i64 0, .int .i64 0, .int .i64 0, .string ⟨#[]⟩, .slice a2 0 c2] 27))); clear k2) | (refine wp_ldPat (b := b1) HB2.out.r rfl _ rfl rfl ?_) | (go_at_call 9; refine (HE.out _ _ _ HK2.out HI2.out HL1.out HM1.out).mono ?_; rintro _ w3 ⟨rfl, k3⟩; have HK3 := Lib.hid (HK2.out.trans k3); clear k3) | (go_at_call 8; refine (HW.out _ (HK3.out)).mono ?_; rintro _ w9 ⟨rfl, k9⟩; have HK9 := Lib.hid k9; clear k9))
  go_ret
  exact ⟨rfl, HK9.out⟩
set_option maxHeartbeats 1600000 in
theorem c_pat_no (A : PsApi) (t : ByteArray) (at' : Int) (y : Int) (w : World) (hO : A.Ok w) (h : t.size ≤ 2000) (x : Pat) (hx : PatOk x) (hl : ls t = patE x) (g : ¬ at' < 0 ∧ ¬ (t.size : Int) ≤ at' ∧ y = 0) :
    Calls Try.prog 4 #[.string t, .int .i64 at', .int .u8 y] w fun e w' => e = .returned (.bool true) ∧ Below w.heap.size w w' := by
  have HW := Lib.hid (fun W (k : Keeps w W) => awake17_any A w W k (A.okK hO k))
  have hi : ¬ (2000 : Int) < (t.size : Int) := by omega
  have HDP := Lib.hid (fun W (k : Keeps w W) => A.dpOk t (A.okK hO k) hx hl)
  have HDM := Lib.hid (fun W (k : Keeps w W) => A.dmPat t (A.okK hO k) hx hl)
  have HE := Lib.hid (fun a c W (k : Keeps w W) (h : IsE rowPr W a x.l.length x.l) (h1 : x.l.length ≤ c) (h2 : c ≤ maxLen) => A.epOk (x := x) h h1 h2 (A.okK hO k) hx)
  have hst : st (patE x) = t := by rw [← hl, st_ls]
  simp only [hst] at HE
  obtain ⟨str, ver, l⟩ := x
  obtain ⟨n, hn⟩ : ∃ n, l.length = n := ⟨_, rfl⟩
  simp only [patV, hn] at HDP HE
  clear hst hn
  obtain ⟨g1, g2, rfl⟩ := g
  clear h hO hx hl
  go_enter Try.func4, Try.ntmps4
  go_wp2_with (first | (go_at_call 10; (with_reducible refine (HDP.out _ (Keeps.refl w)).mono ?_); rintro _ w1 ⟨⟨a1, c1, rfl, i1, l1, m1⟩, k1⟩; have HK1 := Lib.hid k1; have HL1 := Lib.hid l1; have HM1 := Lib.hid m1; have HI1 := Lib.hid (i1.keeps ((Keeps.refl w1).alloc (.cells #[.int .i64 str, .int .i64 ver, .slice a1 n c1] 24))); have HB1 := Lib.hid (CsAt.made w1 #[.int .i64 str, .int .i64 ver, .slice a1 n c1] 24 (by simp)); obtain ⟨b1, hb1⟩ : ∃ b, w1.heap.size = b := ⟨_, rfl⟩; rw [hb1] at HB1; clear k1 l1 m1 i1) | (go_at_call 11; (with_reducible refine (HDM.out _ (HK1.out.alloc _)).mono ?_); rintro _ w2 ⟨⟨a2, c2, rfl⟩, k2⟩; have HK2 := Lib.hid (((HK1.out.alloc _).trans k2).alloc (.cells #[.int .i64 0, .int .i64 0, .int .i64 0, .string ⟨#[]⟩, .slice a2 0 c2] 27)); have HI2 := Lib.hid ((HI1.out.keeps k2).keeps ((Keeps.refl w2).alloc (.cells #[.int .i64 0, .int .i64 0, .int .i64 0, .string ⟨#[]⟩, .slice a2 0 c2] 27))); have HB2 := Lib.hid ((HB1.out.keeps k2).keeps ((Keeps.refl w2).alloc (.cells #[.int .i64 0, .int .i64 0, .int .i64 0, .string ⟨#[]⟩, .slice a2 0 c2] 27))); clear k2) | (refine wp_ldPat (b := b1) HB2.out.r rfl _ rfl rfl ?_) | (go_at_call 9; refine (HE.out _ _ _ HK2.out HI2.out HL1.out HM1.out).mono ?_; rintro _ w3 ⟨rfl, k3⟩; have HK3 := Lib.hid (HK2.out.trans k3); clear k3) | (go_at_call 8; refine (HW.out _ (HK3.out)).mono ?_; rintro _ w9 ⟨rfl, k9⟩; have HK9 := Lib.hid k9; clear k9))
  go_ret
  exact ⟨rfl, HK9.out⟩
set_option maxHeartbeats 3200000 in
theorem c_pat_in (A : PsApi) (t : ByteArray) (a : Nat) (y : UInt8) (w : World) (hO : A.Ok w) (h : t.size ≤ 2000) (x : Pat) (hx : PatOk x) (hl : ls t = patE x) (ha : a < t.size) (hy : y ≠ 0) :
    Calls Try.prog 4 #[.string t, .int .i64 (a : Int), .int .u8 (y.toNat : Int)] w fun e w' => e = .returned (.bool true) ∧ Below w.heap.size w w' := by
  have HW := Lib.hid (fun W (k : Keeps w W) => awake17_any A w W k (A.okK hO k))
  have hi : ¬ (2000 : Int) < (t.size : Int) := by omega
  have htab : isTab (ls t) := Or.inl ⟨x, hx, hl.symm⟩
  have HNT := Lib.hid (fun (u : ByteArray) (hu : u.size ≤ 2000) (hn : ¬ isTab (ls u)) W (k : Keeps w W) => A.dpNo u (A.okK hO k) hu (fun z hz e => hn (.inl ⟨z, hz, e⟩)))
  have HNM := Lib.hid (fun (u : ByteArray) (hu : u.size ≤ 2000) (hn : ¬ isTab (ls u)) W (k : Keeps w W) => A.dmNo u (A.okK hO k) hu (fun z hz e => hn (.inr ⟨z, hz, e⟩)))
  have HDP := Lib.hid (fun W (k : Keeps w W) => A.dpOk t (A.okK hO k) hx hl)
  have HDM := Lib.hid (fun W (k : Keeps w W) => A.dmPat t (A.okK hO k) hx hl)
  have HE := Lib.hid (fun a c W (k : Keeps w W) (h : IsE rowPr W a x.l.length x.l) (h1 : x.l.length ≤ c) (h2 : c ≤ maxLen) => A.epOk (x := x) h h1 h2 (A.okK hO k) hx)
  have hst : st (patE x) = t := by rw [← hl, st_ls]
  simp only [hst] at HE
  obtain ⟨str, ver, l⟩ := x
  obtain ⟨n, hn⟩ : ∃ n, l.length = n := ⟨_, rfl⟩
  simp only [patV, hn] at HDP HE
  clear hst hn
  obtain ⟨A0, hA⟩ : ∃ A0, t.extract 0 a = A0 := ⟨_, rfl⟩
  have hzA : A0.size = a := by rw [← hA, ByteArray.size_extract]; omega
  have hzi : (a : Int) < (t.size : Int) := by omega
  have hzj : (a : Int) ≤ (t.size : Int) := by omega
  have g := ls_get t a ha
  have hal : a < (ls t).length := by rw [← ls_size]; exact ha
  obtain ⟨c, hc⟩ : ∃ c, cf (ls t) a = c := ⟨_, rfl⟩
  rw [hc] at g
  obtain ⟨z, hz⟩ : ∃ z, c ^^^ y = z := ⟨_, rfl⟩
  have hne : z ≠ c := by
    intro e; rw [← hz] at e
    have := congrArg (c ^^^ ·) e
    simp only [← UInt8.xor_assoc, UInt8.xor_self, UInt8.zero_xor] at this
    exact hy this
  have hzx := xor8 c y
  rw [hz] at hzx
  have hyz : ((y.toNat : Int) == 0) = false := by
    rw [beq_eq_false_iff_ne]; intro e; exact hy (UInt8.toNat_inj.1 (by rw [show (0 : UInt8).toNat = 0 from rfl]; omega))
  obtain ⟨R, hR⟩ : ∃ R, t.extract (a + 1) t.size = R := ⟨_, rfl⟩
  have hzR : R.size ≤ 2000 := by rw [← hR, ByteArray.size_extract]; omega
  obtain ⟨q, hq⟩ : ∃ q, st [z] = q := ⟨_, rfl⟩
  have hzq : q.size = 1 := by rw [← hq]; rfl
  obtain ⟨B1, hB1⟩ : ∃ B, A0 ++ q = B := ⟨_, rfl⟩
  have hzB : B1.size = a + 1 := by rw [← hB1, ByteArray.size_append, hzA, hzq]
  obtain ⟨T, hT⟩ : ∃ T, B1 ++ R = T := ⟨_, rfl⟩
  have hlT : ls T = (ls t).set a z := by
    rw [← hT, ← hB1, ls_append, ls_append, ← hA, ← hR, ← hq, ls_st, ls_part, ls_part, ← set_split hal z]
    rw [Nat.sub_zero, List.drop_zero, show ((ls t).drop (a + 1)).take (t.size - (a + 1)) = (ls t).drop (a + 1) from List.take_of_length_le (by rw [List.length_drop, ls_size]; exact Nat.le_refl _)]
  have hzT : T.size ≤ 2000 := by rw [ls_size, hlT, List.length_set, ← ls_size]; exact h
  have hdn : ¬ isTab (ls T) := by
    refine tab_turn htab (by rw [hlT, List.length_set]) a (fun i hi hn => ?_) (fun e => ?_)
    · by_cases k : i = a
      · exact k
      · rw [hlT, cf_set _ _ _ hal, if_neg k] at hn
        exact absurd rfl hn
    · have h1 : cf (ls T) a = z := by rw [hlT, cf_set _ _ _ hal, if_pos rfl]
      rw [e, hc] at h1
      exact hne h1.symm
  have HDT := Lib.hid (fun W k => HNT.out T hzT hdn W k)
  have HDU := Lib.hid (fun W k => HNM.out T hzT hdn W k)
  have HQ := Lib.hid hq
  have HCL := Lib.hid (show (#[.int .u8 (z.toNat : Int)] : Array Value) = ([z].map B).toArray from rfl)
  have ha1 : (a : Int) + 1 ≤ (t.size : Int) := by omega
  have ha0 : ¬ (a : Int) < 0 := by omega
  have hge : ¬ (t.size : Int) ≤ (a : Int) := by omega
  have wr1 := wrapI (a := (a : Int) + 1) (by omega) (by omega)
  clear hq hne hc hz hy hal hlT hdn htab h hO hx hl HNT HNM
  go_enter Try.func4, Try.ntmps4
  go_wp2_with (first | (go_at_call 10; (with_reducible refine (HDP.out _ (Keeps.refl w)).mono ?_); rintro _ w1 ⟨⟨a1, c1, rfl, i1, l1, m1⟩, k1⟩; have HK1 := Lib.hid k1; have HL1 := Lib.hid l1; have HM1 := Lib.hid m1; have HI1 := Lib.hid (i1.keeps ((Keeps.refl w1).alloc (.cells #[.int .i64 str, .int .i64 ver, .slice a1 n c1] 24))); have HB1 := Lib.hid (CsAt.made w1 #[.int .i64 str, .int .i64 ver, .slice a1 n c1] 24 (by simp)); obtain ⟨b1, hb1⟩ : ∃ b, w1.heap.size = b := ⟨_, rfl⟩; rw [hb1] at HB1; clear k1 l1 m1 i1) | (go_at_call 11; (with_reducible refine (HDM.out _ (HK1.out.alloc _)).mono ?_); rintro _ w2 ⟨⟨a2, c2, rfl⟩, k2⟩; have HK2 := Lib.hid (((HK1.out.alloc _).trans k2).alloc (.cells #[.int .i64 0, .int .i64 0, .int .i64 0, .string ⟨#[]⟩, .slice a2 0 c2] 27)); have HI2 := Lib.hid ((HI1.out.keeps k2).keeps ((Keeps.refl w2).alloc (.cells #[.int .i64 0, .int .i64 0, .int .i64 0, .string ⟨#[]⟩, .slice a2 0 c2] 27))); have HB2 := Lib.hid ((HB1.out.keeps k2).keeps ((Keeps.refl w2).alloc (.cells #[.int .i64 0, .int .i64 0, .int .i64 0, .string ⟨#[]⟩, .slice a2 0 c2] 27))); clear k2) | (refine wp_ldPat (b := b1) HB2.out.r rfl _ rfl rfl ?_) | (go_at_call 9; refine (HE.out _ _ _ HK2.out HI2.out HL1.out HM1.out).mono ?_; rintro _ w3 ⟨rfl, k3⟩; have HK3 := Lib.hid (HK2.out.trans k3); clear k3))
  refine wp_draw_h (Γ := Nat) (by kernel_rfl) (vsO t A0 q B1 R T (a : Int) (c.toNat : Int) (y.toNat : Int) (z.toNat : Int)) (fun γ => PR w3 [z] γ) rfl (by kernel_rfl) ?fin ?hfin 0 ⟨(Keeps.refl w3).eqv (Eqv.drew w3), (fun x => by cases x)⟩ ?each ?hend
  case hfin => intro γ; simp [vsO, seqA, dstOf, Act.put]; rfl
  case each =>
    refine ⟨?_, ?_, ?_, ?_, ?_, ?_, ?_, ?_, ?_, ?_, ?_, ?_, ?_, ?_, ?_, ?_, ?_, trivial⟩
    all_goals intro γ L w5 h0 hd hs hw
    all_goals unfold Does
    all_goals try simp only [Nat.zero_add, Nat.reduceAdd] at h0
    rotate_left 9
    · have hcv := (hw.one (hd 8 (by kernel_rfl))).whole 1 (n := 1) rfl
      rw [HQ.out] at hcv
      go_simp
      exact Goes.on (fun _ => rfl) fun L' k => hw.same (by decide) k
    all_goals have f1 : ¬ 9223372036854775807 < a + 1 := by omega
    all_goals have f2 : ¬ 9223372036854775807 < a + 1 + R.size := by omega
    all_goals have f3 : a ≤ t.size := by omega
    all_goals go_simp
    all_goals try exact Goes.on (fun _ => rfl) fun L' k => hw.same (by decide) k
    · refine ⟨w5.heap.size, vsO_a h0, fun _ => rfl, fun L' k => ?_⟩
      have ka : Keeps w5 (w5.alloc (.cells #[.int .u8 (z.toNat : Int)] 5)) := (Keeps.refl w5).alloc _
      exact ⟨hw.kp.trans ka, fun _ => by rw [HCL.out]; exact Blk.lit w5 [z] _⟩
  case hend =>
    intro γ L w6 hL hw
    have HK6 := Lib.hid (HK3.out.trans hw.kp)
    clear hw hL
    go_wp2_with (first | (go_at_call 10; (with_reducible refine (HDT.out _ (HK6.out)).mono ?_); rintro _ w7 ⟨⟨a1, c1, r1, rfl, h1⟩, k1⟩; have hb1 : (r1 == 0) = false := beq_eq_false_iff_ne.2 h1; have hn1 : (r1 != 0) = true := bne_iff_ne.2 h1; have HK7 := Lib.hid ((HK6.out).trans k1); clear k1 h1) | (go_at_call 11; (with_reducible refine (HDU.out _ (HK7.out)).mono ?_); rintro _ w8 ⟨⟨a2, c2, r2, rfl, h2⟩, k2⟩; have hb2 : (r2 == 0) = false := beq_eq_false_iff_ne.2 h2; have hn2 : (r2 != 0) = true := bne_iff_ne.2 h2; have HK8 := Lib.hid ((HK7.out).trans k2); clear k2 h2) | (go_at_call 8; refine (HW.out _ (HK8.out)).mono ?_; rintro _ w9 ⟨rfl, k9⟩; have HK9 := Lib.hid k9; clear k9))
    go_ret
    exact ⟨rfl, HK9.out⟩
set_option maxHeartbeats 1600000 in
theorem c_pmt_lo (A : PsApi) (t : ByteArray) (at' : Int) (y : Int) (w : World) (hO : A.Ok w) (h : t.size ≤ 2000) (x : Pmt) (hx : PmtOk x) (hl : ls t = pmtE x) (g : at' < 0) :
    Calls Try.prog 4 #[.string t, .int .i64 at', .int .u8 y] w fun e w' => e = .returned (.bool true) ∧ Below w.heap.size w w' := by
  have HW := Lib.hid (fun W (k : Keeps w W) => awake17_any A w W k (A.okK hO k))
  have hi : ¬ (2000 : Int) < (t.size : Int) := by omega
  have HDM := Lib.hid (fun W (k : Keeps w W) => A.dmOk t (A.okK hO k) hx hl)
  have HDP := Lib.hid (fun W (k : Keeps w W) => A.dpPmt t (A.okK hO k) hx hl)
  have HE := Lib.hid (fun a c W (k : Keeps w W) (h : IsE rowSt W a x.l.length x.l) (h1 : x.l.length ≤ c) (h2 : c ≤ maxLen) => A.emOk (x := x) h h1 h2 (A.okK hO k) hx)
  have hst : st (pmtE x) = t := by rw [← hl, st_ls]
  simp only [hst] at HE
  obtain ⟨prg, ver, clk, inf, l⟩ := x
  obtain ⟨n, hn⟩ : ∃ n, l.length = n := ⟨_, rfl⟩
  simp only [pmtV, hn] at HDM HE
  clear hst hn
  clear h hO hx hl
  go_enter Try.func4, Try.ntmps4
  go_wp2_with (first | (go_at_call 10; (with_reducible refine (HDP.out _ (Keeps.refl w)).mono ?_); rintro _ w1 ⟨⟨a1, c1, rfl⟩, k1⟩; have HK1 := Lib.hid (k1.alloc (.cells #[.int .i64 0, .int .i64 0, .slice a1 0 c1] 24)); clear k1) | (go_at_call 11; (with_reducible refine (HDM.out _ HK1.out).mono ?_); rintro _ w2 ⟨⟨a2, c2, rfl, i2, l2, m2⟩, k2⟩; have HK2 := Lib.hid ((HK1.out.trans k2).alloc (.cells #[.int .i64 prg, .int .i64 ver, .int .i64 clk, .string inf, .slice a2 n c2] 27)); have HL1 := Lib.hid l2; have HM1 := Lib.hid m2; have HI2 := Lib.hid (i2.keeps ((Keeps.refl w2).alloc (.cells #[.int .i64 prg, .int .i64 ver, .int .i64 clk, .string inf, .slice a2 n c2] 27))); have HB2 := Lib.hid (CsAt.made w2 #[.int .i64 prg, .int .i64 ver, .int .i64 clk, .string inf, .slice a2 n c2] 27 (by simp)); obtain ⟨b1, hb1⟩ : ∃ b, w2.heap.size = b := ⟨_, rfl⟩; rw [hb1] at HB2; clear k2 l2 m2 i2) | (refine wp_ldPmt (b := b1) HB2.out.r rfl _ rfl rfl ?_) | (go_at_call 14; refine (HE.out _ _ _ HK2.out HI2.out HL1.out HM1.out).mono ?_; rintro _ w3 ⟨rfl, k3⟩; have HK3 := Lib.hid (HK2.out.trans k3); clear k3) | (go_at_call 8; refine (HW.out _ (HK3.out)).mono ?_; rintro _ w9 ⟨rfl, k9⟩; have HK9 := Lib.hid k9; clear k9))
  go_ret
  exact ⟨rfl, HK9.out⟩
set_option maxHeartbeats 1600000 in
theorem c_pmt_hi (A : PsApi) (t : ByteArray) (at' : Int) (y : Int) (w : World) (hO : A.Ok w) (h : t.size ≤ 2000) (x : Pmt) (hx : PmtOk x) (hl : ls t = pmtE x) (g : ¬ at' < 0 ∧ (t.size : Int) ≤ at') :
    Calls Try.prog 4 #[.string t, .int .i64 at', .int .u8 y] w fun e w' => e = .returned (.bool true) ∧ Below w.heap.size w w' := by
  have HW := Lib.hid (fun W (k : Keeps w W) => awake17_any A w W k (A.okK hO k))
  have hi : ¬ (2000 : Int) < (t.size : Int) := by omega
  have HDM := Lib.hid (fun W (k : Keeps w W) => A.dmOk t (A.okK hO k) hx hl)
  have HDP := Lib.hid (fun W (k : Keeps w W) => A.dpPmt t (A.okK hO k) hx hl)
  have HE := Lib.hid (fun a c W (k : Keeps w W) (h : IsE rowSt W a x.l.length x.l) (h1 : x.l.length ≤ c) (h2 : c ≤ maxLen) => A.emOk (x := x) h h1 h2 (A.okK hO k) hx)
  have hst : st (pmtE x) = t := by rw [← hl, st_ls]
  simp only [hst] at HE
  obtain ⟨prg, ver, clk, inf, l⟩ := x
  obtain ⟨n, hn⟩ : ∃ n, l.length = n := ⟨_, rfl⟩
  simp only [pmtV, hn] at HDM HE
  clear hst hn
  obtain ⟨g1, g2⟩ := g
  clear h hO hx hl
  go_enter Try.func4, Try.ntmps4
  go_wp2_with (first | (go_at_call 10; (with_reducible refine (HDP.out _ (Keeps.refl w)).mono ?_); rintro _ w1 ⟨⟨a1, c1, rfl⟩, k1⟩; have HK1 := Lib.hid (k1.alloc (.cells #[.int .i64 0, .int .i64 0, .slice a1 0 c1] 24)); clear k1) | (go_at_call 11; (with_reducible refine (HDM.out _ HK1.out).mono ?_); rintro _ w2 ⟨⟨a2, c2, rfl, i2, l2, m2⟩, k2⟩; have HK2 := Lib.hid ((HK1.out.trans k2).alloc (.cells #[.int .i64 prg, .int .i64 ver, .int .i64 clk, .string inf, .slice a2 n c2] 27)); have HL1 := Lib.hid l2; have HM1 := Lib.hid m2; have HI2 := Lib.hid (i2.keeps ((Keeps.refl w2).alloc (.cells #[.int .i64 prg, .int .i64 ver, .int .i64 clk, .string inf, .slice a2 n c2] 27))); have HB2 := Lib.hid (CsAt.made w2 #[.int .i64 prg, .int .i64 ver, .int .i64 clk, .string inf, .slice a2 n c2] 27 (by simp)); obtain ⟨b1, hb1⟩ : ∃ b, w2.heap.size = b := ⟨_, rfl⟩; rw [hb1] at HB2; clear k2 l2 m2 i2) | (refine wp_ldPmt (b := b1) HB2.out.r rfl _ rfl rfl ?_) | (go_at_call 14; refine (HE.out _ _ _ HK2.out HI2.out HL1.out HM1.out).mono ?_; rintro _ w3 ⟨rfl, k3⟩; have HK3 := Lib.hid (HK2.out.trans k3); clear k3) | (go_at_call 8; refine (HW.out _ (HK3.out)).mono ?_; rintro _ w9 ⟨rfl, k9⟩; have HK9 := Lib.hid k9; clear k9))
  go_ret
  exact ⟨rfl, HK9.out⟩
set_option maxHeartbeats 1600000 in
theorem c_pmt_no (A : PsApi) (t : ByteArray) (at' : Int) (y : Int) (w : World) (hO : A.Ok w) (h : t.size ≤ 2000) (x : Pmt) (hx : PmtOk x) (hl : ls t = pmtE x) (g : ¬ at' < 0 ∧ ¬ (t.size : Int) ≤ at' ∧ y = 0) :
    Calls Try.prog 4 #[.string t, .int .i64 at', .int .u8 y] w fun e w' => e = .returned (.bool true) ∧ Below w.heap.size w w' := by
  have HW := Lib.hid (fun W (k : Keeps w W) => awake17_any A w W k (A.okK hO k))
  have hi : ¬ (2000 : Int) < (t.size : Int) := by omega
  have HDM := Lib.hid (fun W (k : Keeps w W) => A.dmOk t (A.okK hO k) hx hl)
  have HDP := Lib.hid (fun W (k : Keeps w W) => A.dpPmt t (A.okK hO k) hx hl)
  have HE := Lib.hid (fun a c W (k : Keeps w W) (h : IsE rowSt W a x.l.length x.l) (h1 : x.l.length ≤ c) (h2 : c ≤ maxLen) => A.emOk (x := x) h h1 h2 (A.okK hO k) hx)
  have hst : st (pmtE x) = t := by rw [← hl, st_ls]
  simp only [hst] at HE
  obtain ⟨prg, ver, clk, inf, l⟩ := x
  obtain ⟨n, hn⟩ : ∃ n, l.length = n := ⟨_, rfl⟩
  simp only [pmtV, hn] at HDM HE
  clear hst hn
  obtain ⟨g1, g2, rfl⟩ := g
  clear h hO hx hl
  go_enter Try.func4, Try.ntmps4
  go_wp2_with (first | (go_at_call 10; (with_reducible refine (HDP.out _ (Keeps.refl w)).mono ?_); rintro _ w1 ⟨⟨a1, c1, rfl⟩, k1⟩; have HK1 := Lib.hid (k1.alloc (.cells #[.int .i64 0, .int .i64 0, .slice a1 0 c1] 24)); clear k1) | (go_at_call 11; (with_reducible refine (HDM.out _ HK1.out).mono ?_); rintro _ w2 ⟨⟨a2, c2, rfl, i2, l2, m2⟩, k2⟩; have HK2 := Lib.hid ((HK1.out.trans k2).alloc (.cells #[.int .i64 prg, .int .i64 ver, .int .i64 clk, .string inf, .slice a2 n c2] 27)); have HL1 := Lib.hid l2; have HM1 := Lib.hid m2; have HI2 := Lib.hid (i2.keeps ((Keeps.refl w2).alloc (.cells #[.int .i64 prg, .int .i64 ver, .int .i64 clk, .string inf, .slice a2 n c2] 27))); have HB2 := Lib.hid (CsAt.made w2 #[.int .i64 prg, .int .i64 ver, .int .i64 clk, .string inf, .slice a2 n c2] 27 (by simp)); obtain ⟨b1, hb1⟩ : ∃ b, w2.heap.size = b := ⟨_, rfl⟩; rw [hb1] at HB2; clear k2 l2 m2 i2) | (refine wp_ldPmt (b := b1) HB2.out.r rfl _ rfl rfl ?_) | (go_at_call 14; refine (HE.out _ _ _ HK2.out HI2.out HL1.out HM1.out).mono ?_; rintro _ w3 ⟨rfl, k3⟩; have HK3 := Lib.hid (HK2.out.trans k3); clear k3) | (go_at_call 8; refine (HW.out _ (HK3.out)).mono ?_; rintro _ w9 ⟨rfl, k9⟩; have HK9 := Lib.hid k9; clear k9))
  go_ret
  exact ⟨rfl, HK9.out⟩
set_option maxHeartbeats 3200000 in
theorem c_pmt_in (A : PsApi) (t : ByteArray) (a : Nat) (y : UInt8) (w : World) (hO : A.Ok w) (h : t.size ≤ 2000) (x : Pmt) (hx : PmtOk x) (hl : ls t = pmtE x) (ha : a < t.size) (hy : y ≠ 0) :
    Calls Try.prog 4 #[.string t, .int .i64 (a : Int), .int .u8 (y.toNat : Int)] w fun e w' => e = .returned (.bool true) ∧ Below w.heap.size w w' := by
  have HW := Lib.hid (fun W (k : Keeps w W) => awake17_any A w W k (A.okK hO k))
  have hi : ¬ (2000 : Int) < (t.size : Int) := by omega
  have htab : isTab (ls t) := Or.inr ⟨x, hx, hl.symm⟩
  have HNT := Lib.hid (fun (u : ByteArray) (hu : u.size ≤ 2000) (hn : ¬ isTab (ls u)) W (k : Keeps w W) => A.dpNo u (A.okK hO k) hu (fun z hz e => hn (.inl ⟨z, hz, e⟩)))
  have HNM := Lib.hid (fun (u : ByteArray) (hu : u.size ≤ 2000) (hn : ¬ isTab (ls u)) W (k : Keeps w W) => A.dmNo u (A.okK hO k) hu (fun z hz e => hn (.inr ⟨z, hz, e⟩)))
  have HDM := Lib.hid (fun W (k : Keeps w W) => A.dmOk t (A.okK hO k) hx hl)
  have HDP := Lib.hid (fun W (k : Keeps w W) => A.dpPmt t (A.okK hO k) hx hl)
  have HE := Lib.hid (fun a c W (k : Keeps w W) (h : IsE rowSt W a x.l.length x.l) (h1 : x.l.length ≤ c) (h2 : c ≤ maxLen) => A.emOk (x := x) h h1 h2 (A.okK hO k) hx)
  have hst : st (pmtE x) = t := by rw [← hl, st_ls]
  simp only [hst] at HE
  obtain ⟨prg, ver, clk, inf, l⟩ := x
  obtain ⟨n, hn⟩ : ∃ n, l.length = n := ⟨_, rfl⟩
  simp only [pmtV, hn] at HDM HE
  clear hst hn
  obtain ⟨A0, hA⟩ : ∃ A0, t.extract 0 a = A0 := ⟨_, rfl⟩
  have hzA : A0.size = a := by rw [← hA, ByteArray.size_extract]; omega
  have hzi : (a : Int) < (t.size : Int) := by omega
  have hzj : (a : Int) ≤ (t.size : Int) := by omega
  have g := ls_get t a ha
  have hal : a < (ls t).length := by rw [← ls_size]; exact ha
  obtain ⟨c, hc⟩ : ∃ c, cf (ls t) a = c := ⟨_, rfl⟩
  rw [hc] at g
  obtain ⟨z, hz⟩ : ∃ z, c ^^^ y = z := ⟨_, rfl⟩
  have hne : z ≠ c := by
    intro e; rw [← hz] at e
    have := congrArg (c ^^^ ·) e
    simp only [← UInt8.xor_assoc, UInt8.xor_self, UInt8.zero_xor] at this
    exact hy this
  have hzx := xor8 c y
  rw [hz] at hzx
  have hyz : ((y.toNat : Int) == 0) = false := by
    rw [beq_eq_false_iff_ne]; intro e; exact hy (UInt8.toNat_inj.1 (by rw [show (0 : UInt8).toNat = 0 from rfl]; omega))
  obtain ⟨R, hR⟩ : ∃ R, t.extract (a + 1) t.size = R := ⟨_, rfl⟩
  have hzR : R.size ≤ 2000 := by rw [← hR, ByteArray.size_extract]; omega
  obtain ⟨q, hq⟩ : ∃ q, st [z] = q := ⟨_, rfl⟩
  have hzq : q.size = 1 := by rw [← hq]; rfl
  obtain ⟨B1, hB1⟩ : ∃ B, A0 ++ q = B := ⟨_, rfl⟩
  have hzB : B1.size = a + 1 := by rw [← hB1, ByteArray.size_append, hzA, hzq]
  obtain ⟨T, hT⟩ : ∃ T, B1 ++ R = T := ⟨_, rfl⟩
  have hlT : ls T = (ls t).set a z := by
    rw [← hT, ← hB1, ls_append, ls_append, ← hA, ← hR, ← hq, ls_st, ls_part, ls_part, ← set_split hal z]
    rw [Nat.sub_zero, List.drop_zero, show ((ls t).drop (a + 1)).take (t.size - (a + 1)) = (ls t).drop (a + 1) from List.take_of_length_le (by rw [List.length_drop, ls_size]; exact Nat.le_refl _)]
  have hzT : T.size ≤ 2000 := by rw [ls_size, hlT, List.length_set, ← ls_size]; exact h
  have hdn : ¬ isTab (ls T) := by
    refine tab_turn htab (by rw [hlT, List.length_set]) a (fun i hi hn => ?_) (fun e => ?_)
    · by_cases k : i = a
      · exact k
      · rw [hlT, cf_set _ _ _ hal, if_neg k] at hn
        exact absurd rfl hn
    · have h1 : cf (ls T) a = z := by rw [hlT, cf_set _ _ _ hal, if_pos rfl]
      rw [e, hc] at h1
      exact hne h1.symm
  have HDT := Lib.hid (fun W k => HNT.out T hzT hdn W k)
  have HDU := Lib.hid (fun W k => HNM.out T hzT hdn W k)
  have HQ := Lib.hid hq
  have HCL := Lib.hid (show (#[.int .u8 (z.toNat : Int)] : Array Value) = ([z].map B).toArray from rfl)
  have ha1 : (a : Int) + 1 ≤ (t.size : Int) := by omega
  have ha0 : ¬ (a : Int) < 0 := by omega
  have hge : ¬ (t.size : Int) ≤ (a : Int) := by omega
  have wr1 := wrapI (a := (a : Int) + 1) (by omega) (by omega)
  clear hq hne hc hz hy hal hlT hdn htab h hO hx hl HNT HNM
  go_enter Try.func4, Try.ntmps4
  go_wp2_with (first | (go_at_call 10; (with_reducible refine (HDP.out _ (Keeps.refl w)).mono ?_); rintro _ w1 ⟨⟨a1, c1, rfl⟩, k1⟩; have HK1 := Lib.hid (k1.alloc (.cells #[.int .i64 0, .int .i64 0, .slice a1 0 c1] 24)); clear k1) | (go_at_call 11; (with_reducible refine (HDM.out _ HK1.out).mono ?_); rintro _ w2 ⟨⟨a2, c2, rfl, i2, l2, m2⟩, k2⟩; have HK2 := Lib.hid ((HK1.out.trans k2).alloc (.cells #[.int .i64 prg, .int .i64 ver, .int .i64 clk, .string inf, .slice a2 n c2] 27)); have HL1 := Lib.hid l2; have HM1 := Lib.hid m2; have HI2 := Lib.hid (i2.keeps ((Keeps.refl w2).alloc (.cells #[.int .i64 prg, .int .i64 ver, .int .i64 clk, .string inf, .slice a2 n c2] 27))); have HB2 := Lib.hid (CsAt.made w2 #[.int .i64 prg, .int .i64 ver, .int .i64 clk, .string inf, .slice a2 n c2] 27 (by simp)); obtain ⟨b1, hb1⟩ : ∃ b, w2.heap.size = b := ⟨_, rfl⟩; rw [hb1] at HB2; clear k2 l2 m2 i2) | (refine wp_ldPmt (b := b1) HB2.out.r rfl _ rfl rfl ?_) | (go_at_call 14; refine (HE.out _ _ _ HK2.out HI2.out HL1.out HM1.out).mono ?_; rintro _ w3 ⟨rfl, k3⟩; have HK3 := Lib.hid (HK2.out.trans k3); clear k3))
  refine wp_draw_h (Γ := Nat) (by kernel_rfl) (vsO t A0 q B1 R T (a : Int) (c.toNat : Int) (y.toNat : Int) (z.toNat : Int)) (fun γ => PR w3 [z] γ) rfl (by kernel_rfl) ?fin ?hfin 0 ⟨(Keeps.refl w3).eqv (Eqv.drew w3), (fun x => by cases x)⟩ ?each ?hend
  case hfin => intro γ; simp [vsO, seqA, dstOf, Act.put]; rfl
  case each =>
    refine ⟨?_, ?_, ?_, ?_, ?_, ?_, ?_, ?_, ?_, ?_, ?_, ?_, ?_, ?_, ?_, ?_, ?_, trivial⟩
    all_goals intro γ L w5 h0 hd hs hw
    all_goals unfold Does
    all_goals try simp only [Nat.zero_add, Nat.reduceAdd] at h0
    rotate_left 9
    · have hcv := (hw.one (hd 8 (by kernel_rfl))).whole 1 (n := 1) rfl
      rw [HQ.out] at hcv
      go_simp
      exact Goes.on (fun _ => rfl) fun L' k => hw.same (by decide) k
    all_goals have f1 : ¬ 9223372036854775807 < a + 1 := by omega
    all_goals have f2 : ¬ 9223372036854775807 < a + 1 + R.size := by omega
    all_goals have f3 : a ≤ t.size := by omega
    all_goals go_simp
    all_goals try exact Goes.on (fun _ => rfl) fun L' k => hw.same (by decide) k
    · refine ⟨w5.heap.size, vsO_a h0, fun _ => rfl, fun L' k => ?_⟩
      have ka : Keeps w5 (w5.alloc (.cells #[.int .u8 (z.toNat : Int)] 5)) := (Keeps.refl w5).alloc _
      exact ⟨hw.kp.trans ka, fun _ => by rw [HCL.out]; exact Blk.lit w5 [z] _⟩
  case hend =>
    intro γ L w6 hL hw
    have HK6 := Lib.hid (HK3.out.trans hw.kp)
    clear hw hL
    go_wp2_with (first | (go_at_call 10; (with_reducible refine (HDT.out _ (HK6.out)).mono ?_); rintro _ w7 ⟨⟨a1, c1, r1, rfl, h1⟩, k1⟩; have hb1 : (r1 == 0) = false := beq_eq_false_iff_ne.2 h1; have hn1 : (r1 != 0) = true := bne_iff_ne.2 h1; have HK7 := Lib.hid ((HK6.out).trans k1); clear k1 h1) | (go_at_call 11; (with_reducible refine (HDU.out _ (HK7.out)).mono ?_); rintro _ w8 ⟨⟨a2, c2, r2, rfl, h2⟩, k2⟩; have hb2 : (r2 == 0) = false := beq_eq_false_iff_ne.2 h2; have hn2 : (r2 != 0) = true := bne_iff_ne.2 h2; have HK8 := Lib.hid ((HK7.out).trans k2); clear k2 h2) | (go_at_call 8; refine (HW.out _ (HK8.out)).mono ?_; rintro _ w9 ⟨rfl, k9⟩; have HK9 := Lib.hid k9; clear k9))
    go_ret
    exact ⟨rfl, HK9.out⟩
theorem core (A : PsApi) (t : ByteArray) (at' : Int) (y : UInt8) (w : World) (hO : A.Ok w) :
    Calls Try.prog 4 #[.string t, .int .i64 at', .int .u8 (y.toNat : Int)] w fun e w' => e = .returned (.bool true) ∧ Below w.heap.size w w' := by
  by_cases h : t.size ≤ 2000
  · by_cases h0 : at' < 0 ∨ ((t.size : Int) ≤ at') ∨ y = 0
    · by_cases hp : ∃ x, PatOk x ∧ patE x = ls t
      · obtain ⟨x, hx, hl⟩ := hp
        by_cases g1 : at' < 0
        · exact c_pat_lo A t at' _ w hO h x hx hl.symm g1
        · by_cases g2 : (t.size : Int) ≤ at'
          · exact c_pat_hi A t at' _ w hO h x hx hl.symm ⟨g1, g2⟩
          · have : y = 0 := h0.elim (fun k => absurd k g1) (fun k => k.elim (fun k => absurd k g2) id)
            subst this
            exact c_pat_no A t at' _ w hO h x hx hl.symm ⟨g1, g2, rfl⟩
      · by_cases hm : ∃ x, PmtOk x ∧ pmtE x = ls t
        · obtain ⟨x, hx, hl⟩ := hm
          by_cases g1 : at' < 0
          · exact c_pmt_lo A t at' _ w hO h x hx hl.symm g1
          · by_cases g2 : (t.size : Int) ≤ at'
            · exact c_pmt_hi A t at' _ w hO h x hx hl.symm ⟨g1, g2⟩
            · have : y = 0 := h0.elim (fun k => absurd k g1) (fun k => k.elim (fun k => absurd k g2) id)
              subst this
              exact c_pmt_no A t at' _ w hO h x hx hl.symm ⟨g1, g2, rfl⟩
        · exact c_none A t at' _ w hO h (fun x hx e => hp ⟨x, hx, e⟩) (fun x hx e => hm ⟨x, hx, e⟩)
    · obtain ⟨a, rfl⟩ : ∃ a : Nat, at' = (a : Int) := ⟨at'.toNat, by omega⟩
      have ha : a < t.size := by omega
      have hy : y ≠ 0 := fun e => h0 (.inr (.inr e))
      by_cases hp : ∃ x, PatOk x ∧ patE x = ls t
      · obtain ⟨x, hx, hl⟩ := hp
        exact c_pat_in A t a y w hO h x hx hl.symm ha hy
      · by_cases hm : ∃ x, PmtOk x ∧ pmtE x = ls t
        · obtain ⟨x, hx, hl⟩ := hm
          exact c_pmt_in A t a y w hO h x hx hl.symm ha hy
        · exact c_none A t a _ w hO h (fun x hx e => hp ⟨x, hx, e⟩) (fun x hx e => hm ⟨x, hx, e⟩)
  · exact c_long A t at' _ w hO (by omega)
theorem walk (t : ByteArray) (_ : t.size ≤ maxLen) (at' : Int) (ha : (Lit.int .i64 at').wf = true) (y0 : Int) (hy : (Lit.int .u8 y0).wf = true) (w : World) :
    Calls Try.prog 4 #[.string t, .int .i64 at', .int .u8 y0] w fun e w' => e = .returned (.bool true) ∧ Below w.heap.size w w' := by
  obtain ⟨y, rfl⟩ := u8_of (bounds_u8 hy)
  exact core psiApi t at' y w (psiOk w)

theorem own : ownKnob Try.prog.godebug = none := by kernel_rfl
theorem laidOut : laidOutB Try.prog = true := by kernel_rfl
set_option maxRecDepth 100000 in
theorem lifted (os : Os) (started : os.Started) (H : Type) (enc : TypeId × Value → H) :
    ReturnsInHanded {} Try.checked os 4 .any (Rows.psiOneSpec.pre6 enc Try.prog Try.f4 Rows.psiOneRow.domain false) (Rows.psiOneSpec.post enc Try.prog Try.f4 false true false false) := by
  refine returnsInHanded_of_change (C := Try.checked) own started (by kernel_rfl) Try.func4
    (ChangeSpec.witness6 (enc := enc) (C := Try.checked) false ⟨#[], #[.string ByteArray.empty, .int .i64 0, .int .u8 0], []⟩ 8 (by kernel_rfl) (by kernel_rfl) (by kernel_rfl) (by kernel_rfl)) ?_
  intro W base args ds gs before hval0 hW hcnd _
  have hval : ∀ (j : Nat) t v, Try.f4.params[j]? = some t → args[j]? = some v → Value.okWide Try.prog W .any base t v := hval0
  have hW' := hW
  obtain ⟨p, q, hA0, hV, rfl, hfz, hnd⟩ := hW
  have hA : DataW.TrodAll enc Try.prog W 0 (fun _ => true) true Try.f4.params.toList args.toList ds p := hA0
  rw [Try.params4] at hA hval
  obtain ⟨v0, vs0, d0, ds0, p0, q0, hargs, rfl, rfl, h0, r0⟩ := trodAll_cons hA
  obtain ⟨v1, vs1, d1, ds1, p1, q1, rfl, rfl, rfl, h1, r1⟩ := trodAll_cons r0
  obtain ⟨v2, vs2, d2, ds2, p2, q2, rfl, rfl, rfl, h2, r2⟩ := trodAll_cons r1
  obtain ⟨rfl, rfl, rfl⟩ := trodAll_nil r2
  obtain rfl : args = #[v0, v1, v2] := by cases args; simp_all
  obtain ⟨rfl, rfl⟩ := trodVars_none hV
  obtain ⟨a0, rfl, rfl, rfl, w0⟩ := open_string Try.underlying9 (hval 0 9 v0 rfl rfl) h0
  obtain ⟨a1, rfl, rfl, rfl, w1⟩ := open_int Try.underlying3 (hval 1 3 v1 rfl rfl) h1
  obtain ⟨a2, rfl, rfl, rfl, w2⟩ := open_int Try.underlying5 (hval 2 5 v2 rfl rfl) h2
  clear hA0 hval0
  refine (walk a0 w0 a1 w1 a2 w2 W).mono fun e W' ⟨he, bel⟩ => ?_
  subst he
  exact ⟨_, rfl, _, _, _, [], _, [], hW', trodAll_mk1 (shut_bool Try.underlying4 _), (trodAll_cons_mk (shut_string Try.underlying9 w0) (trodAll_cons_mk (shut_int Try.underlying3 w1) (trodAll_cons_mk (shut_int Try.underlying5 w2) trodAll_mk0))), rfl, bel.frame _, fun h => by cases h⟩

theorem over : Rows.psiOneRow.holds Try.pinned (OpenSpec.ofChange Rows.psiOneSpec) :=
  OpenClaim.holds_of_wide 4 Try.f4 rfl rfl rfl rfl rfl rfl rfl ⟨rfl, rfl, rfl, rfl, rfl⟩ rfl rfl rfl rfl rfl (by kernel_rfl) Try.func4 (by kernel_rfl)
    (of_decide_eq_true (by kernel_rfl)) (by unfold Func.isWrapper; first | (rw [if_pos (by decide +kernel)]; kernel_rfl) | (rw [if_neg (by decide +kernel)]; exact ⟨rfl, rfl⟩))
    (fun os started H enc _ => lifted os started H enc)

theorem proved : Rows.PsiOneSaid := over
#print axioms proved
end Go.Proofs.Ytebfihghfkcicaa.psiOne
