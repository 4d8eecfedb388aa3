/-
  For any string, any place and any turn DatagramTurned returns true: bytes of which one is another one have another sum; nothing that was there is changed. No condition.
-/
import Derived.Test.YtggokcakikkdgaaRows
import Derived.Test.YtggokcakikkdgaaDgLaw
namespace Go.Proofs.Ytggokcakikkdgaa.datagramTurned
open Go.ChangeShapes Go.WideShapes Go.ChangeAt Go.RowKit Gf Dg
set_option maxRecDepth 100000
open Go.ChangeMaps (open_string shut_string)
set_option linter.unusedVariables false
set_option maxHeartbeats 1600000 in
theorem off (s : ByteArray) (at' : Int) (y : UInt8) (w : World) (ho : ¬ s.size ≤ 5000 ∨ (s.size ≤ 5000 ∧ at' < 0) ∨ (s.size ≤ 5000 ∧ 0 ≤ at' ∧ (s.size : Int) ≤ at') ∨ (s.size ≤ 5000 ∧ 0 ≤ at' ∧ at' < (s.size : Int) ∧ y = 0)) :
    Calls Try.prog 8 #[.string s, .int .i64 at', .int .u8 (y.toNat : Int)] w fun e w' => e = .returned (.bool true) ∧ Below w.heap.size w w' := by
  rcases ho with h | ⟨h, h1⟩ | ⟨h, h1, h2⟩ | ⟨h, h1, h2, h3⟩
  all_goals
    try subst h3
    try (have hy0 : ((0 : UInt8).toNat : Int) = 0 := rfl)
    go_enter Try.func8, Try.ntmps8
    go_wp2_with fail
    refine (awake7_any w w (Keeps.refl w)).mono ?_
    rintro e w5 ⟨rfl, hk5⟩
    go_wp2
    go_ret
    exact ⟨rfl, hk5⟩
def vsD (S : ByteArray) (a : Nat) (A R T q B1 : ByteArray) (x y z c1 c2 : Int) (γ₁ γ₂ γ₃ : Nat) : List Value :=
  [.string S, .int .i64 (a : Int), .string A, .string S, .int .i64 (a : Int), .int .u8 x, .int .u8 y, .int .u8 z, .slice (some ⟨γ₁, 0, none⟩) 1 1, .string q, .string B1,
   .string S, .int .i64 (a : Int), .int .i64 ((a : Int) + 1), .string R, .string T, .slice (some ⟨γ₂, 0, none⟩) 1 1, .int .i64 c1, .string S, .slice (some ⟨γ₃, 0, none⟩) 1 1, .int .i64 c2, .bool true, .bool true, .bool true, .bool true, .bool true]
theorem vsD_a {S : ByteArray} {a : Nat} {A R T q B1 : ByteArray} {x y z c1 c2 : Int} {γ₁ γ₂ γ₃ g : Nat} {L : Nat → Bool} (h : L 8 = false) : ∀ j, L j = true → (vsD S a A R T q B1 x y z c1 c2 g γ₂ γ₃).getD j undef = (vsD S a A R T q B1 x y z c1 c2 γ₁ γ₂ γ₃).getD j undef
  | 0, _ => rfl
  | 1, _ => rfl
  | 2, _ => rfl
  | 3, _ => rfl
  | 4, _ => rfl
  | 5, _ => rfl
  | 6, _ => rfl
  | 7, _ => rfl
  | 8, k => by rw [h] at k; cases k
  | n + 9, _ => rfl
theorem vsD_b {S : ByteArray} {a : Nat} {A R T q B1 : ByteArray} {x y z c1 c2 : Int} {γ₁ γ₂ γ₃ g : Nat} {L : Nat → Bool} (h : L 16 = false) : ∀ j, L j = true → (vsD S a A R T q B1 x y z c1 c2 γ₁ g γ₃).getD j undef = (vsD S a A R T q B1 x y z c1 c2 γ₁ γ₂ γ₃).getD j undef
  | 0, _ => rfl
  | 1, _ => rfl
  | 2, _ => rfl
  | 3, _ => rfl
  | 4, _ => rfl
  | 5, _ => rfl
  | 6, _ => rfl
  | 7, _ => rfl
  | 8, _ => rfl
  | 9, _ => rfl
  | 10, _ => rfl
  | 11, _ => rfl
  | 12, _ => rfl
  | 13, _ => rfl
  | 14, _ => rfl
  | 15, _ => rfl
  | 16, k => by rw [h] at k; cases k
  | n + 17, _ => rfl
theorem vsD_c {S : ByteArray} {a : Nat} {A R T q B1 : ByteArray} {x y z c1 c2 : Int} {γ₁ γ₂ γ₃ g : Nat} {L : Nat → Bool} (h : L 19 = false) : ∀ j, L j = true → (vsD S a A R T q B1 x y z c1 c2 γ₁ γ₂ g).getD j undef = (vsD S a A R T q B1 x y z c1 c2 γ₁ γ₂ γ₃).getD j undef
  | 0, _ => rfl
  | 1, _ => rfl
  | 2, _ => rfl
  | 3, _ => rfl
  | 4, _ => rfl
  | 5, _ => rfl
  | 6, _ => rfl
  | 7, _ => rfl
  | 8, _ => rfl
  | 9, _ => rfl
  | 10, _ => rfl
  | 11, _ => rfl
  | 12, _ => rfl
  | 13, _ => rfl
  | 14, _ => rfl
  | 15, _ => rfl
  | 16, _ => rfl
  | 17, _ => rfl
  | 18, _ => rfl
  | 19, k => by rw [h] at k; cases k
  | n + 20, _ => rfl
structure TJ (w : World) (zl : List UInt8) (T S : List UInt8) (γ : Nat × Nat × Nat) (L : Nat → Bool) (W : World) : Prop where
  kp : Keeps w W
  a : L 8 = true → Blk γ.1 zl W
  b : L 16 = true → IsT W (some ⟨γ.2.1, 0, none⟩) 1 [T]
  c : L 19 = true → IsT W (some ⟨γ.2.2, 0, none⟩) 1 [S]
theorem TJ.on {w : World} {zl T S : List UInt8} {γ : Nat × Nat × Nat} {L L' : Nat → Bool} {W W' : World} (h : TJ w zl T S γ L W) {i : Nat} (h8 : 8 ≠ i) (h16 : 16 ≠ i) (h19 : 19 ≠ i) (k : ∀ j, L' j = true ↔ (L j = true ∨ j = i)) (hk : Keeps W W') : TJ w zl T S γ L' W' :=
  ⟨h.kp.trans hk, fun x => (h.a (same_at k h8 ▸ x)).below hk, fun x => (h.b (same_at k h16 ▸ x)).keeps hk, fun x => (h.c (same_at k h19 ▸ x)).keeps hk⟩
theorem TJ.same {w : World} {zl T S : List UInt8} {γ : Nat × Nat × Nat} {L L' : Nat → Bool} {W : World} (h : TJ w zl T S γ L W) {i : Nat} (h8 : 8 ≠ i) (h16 : 16 ≠ i) (h19 : 19 ≠ i) (k : ∀ j, L' j = true ↔ (L j = true ∨ j = i)) : TJ w zl T S γ L' W :=
  h.on h8 h16 h19 k (Keeps.refl W)
theorem xor8 (a b : UInt8) : bits BinOp.xor IntKind.u8 (a.toNat : Int) (b.toNat : Int) = ((a ^^^ b).toNat : Int) := by
  rw [u8_xor_nat _ _ a.toNat_lt b.toNat_lt, UInt8.toNat_xor]
theorem set_split {l : List UInt8} {k : Nat} (h : k < l.length) (z : UInt8) : l.take k ++ [z] ++ l.drop (k + 1) = l.set k z := by
  rw [List.set_eq_take_append_cons_drop, if_pos h]; simp
set_option maxHeartbeats 4000000 in
theorem core (s : ByteArray) (a : Nat) (y : UInt8) (w : World) (h : s.size ≤ 5000) (ha : a < s.size) (hy : y ≠ 0) :
    Calls Try.prog 8 #[.string s, .int .i64 (a : Int), .int .u8 (y.toNat : Int)] w fun e w' => e = .returned (.bool true) ∧ Below w.heap.size w w' := by
  have g := ls_get s a ha
  have hal : a < (ls s).length := by rw [← ls_size]; exact ha
  obtain ⟨x, hx⟩ : ∃ x, cf (ls s) a = x := ⟨_, rfl⟩
  rw [hx] at g
  obtain ⟨z, hz⟩ : ∃ z, x ^^^ y = z := ⟨_, rfl⟩
  have hne : z ≠ x := by
    intro e; rw [← hz] at e
    have := congrArg (x ^^^ ·) e
    simp only [← UInt8.xor_assoc, UInt8.xor_self, UInt8.zero_xor] at this
    exact hy this
  have hzx := xor8 x y
  rw [hz] at hzx
  have hyz : ((y.toNat : Int) == 0) = false := by
    rw [beq_eq_false_iff_ne]; intro e; exact hy (UInt8.toNat_inj.1 (by rw [show (0 : UInt8).toNat = 0 from rfl]; omega))
  obtain ⟨A, hA⟩ : ∃ A, s.extract 0 a = A := ⟨_, rfl⟩
  have hzA : A.size = a := by rw [← hA, ByteArray.size_extract]; omega
  obtain ⟨R, hR⟩ : ∃ R, s.extract (a + 1) s.size = R := ⟨_, rfl⟩
  have hzR : R.size ≤ 5000 := by rw [← hR, ByteArray.size_extract]; omega
  obtain ⟨q, hq⟩ : ∃ q, st [z] = q := ⟨_, rfl⟩
  have hzq : q.size = 1 := by rw [← hq]; rfl
  obtain ⟨B1, hB1⟩ : ∃ B, A ++ q = B := ⟨_, rfl⟩
  have hzB : B1.size = a + 1 := by rw [← hB1, ByteArray.size_append, hzA, hzq]
  obtain ⟨T, hT⟩ : ∃ T, B1 ++ R = T := ⟨_, rfl⟩
  have HT := Lib.hid (show ls T = (ls s).set a z by
    rw [← hT, ← hB1, ls_append, ls_append, ← hA, ← hR, ← hq, ls_st, ls_part, ls_part, ← set_split hal z]
    rw [Nat.sub_zero, List.drop_zero, show ((ls s).drop (a + 1)).take (s.size - (a + 1)) = (ls s).drop (a + 1) from List.take_of_length_le (by rw [List.length_drop, ls_size]; exact Nat.le_refl _)])
  have hzT : T.size ≤ 5000 := by rw [ls_size, HT.out, List.length_set, ← ls_size]; exact h
  obtain ⟨c1, hc1⟩ : ∃ c, csum (ls T) = c := ⟨_, rfl⟩
  obtain ⟨c2, hc2⟩ : ∃ c, csum (ls s) = c := ⟨_, rfl⟩
  have hcc : (c1 != c2) = true := by
    rw [bne_iff_ne, ← hc1, ← hc2, HT.out]
    exact csum_turned (ls s) a z hal (by rw [hx]; exact hne)
  have S1 := Lib.hid (show ∀ (W : World) (b : Nat), IsT W (some ⟨b, 0, none⟩) 1 [ls T] → Calls Try.prog 16 #[.slice (some ⟨b, 0, none⟩) 1 1] W fun e w' => e = .returned (.int .i64 c1) ∧ Eqv W w' by
    intro W b hI
    have := dgsum_any (some ⟨b, 0, none⟩) 1 1 [ls T] W hI (by simp) (by simp [← ls_size]; omega)
    rwa [show [ls T].flatten = ls T by simp, hc1] at this)
  have S2 := Lib.hid (show ∀ (W : World) (b : Nat), IsT W (some ⟨b, 0, none⟩) 1 [ls s] → Calls Try.prog 16 #[.slice (some ⟨b, 0, none⟩) 1 1] W fun e w' => e = .returned (.int .i64 c2) ∧ Eqv W w' by
    intro W b hI
    have := dgsum_any (some ⟨b, 0, none⟩) 1 1 [ls s] W hI (by simp) (by simp [← ls_size]; omega)
    rwa [show [ls s].flatten = ls s by simp, hc2] at this)
  have HQ := Lib.hid hq
  have HCL := Lib.hid (show (#[.int .u8 (z.toNat : Int)] : Array Value) = ([z].map B).toArray from rfl)
  have hzi : (a : Int) < (s.size : Int) := by omega
  have ha1 : (a : Int) + 1 ≤ (s.size : Int) := by omega
  have hR2 : s.extract (a + 1) s.size = R := hR
  clear hq hne hc1 hc2 hx hz hy hal hR
  go_enter Try.func8, Try.ntmps8
  go_wp2
  have wr := wrapI (a := (a : Int) + 1) (by omega) (by omega)
  refine wp_draw_h (Γ := Nat × Nat × Nat) (by kernel_rfl) (fun γ => vsD s a A R T q B1 (x.toNat : Int) (y.toNat : Int) (z.toNat : Int) c1 c2 γ.1 γ.2.1 γ.2.2) (fun γ => TJ w [z] (ls T) (ls s) γ) rfl (by kernel_rfl) ?fin ?hfin (0, 0, 0) ⟨(Keeps.refl w).eqv (Eqv.drew w), (fun x => by cases x), (fun x => by cases x), (fun x => by cases x)⟩ ?each ?hend
  case hfin => intro γ; simp [vsD, seqA, dstOf, Act.put]; rfl
  case each =>
    refine ⟨?_, ?_, ?_, ?_, ?_, ?_, ?_, ?_, ?_, ?_, ?_, ?_, ?_, ?_, ?_, ?_, ?_, ?_, ?_, ?_, ?_, ?_, ?_, ?_, ?_, ?_, trivial⟩
    all_goals intro γ L w5 h0 hd hs hw
    all_goals try rw [if_pos (by rfl)]
    all_goals unfold Does
    all_goals try simp only [Nat.zero_add, Nat.reduceAdd] at h0
    rotate_left 9
    · have hcv := (hw.a (hd 8 (by kernel_rfl))).whole 1 (n := 1) rfl
      rw [HQ.out] at hcv
      go_simp
      exact Goes.on (fun _ => rfl) fun L' k => hw.same (by decide) (by decide) (by decide) k
    all_goals have f1 : ¬ 9223372036854775807 < a + 1 := by omega
    all_goals have f2 : ¬ 9223372036854775807 < a + 1 + R.size := by omega
    all_goals have f3 : a ≤ s.size := by omega
    all_goals go_simp
    all_goals try exact Goes.on (fun _ => rfl) fun L' k => hw.same (by decide) (by decide) (by decide) k
    · refine ⟨(γ.1, w5.heap.size, γ.2.2), vsD_b h0, fun _ => rfl, fun L' k => ?_⟩
      have ka : Keeps w5 (w5.alloc (.cells #[.string T] 9)) := (Keeps.refl w5).alloc _
      exact ⟨hw.kp.trans ka, fun x => (hw.a (same_at k (show 8 ≠ 16 by decide) ▸ x)).below ka, fun _ => IsT.one w5 T _, fun x => (hw.c (same_at k (show 19 ≠ 16 by decide) ▸ x)).keeps ka⟩
    · refine (S1.out w5 _ (hw.b (hd 16 (by kernel_rfl)))).mono ?_
      rintro e w6 ⟨rfl, he⟩
      exact ⟨_, rfl, Goes.on (fun _ => rfl) fun L' k => hw.on (by decide) (by decide) (by decide) k ((Keeps.refl w5).eqv he)⟩
    · refine ⟨(γ.1, γ.2.1, w5.heap.size), vsD_c h0, fun _ => rfl, fun L' k => ?_⟩
      have ka : Keeps w5 (w5.alloc (.cells #[.string s] 9)) := (Keeps.refl w5).alloc _
      exact ⟨hw.kp.trans ka, fun x => (hw.a (same_at k (show 8 ≠ 19 by decide) ▸ x)).below ka, fun x => (hw.b (same_at k (show 16 ≠ 19 by decide) ▸ x)).keeps ka, fun _ => IsT.one w5 s _⟩
    · refine (S2.out w5 _ (hw.c (hd 19 (by kernel_rfl)))).mono ?_
      rintro e w6 ⟨rfl, he⟩
      exact ⟨_, rfl, Goes.on (fun _ => rfl) fun L' k => hw.on (by decide) (by decide) (by decide) k ((Keeps.refl w5).eqv he)⟩
    · refine (awake7_any w5 w5 (Keeps.refl w5)).mono ?_
      rintro e w6 ⟨rfl, hk⟩
      exact ⟨_, rfl, Goes.on (fun _ => rfl) fun L' k => hw.on (by decide) (by decide) (by decide) k hk⟩
    · refine ⟨(w5.heap.size, γ.2.1, γ.2.2), vsD_a h0, fun _ => rfl, fun L' k => ?_⟩
      have ka : Keeps w5 (w5.alloc (.cells #[.int .u8 (z.toNat : Int)] 5)) := (Keeps.refl w5).alloc _
      exact ⟨hw.kp.trans ka, fun _ => by rw [HCL.out]; exact Blk.lit w5 [z] _, fun x => (hw.b (same_at k (show 16 ≠ 8 by decide) ▸ x)).keeps ka, fun x => (hw.c (same_at k (show 19 ≠ 8 by decide) ▸ x)).keeps ka⟩
  case hend =>
    intro γ L w6 hL hw
    have hkw := hw.kp
    clear hw hL
    go_wp2
    go_ret
    exact ⟨rfl, hkw⟩
theorem walk (s : ByteArray) (hw : s.size ≤ maxLen) (at' : Int) (ha : (Lit.int .i64 at').wf = true) (y0 : Int) (hy : (Lit.int .u8 y0).wf = true) (w : World) :
    Calls Try.prog 8 #[.string s, .int .i64 at', .int .u8 y0] w fun e w' => e = .returned (.bool true) ∧ Below w.heap.size w w' := by
  obtain ⟨y, rfl⟩ := u8_of (bounds_u8 hy)
  by_cases h : s.size ≤ 5000
  · by_cases h1 : at' < 0
    · exact off s at' y w (.inr (.inl ⟨h, h1⟩))
    · by_cases h2 : (s.size : Int) ≤ at'
      · exact off s at' y w (.inr (.inr (.inl ⟨h, by omega, h2⟩)))
      · by_cases h3 : y = 0
        · exact off s at' y w (.inr (.inr (.inr ⟨h, by omega, by omega, h3⟩)))
        · obtain ⟨a, rfl⟩ : ∃ a : Nat, at' = (a : Int) := ⟨at'.toNat, by omega⟩
          exact core s a y w h (by omega) h3
  · exact off s at' y w (.inl h)


theorem own : ownKnob Try.prog.godebug = none := by kernel_rfl
theorem laidOut : laidOutB Try.prog = true := by kernel_rfl
set_option maxRecDepth 100000 in
theorem lifted (os : Os) (started : os.Started) (H : Type) (enc : TypeId × Value → H) :
    ReturnsInHanded {} Try.checked os 8 .any (Rows.datagramTurnedSpec.pre6 enc Try.prog Try.f8 Rows.datagramTurnedRow.domain false) (Rows.datagramTurnedSpec.post enc Try.prog Try.f8 false true false false) := by
  refine returnsInHanded_of_change (C := Try.checked) own started (by kernel_rfl) Try.func8
    (ChangeSpec.witness6 (enc := enc) (C := Try.checked) false ⟨#[], #[.string ByteArray.empty, .int .i64 0, .int .u8 0], []⟩ 8 (by kernel_rfl) (by kernel_rfl) (by kernel_rfl) (by kernel_rfl)) ?_
  intro W base args ds gs before hval0 hW hcnd _
  have hval : ∀ (j : Nat) t v, Try.f8.params[j]? = some t → args[j]? = some v → Value.okWide Try.prog W .any base t v := hval0
  have hW' := hW
  obtain ⟨p, q, hA0, hV, rfl, hfz, hnd⟩ := hW
  have hA : DataW.TrodAll enc Try.prog W 0 (fun _ => true) true Try.f8.params.toList args.toList ds p := hA0
  rw [Try.params8] at hA hval
  obtain ⟨v0, vs0, d0, ds0, p0, q0, hargs, rfl, rfl, h0, r0⟩ := trodAll_cons hA
  obtain ⟨v1, vs1, d1, ds1, p1, q1, rfl, rfl, rfl, h1, r1⟩ := trodAll_cons r0
  obtain ⟨v2, vs2, d2, ds2, p2, q2, rfl, rfl, rfl, h2, r2⟩ := trodAll_cons r1
  obtain ⟨rfl, rfl, rfl⟩ := trodAll_nil r2
  obtain rfl : args = #[v0, v1, v2] := by cases args; simp_all
  obtain ⟨rfl, rfl⟩ := trodVars_none hV
  obtain ⟨a0, rfl, rfl, rfl, w0⟩ := open_string Try.underlying9 (hval 0 9 v0 rfl rfl) h0
  obtain ⟨a1, rfl, rfl, rfl, w1⟩ := open_int Try.underlying3 (hval 1 3 v1 rfl rfl) h1
  obtain ⟨a2, rfl, rfl, rfl, w2⟩ := open_int Try.underlying5 (hval 2 5 v2 rfl rfl) h2
  clear hA0 hval0
  refine (walk a0 w0 a1 w1 a2 w2 W).mono fun e W' ⟨he, bel⟩ => ?_
  subst he
  exact ⟨_, rfl, _, _, _, [], _, [], hW', trodAll_mk1 (shut_bool Try.underlying4 _), (trodAll_cons_mk (shut_string Try.underlying9 w0) (trodAll_cons_mk (shut_int Try.underlying3 w1) (trodAll_cons_mk (shut_int Try.underlying5 w2) trodAll_mk0))), rfl, bel.frame _, fun h => by cases h⟩

theorem over : Rows.datagramTurnedRow.holds Try.pinned (OpenSpec.ofChange Rows.datagramTurnedSpec) :=
  OpenClaim.holds_of_wide 8 Try.f8 rfl rfl rfl rfl rfl rfl rfl ⟨rfl, rfl, rfl, rfl, rfl⟩ rfl rfl rfl rfl rfl (by kernel_rfl) Try.func8 (by kernel_rfl)
    (of_decide_eq_true (by kernel_rfl)) (by unfold Func.isWrapper; first | (rw [if_pos (by decide +kernel)]; kernel_rfl) | (rw [if_neg (by decide +kernel)]; exact ⟨rfl, rfl⟩))
    (fun os started H enc _ => lifted os started H enc)

theorem proved : Rows.DatagramTurnedSaid := over
#print axioms proved
end Go.Proofs.Ytggokcakikkdgaa.datagramTurned
