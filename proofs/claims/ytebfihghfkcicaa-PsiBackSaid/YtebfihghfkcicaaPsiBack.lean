/-
  For any Pat and any Pmt PsiBack returns true; nothing that was there is changed.
-/
import Derived.Test.YtebfihghfkcicaaRows
import Derived.Test.YtebfihghfkcicaaPsImp
import Derived.Test.YtebfihghfkcicaaPsApi
import Derived.Test.YtebfihghfkcicaaPsArgs
namespace Go.Proofs.Ytebfihghfkcicaa.psiBack
open Go.ChangeShapes Go.WideShapes Go.ChangeAt Go.RowKit Gf Ps
open Go.ChangeMaps (open_string shut_string)
set_option maxRecDepth 100000
set_option linter.unusedVariables false
theorem wp_ldPat {ops : Array Oper} {rest : List Oper} {o : Oper} {u : Act} {w : World} {Q : Exit → Act → World → Prop} {b : Nat} {s v : Int} {a : Option Addr} {n cap : Nat} (h : w.rangeAt b 0 [.int .i64 s, .int .i64 v, .slice a n cap]) (hgd : o.guard = none) (x : Operand) (ho : o.op = .load 24 x)
    (hx : u.eval x = .pointer (some ⟨b, 0, none⟩)) (k : wpList Try.prog ops Q rest (u.put o.dst (.agg #[.int .i64 s, .int .i64 v, .slice a n cap])) w) : wpList Try.prog ops Q (o :: rest) u w :=
  wpList_load_mid hgd _ x ho b 0 hx [.int .i64 s, .int .i64 v, .slice a n cap] _ h Try.underlying24 rfl (by kernel_rfl) k
theorem wp_ldPmt {ops : Array Oper} {rest : List Oper} {o : Oper} {u : Act} {w : World} {Q : Exit → Act → World → Prop} {b : Nat} {p v c : Int} {i : ByteArray} {a : Option Addr} {n cap : Nat} (h : w.rangeAt b 0 [.int .i64 p, .int .i64 v, .int .i64 c, .string i, .slice a n cap]) (hgd : o.guard = none) (x : Operand) (ho : o.op = .load 27 x)
    (hx : u.eval x = .pointer (some ⟨b, 0, none⟩)) (k : wpList Try.prog ops Q rest (u.put o.dst (.agg #[.int .i64 p, .int .i64 v, .int .i64 c, .string i, .slice a n cap])) w) : wpList Try.prog ops Q (o :: rest) u w :=
  wpList_load_mid hgd _ x ho b 0 hx [.int .i64 p, .int .i64 v, .int .i64 c, .string i, .slice a n cap] _ h Try.underlying27 rfl (by kernel_rfl) k
theorem kmore {w0 w w' : World} (h : Keeps w0 w) (k : Keeps w w') : Keeps w0 w' := h.trans k
abbrev Gh := (Option Addr × Nat) × (Option Addr × Nat)
def vsA (X1 X2 : Value) (e v : Int) (n : Nat) (s : ByteArray) (γ : Gh) : List Value :=
  [.int .i64 0, .bool false, .bool false, .int .i64 14, .bool false, .bool false, .bool false, X1, .agg #[.int .i64 e, .int .i64 v, .int .i64 0, .string ⟨#[]⟩, .slice γ.1.1 n γ.1.2], X2, .agg #[.int .i64 e, .int .i64 v, .int .i64 0, .string ⟨#[]⟩, .slice γ.2.1 n γ.2.2], .bool true, .bool false, .bool false, .bool false, .string s, .int .i64 s.size, .bool false, .bool false]
theorem vsA_1 {X1 X2 : Value} {e v : Int} {n : Nat} {s : ByteArray} {p p' q : Option Addr × Nat} {L : Nat → Bool} (h : L 8 = false) : ∀ j, L j = true → (vsA X1 X2 e v n s (p', q)).getD j undef = (vsA X1 X2 e v n s (p, q)).getD j undef := by
  intro j hj
  by_cases e : j = 8
  · subst e; rw [h] at hj; cases hj
  · rcases j with _ | _ | _ | _ | _ | _ | _ | _ | _ | j <;> first | rfl | exact absurd rfl e
theorem vsA_2 {X1 X2 : Value} {e v : Int} {n : Nat} {s : ByteArray} {p q q' : Option Addr × Nat} {L : Nat → Bool} (h : L 10 = false) : ∀ j, L j = true → (vsA X1 X2 e v n s (p, q')).getD j undef = (vsA X1 X2 e v n s (p, q)).getD j undef := by
  intro j hj
  by_cases e : j = 10
  · subst e; rw [h] at hj; cases hj
  · rcases j with _ | _ | _ | _ | _ | _ | _ | _ | _ | _ | _ | j <;> first | rfl | exact absurd rfl e
def vsB (X1 X2 : Value) (e v c : Int) (i : ByteArray) (n : Nat) (s : ByteArray) (γ : Gh) : List Value :=
  [.int .i64 0, .bool true, .bool true, .int .i64 14, .bool true, .bool true, .bool true, X1, .agg #[.int .i64 e, .int .i64 v, .int .i64 c, .string i, .slice γ.1.1 n γ.1.2], X2, .agg #[.int .i64 e, .int .i64 v, .int .i64 c, .string i, .slice γ.2.1 n γ.2.2], .bool true, .bool true, .bool true, .string s, .int .i64 s.size, .bool true, .bool true, .bool true, .bool true, .bool true, .bool true]
theorem vsB_1 {X1 X2 : Value} {e v c : Int} {i : ByteArray} {n : Nat} {s : ByteArray} {p p' q : Option Addr × Nat} {L : Nat → Bool} (h : L 8 = false) : ∀ j, L j = true → (vsB X1 X2 e v c i n s (p', q)).getD j undef = (vsB X1 X2 e v c i n s (p, q)).getD j undef := by
  intro j hj
  by_cases e : j = 8
  · subst e; rw [h] at hj; cases hj
  · rcases j with _ | _ | _ | _ | _ | _ | _ | _ | _ | j <;> first | rfl | exact absurd rfl e
theorem vsB_2 {X1 X2 : Value} {e v c : Int} {i : ByteArray} {n : Nat} {s : ByteArray} {p q q' : Option Addr × Nat} {L : Nat → Bool} (h : L 10 = false) : ∀ j, L j = true → (vsB X1 X2 e v c i n s (p, q')).getD j undef = (vsB X1 X2 e v c i n s (p, q)).getD j undef := by
  intro j hj
  by_cases e : j = 10
  · subst e; rw [h] at hj; cases hj
  · rcases j with _ | _ | _ | _ | _ | _ | _ | _ | _ | _ | _ | j <;> first | rfl | exact absurd rfl e
structure PQ (w1 : World) (l : List Qst) (γ : Gh) (L : Nat → Bool) (W : World) : Prop where
  kp : Keeps w1 W
  one : L 8 = true → IsE rowQs W γ.1.1 l.length l
  two : L 10 = true → IsE rowQs W γ.2.1 l.length l
theorem PQ.on {w1 : World} {l : List Qst} {γ : Gh} {L L' : Nat → Bool} {W W' : World} (h : PQ w1 l γ L W) {i : Nat} (h8 : 8 ≠ i) (h10 : 10 ≠ i) (k : ∀ j, L' j = true ↔ (L j = true ∨ j = i)) (hk : Keeps W W') : PQ w1 l γ L' W' :=
  ⟨h.kp.trans hk, fun x => (h.one (same_at k h8 ▸ x)).keeps hk, fun x => (h.two (same_at k h10 ▸ x)).keeps hk⟩
theorem PQ.same {w1 : World} {l : List Qst} {γ : Gh} {L L' : Nat → Bool} {W : World} (h : PQ w1 l γ L W) {i : Nat} (h8 : 8 ≠ i) (h10 : 10 ≠ i) (k : ∀ j, L' j = true ↔ (L j = true ∨ j = i)) : PQ w1 l γ L' W := h.on h8 h10 k (Keeps.refl W)
theorem PQ.first {w1 : World} {l : List Qst} {γ : Gh} {p : Option Addr × Nat} {L L' : Nat → Bool} {W W' : World} (h : PQ w1 l γ L W) (k : ∀ j, L' j = true ↔ (L j = true ∨ j = 8)) (hk : Keeps W W') (hi : IsE rowQs W' p.1 l.length l) : PQ w1 l (p, γ.2) L' W' :=
  ⟨h.kp.trans hk, fun _ => hi, fun x => (h.two (same_at k (show (10 : Nat) ≠ 8 by decide) ▸ x)).keeps hk⟩
theorem PQ.second {w1 : World} {l : List Qst} {γ : Gh} {p : Option Addr × Nat} {L L' : Nat → Bool} {W W' : World} (h : PQ w1 l γ L W) (k : ∀ j, L' j = true ↔ (L j = true ∨ j = 10)) (hk : Keeps W W') (hi : IsE rowQs W' p.1 l.length l) : PQ w1 l (γ.1, p) L' W' :=
  ⟨h.kp.trans hk, fun x => (h.one (same_at k (show (8 : Nat) ≠ 10 by decide) ▸ x)).keeps hk, fun _ => hi⟩
set_option maxHeartbeats 1600000 in
theorem c_x (A : PsApi) (x : Pat) (y : Pmt) (ax ay : Option Addr) (cx cy : Nat) (w : World) (hO : A.Ok w) (hix : IsE rowPr w ax x.l.length x.l) (hcx : x.l.length ≤ cx ∧ cx ≤ maxLen) (hiy : IsE rowSt w ay y.l.length y.l) (hcy : y.l.length ≤ cy ∧ cy ≤ maxLen) (h : ¬ x.l.length ≤ 300) :
    Calls Try.prog 3 #[patV x ax cx, pmtV y ay cy] w fun e w' => e = .returned (.bool true) ∧ Below w.heap.size w w' := by
  have HW := Lib.hid (fun W (k : Keeps w W) => awake17_any A w W k (A.okK hO k))
  have HWW := Lib.hid (fun W (k : Keeps w W) => awake17_any A W W (Keeps.refl W) (A.okK hO k))
  obtain ⟨X, hX⟩ : ∃ X, w.heap.size = X := ⟨_, rfl⟩
  obtain ⟨wA, hA⟩ : ∃ wX, w.alloc (.cells #[.int .i64 x.str, .int .i64 x.ver, .slice ax x.l.length cx] 24) = wX := ⟨_, rfl⟩
  obtain ⟨wB, hB⟩ : ∃ wX, wA.alloc (.cells #[.int .i64 y.prog, .int .i64 y.ver, .int .i64 y.clock, .string y.info, .slice ay y.l.length cy] 27) = wX := ⟨_, rfl⟩
  have hz : wA.heap.size = X + 1 := by rw [← hA, World.size_alloc, hX]
  have kA : Keeps w wA := by rw [← hA]; exact (Keeps.refl w).alloc _
  have kB : Keeps wA wB := by rw [← hB]; exact (Keeps.refl wA).alloc _
  have HK := Lib.hid (kA.trans kB)
  have HX := Lib.hid (show CsAt X [.int .i64 x.str, .int .i64 x.ver, .slice ax x.l.length cx] wB from CsAt.keeps (w := wA) (by rw [← hX, ← hA]; exact CsAt.made w #[.int .i64 x.str, .int .i64 x.ver, .slice ax x.l.length cx] _ (by simp)) kB)
  have HY := Lib.hid (show CsAt (X + 1) [.int .i64 y.prog, .int .i64 y.ver, .int .i64 y.clock, .string y.info, .slice ay y.l.length cy] wB by rw [← hz, ← hB]; exact CsAt.made wA #[.int .i64 y.prog, .int .i64 y.ver, .int .i64 y.clock, .string y.info, .slice ay y.l.length cy] _ (by simp))
  have HIX := Lib.hid (hix.keeps (kA.trans kB))
  have HIY := Lib.hid (hiy.keeps (kA.trans kB))
  have HCX := Lib.hid hcx
  have HCY := Lib.hid hcy
  have HFY := Lib.hid (fun W (k : Keeps wB W) => fewpmt_any y (cap := cy) W (HIY.out.keeps k) (by have := HCY.out; omega))
  have HOK := Lib.hid (fun W (k : Keeps w W) => A.okK hO k)
  have h1 := decide_eq_false h
  obtain ⟨xs, xv, xl⟩ := x
  obtain ⟨yp, yv, yc, yi, yl⟩ := y
  clear h hO hix hiy hcx hcy kA kB
  simp only at hA hB h1
  go_enter Try.func3, Try.ntmps3
  go_wp2_with (first | (refine wp_ldPat (b := X) HX.out.r rfl _ rfl rfl ?_) | (go_at_call 6; refine (fewpat_any _ _ _ _ _ _).mono ?_; rintro _ w1 ⟨rfl, k1⟩; have KB1 := Lib.hid k1; have y0 := (HY.out.keeps k1).cell 0 rfl; have y1 := (HY.out.keeps k1).cell 1 rfl; have y2 := (HY.out.keeps k1).cell 2 rfl; have y3 := (HY.out.keeps k1).cell 3 rfl; have y4 := (HY.out.keeps k1).cell 4 rfl; clear k1) | (go_at_call 8; refine (HW.out _ (HK.out.trans KB1.out)).mono ?_; rintro _ w9 ⟨rfl, k9⟩; have HK9 := Lib.hid k9; clear k9))
  go_ret
  exact ⟨rfl, HK9.out⟩
set_option maxHeartbeats 1600000 in
theorem c_y (A : PsApi) (x : Pat) (y : Pmt) (ax ay : Option Addr) (cx cy : Nat) (w : World) (hO : A.Ok w) (hix : IsE rowPr w ax x.l.length x.l) (hcx : x.l.length ≤ cx ∧ cx ≤ maxLen) (hiy : IsE rowSt w ay y.l.length y.l) (hcy : y.l.length ≤ cy ∧ cy ≤ maxLen) (h : x.l.length ≤ 300) (h2 : fewM y = false) :
    Calls Try.prog 3 #[patV x ax cx, pmtV y ay cy] w fun e w' => e = .returned (.bool true) ∧ Below w.heap.size w w' := by
  have HW := Lib.hid (fun W (k : Keeps w W) => awake17_any A w W k (A.okK hO k))
  have HWW := Lib.hid (fun W (k : Keeps w W) => awake17_any A W W (Keeps.refl W) (A.okK hO k))
  obtain ⟨X, hX⟩ : ∃ X, w.heap.size = X := ⟨_, rfl⟩
  obtain ⟨wA, hA⟩ : ∃ wX, w.alloc (.cells #[.int .i64 x.str, .int .i64 x.ver, .slice ax x.l.length cx] 24) = wX := ⟨_, rfl⟩
  obtain ⟨wB, hB⟩ : ∃ wX, wA.alloc (.cells #[.int .i64 y.prog, .int .i64 y.ver, .int .i64 y.clock, .string y.info, .slice ay y.l.length cy] 27) = wX := ⟨_, rfl⟩
  have hz : wA.heap.size = X + 1 := by rw [← hA, World.size_alloc, hX]
  have kA : Keeps w wA := by rw [← hA]; exact (Keeps.refl w).alloc _
  have kB : Keeps wA wB := by rw [← hB]; exact (Keeps.refl wA).alloc _
  have HK := Lib.hid (kA.trans kB)
  have HX := Lib.hid (show CsAt X [.int .i64 x.str, .int .i64 x.ver, .slice ax x.l.length cx] wB from CsAt.keeps (w := wA) (by rw [← hX, ← hA]; exact CsAt.made w #[.int .i64 x.str, .int .i64 x.ver, .slice ax x.l.length cx] _ (by simp)) kB)
  have HY := Lib.hid (show CsAt (X + 1) [.int .i64 y.prog, .int .i64 y.ver, .int .i64 y.clock, .string y.info, .slice ay y.l.length cy] wB by rw [← hz, ← hB]; exact CsAt.made wA #[.int .i64 y.prog, .int .i64 y.ver, .int .i64 y.clock, .string y.info, .slice ay y.l.length cy] _ (by simp))
  have HIX := Lib.hid (hix.keeps (kA.trans kB))
  have HIY := Lib.hid (hiy.keeps (kA.trans kB))
  have HCX := Lib.hid hcx
  have HCY := Lib.hid hcy
  have HFY := Lib.hid (fun W (k : Keeps wB W) => fewpmt_any y (cap := cy) W (HIY.out.keeps k) (by have := HCY.out; omega))
  have HOK := Lib.hid (fun W (k : Keeps w W) => A.okK hO k)
  have h1 := decide_eq_true h
  simp only [h2] at HFY
  clear h2
  obtain ⟨xs, xv, xl⟩ := x
  obtain ⟨yp, yv, yc, yi, yl⟩ := y
  clear h hO hix hiy hcx hcy kA kB
  simp only at hA hB h1
  go_enter Try.func3, Try.ntmps3
  go_wp2_with (first | (refine wp_ldPat (b := X) HX.out.r rfl _ rfl rfl ?_) | (go_at_call 6; refine (fewpat_any _ _ _ _ _ _).mono ?_; rintro _ w1 ⟨rfl, k1⟩; have KB1 := Lib.hid k1; have y0 := (HY.out.keeps k1).cell 0 rfl; have y1 := (HY.out.keeps k1).cell 1 rfl; have y2 := (HY.out.keeps k1).cell 2 rfl; have y3 := (HY.out.keeps k1).cell 3 rfl; have y4 := (HY.out.keeps k1).cell 4 rfl; clear k1) | (go_at_call 7; refine (HFY.out _ KB1.out).mono ?_; rintro _ w2 ⟨rfl, k2⟩; have KB2 := Lib.hid (KB1.out.trans k2); clear k2 y0 y1 y2 y3 y4) | (go_at_call 8; refine (HW.out _ (HK.out.trans KB2.out)).mono ?_; rintro _ w9 ⟨rfl, k9⟩; have HK9 := Lib.hid k9; clear k9))
  go_ret
  exact ⟨rfl, HK9.out⟩
set_option maxHeartbeats 6400000 in
theorem c_ok_ok (A : PsApi) (x : Pat) (y : Pmt) (ax ay : Option Addr) (cx cy : Nat) (w : World) (hO : A.Ok w) (hix : IsE rowPr w ax x.l.length x.l) (hcx : x.l.length ≤ cx ∧ cx ≤ maxLen) (hiy : IsE rowSt w ay y.l.length y.l) (hcy : y.l.length ≤ cy ∧ cy ≤ maxLen) (h : x.l.length ≤ 300) (h2 : fewM y = true) (hpx : PatOk x) (hpy : PmtOk y) :
    Calls Try.prog 3 #[patV x ax cx, pmtV y ay cy] w fun e w' => e = .returned (.bool true) ∧ Below w.heap.size w w' := by
  have HW := Lib.hid (fun W (k : Keeps w W) => awake17_any A w W k (A.okK hO k))
  have HWW := Lib.hid (fun W (k : Keeps w W) => awake17_any A W W (Keeps.refl W) (A.okK hO k))
  obtain ⟨X, hX⟩ : ∃ X, w.heap.size = X := ⟨_, rfl⟩
  obtain ⟨wA, hA⟩ : ∃ wX, w.alloc (.cells #[.int .i64 x.str, .int .i64 x.ver, .slice ax x.l.length cx] 24) = wX := ⟨_, rfl⟩
  obtain ⟨wB, hB⟩ : ∃ wX, wA.alloc (.cells #[.int .i64 y.prog, .int .i64 y.ver, .int .i64 y.clock, .string y.info, .slice ay y.l.length cy] 27) = wX := ⟨_, rfl⟩
  have hz : wA.heap.size = X + 1 := by rw [← hA, World.size_alloc, hX]
  have kA : Keeps w wA := by rw [← hA]; exact (Keeps.refl w).alloc _
  have kB : Keeps wA wB := by rw [← hB]; exact (Keeps.refl wA).alloc _
  have HK := Lib.hid (kA.trans kB)
  have HX := Lib.hid (show CsAt X [.int .i64 x.str, .int .i64 x.ver, .slice ax x.l.length cx] wB from CsAt.keeps (w := wA) (by rw [← hX, ← hA]; exact CsAt.made w #[.int .i64 x.str, .int .i64 x.ver, .slice ax x.l.length cx] _ (by simp)) kB)
  have HY := Lib.hid (show CsAt (X + 1) [.int .i64 y.prog, .int .i64 y.ver, .int .i64 y.clock, .string y.info, .slice ay y.l.length cy] wB by rw [← hz, ← hB]; exact CsAt.made wA #[.int .i64 y.prog, .int .i64 y.ver, .int .i64 y.clock, .string y.info, .slice ay y.l.length cy] _ (by simp))
  have HIX := Lib.hid (hix.keeps (kA.trans kB))
  have HIY := Lib.hid (hiy.keeps (kA.trans kB))
  have HCX := Lib.hid hcx
  have HCY := Lib.hid hcy
  have HFY := Lib.hid (fun W (k : Keeps wB W) => fewpmt_any y (cap := cy) W (HIY.out.keeps k) (by have := HCY.out; omega))
  have HOK := Lib.hid (fun W (k : Keeps w W) => A.okK hO k)
  have h1 := decide_eq_true h
  have hyl : y.l.length ≤ 60 := by
    unfold fewM at h2
    simp only [Bool.and_eq_true, decide_eq_true_eq] at h2
    exact h2.2.1
  have hpS : ∃ S, st (patE x) = S := ⟨_, rfl⟩
  obtain ⟨S, hS⟩ := hpS
  have hlS : ls S = patE x := by rw [← hS, ls_st]
  have hSz : S.size ≤ 1024 := by rw [ls_size, hlS, patE_length]; have := hpx.2.2.2.2; omega
  have HEP := Lib.hid (fun W (k : Keeps wB W) => A.epOk (x := x) (HIX.out.keeps k) hcx.1 hcx.2 (HOK.out _ (HK.out.trans k)) hpx)
  simp only [hS] at HEP
  have HDP := Lib.hid (fun W (k : Keeps w W) => A.dpOk (x := x) S (HOK.out _ k) hpx hlS)
  have HDM := Lib.hid (fun W (k : Keeps w W) => A.dmPat (y := x) S (HOK.out _ k) hpx hlS)
  have hLl : (x.l.map qPr).length = x.l.length := List.length_map ..
  have HPL := Lib.hid (fun a c W (g : IsE rowPr W a x.l.length x.l) => plpat_any x.str x.ver (cap := c) W g (by omega))
  obtain ⟨LQ, hLQ⟩ : ∃ l, x.l.map qPr = l := ⟨_, rfl⟩
  rw [hLQ] at HPL hLl
  have HSM := Lib.hid (fun a a' c c' W (g : IsE rowQs W a LQ.length LQ) (g' : IsE rowQs W a' LQ.length LQ) => psame_any x.str x.ver 0 ⟨#[]⟩ (cap := c) (cap' := c') W g g' (by omega))
  unfold PlPost at HPL
  have hSi : ¬ (1024 : Int) < (S.size : Int) := by omega
  clear hS hlS hLQ hLl hpx
  obtain ⟨Q, hQ⟩ : ∃ Q, st (pmtE y) = Q := ⟨_, rfl⟩
  have hlQ : ls Q = pmtE y := by rw [← hQ, ls_st]
  have hQz : Q.size ≤ 1024 := by rw [ls_size, hlQ, pmtE_length]; have := hpy.2.2.2.2.2; omega
  have HEM := Lib.hid (fun W (k : Keeps wB W) => A.emOk (x := y) (HIY.out.keeps k) hcy.1 hcy.2 (HOK.out _ (HK.out.trans k)) hpy)
  simp only [hQ] at HEM
  have HDM2 := Lib.hid (fun W (k : Keeps w W) => A.dmOk (x := y) Q (HOK.out _ k) hpy hlQ)
  have HDP2 := Lib.hid (fun W (k : Keeps w W) => A.dpPmt (y := y) Q (HOK.out _ k) hpy hlQ)
  have hMl : (y.l.map qSt).length = y.l.length := List.length_map ..
  have HPM := Lib.hid (fun a c W (g : IsE rowSt W a y.l.length y.l) => plpmt_any y.prog y.ver y.clock y.info (cap := c) W g (by omega))
  obtain ⟨LM, hLM⟩ : ∃ l, y.l.map qSt = l := ⟨_, rfl⟩
  rw [hLM] at HPM hMl
  have HSN := Lib.hid (fun a a' c c' W (g : IsE rowQs W a LM.length LM) (g' : IsE rowQs W a' LM.length LM) => psame_any y.prog y.ver y.clock y.info (cap := c) (cap' := c') W g g' (by omega))
  unfold PlPost at HPM
  have hQi : (Q.size : Int) ≤ 1024 := by omega
  clear hQ hlQ hLM hMl hpy
  simp only [h2] at HFY
  clear h2 hyl
  obtain ⟨xs, xv, xl⟩ := x
  obtain ⟨yp, yv, yc, yi, yl⟩ := y
  clear h hO hix hiy hcx hcy kA kB
  simp only at hA hB h1
  simp only [patV] at HDP
  simp only [pmtV] at HDM2
  go_enter Try.func3, Try.ntmps3
  go_wp2_with (first | (refine wp_ldPat (b := X) HX.out.r rfl _ rfl rfl ?_) | (go_at_call 6; refine (fewpat_any _ _ _ _ _ _).mono ?_; rintro _ w1 ⟨rfl, k1⟩; have KB1 := Lib.hid k1; have y0 := (HY.out.keeps k1).cell 0 rfl; have y1 := (HY.out.keeps k1).cell 1 rfl; have y2 := (HY.out.keeps k1).cell 2 rfl; have y3 := (HY.out.keeps k1).cell 3 rfl; have y4 := (HY.out.keeps k1).cell 4 rfl; clear k1) | (go_at_call 7; refine (HFY.out _ KB1.out).mono ?_; rintro _ w2 ⟨rfl, k2⟩; have KB2 := Lib.hid (KB1.out.trans k2); clear k2 y0 y1 y2 y3 y4) | (refine wp_ldPat (b := X) (HX.out.keeps KB2.out).r rfl _ rfl rfl ?_) | (go_at_call 9; refine (HEP.out _ KB2.out).mono ?_; rintro _ w3 ⟨rfl, k3⟩; have KB3 := Lib.hid (KB2.out.trans k3); clear k3) | (go_at_call 10; (with_reducible refine (HDP.out _ (kmore HK.out KB3.out)).mono ?_); rintro _ w4 ⟨⟨a4, c4, rfl, i4, l4, m4⟩, k4⟩; have KB4 := Lib.hid ((KB3.out.trans k4).alloc (.cells #[.int .i64 xs, .int .i64 xv, .slice a4 xl.length c4] 24)); have HI4 := Lib.hid (i4.keeps ((Keeps.refl w4).alloc (.cells #[.int .i64 xs, .int .i64 xv, .slice a4 xl.length c4] 24))); have HB4 := Lib.hid (CsAt.made w4 #[.int .i64 xs, .int .i64 xv, .slice a4 xl.length c4] 24 (by simp)); obtain ⟨b4, hb4⟩ : ∃ b, w4.heap.size = b := ⟨_, rfl⟩; rw [hb4] at HB4; clear i4 l4 m4 k4) | (go_at_call 11; (with_reducible refine (HDM.out _ (kmore HK.out KB4.out)).mono ?_); rintro _ w5 ⟨⟨a5, c5, rfl⟩, k5⟩; have KB5 := Lib.hid (KB4.out.trans k5); have HI5 := Lib.hid (HI4.out.keeps k5); have HB5 := Lib.hid (HB4.out.keeps k5); clear k5))
  obtain ⟨wD, hD⟩ : ∃ wX, w5.alloc (.cells #[.int .i64 0, .int .i64 0, .int .i64 0, .string ⟨#[]⟩, .slice a5 0 c5] 27) = wX := ⟨_, rfl⟩
  rw [hD]
  have kD : Keeps w5 wD := by rw [← hD]; exact (Keeps.refl w5).alloc _
  have HB7 := Lib.hid (show CsAt b4 [.int .i64 xs, .int .i64 xv, .slice a4 xl.length c4] wD from HB5.out.keeps kD)
  have HI7 := Lib.hid (HI5.out.keeps kD)
  have KB7 := Lib.hid (KB5.out.trans kD)
  have HX7 := Lib.hid (HX.out.keeps KB7.out)
  have HJ7 := Lib.hid (HIX.out.keeps KB7.out)
  clear hD kD
  refine wp_draw_h (Γ := Gh) (by kernel_rfl) (vsA (.agg #[.int .i64 xs, .int .i64 xv, .slice a4 xl.length c4]) (.agg #[.int .i64 xs, .int .i64 xv, .slice ax xl.length cx]) xs xv LQ.length S) (fun γ => PQ wD LQ γ) rfl (by kernel_rfl) ?fin ?hfin ((none, 0), (none, 0)) ⟨(Keeps.refl wD).eqv (Eqv.drew wD), (fun x => by cases x), (fun x => by cases x)⟩ ?each ?hend
  case hfin => intro γ; simp [vsA, seqA, dstOf, Act.put]; rfl
  case each =>
    refine ⟨?_, ?_, ?_, ?_, ?_, ?_, ?_, ?_, ?_, ?_, ?_, ?_, ?_, ?_, ?_, ?_, ?_, ?_, ?_, trivial⟩
    all_goals intro γ L w6 h0 hd hs hw
    all_goals obtain ⟨p0, q0⟩ := γ
    all_goals try rw [if_pos (by rfl)]
    all_goals unfold Does
    all_goals try simp only [Nat.zero_add, Nat.reduceAdd] at h0
    all_goals have z0 := (HB7.out.keeps hw.kp).cell 0 rfl
    all_goals have z1 := (HB7.out.keeps hw.kp).cell 1 rfl
    all_goals have z2 := (HB7.out.keeps hw.kp).cell 2 rfl
    all_goals have x0 := (HX7.out.keeps hw.kp).cell 0 rfl
    all_goals have x1 := (HX7.out.keeps hw.kp).cell 1 rfl
    all_goals have x2 := (HX7.out.keeps hw.kp).cell 2 rfl
    all_goals go_simp
    all_goals try exact Goes.on (fun _ => rfl) fun L' k => hw.same (by decide) (by decide) k
    · refine (HPL.out a4 c4 w6 (HI7.out.keeps hw.kp)).mono ?_
      rintro e w7 ⟨a7, c7, rfl, i7, k7⟩
      exact ⟨_, rfl, ((a7, c7), q0), vsA_1 h0, fun _ => rfl, fun L' k => hw.first k k7 i7⟩
    · refine (HPL.out ax cx w6 (HJ7.out.keeps hw.kp)).mono ?_
      rintro e w7 ⟨a7, c7, rfl, i7, k7⟩
      exact ⟨_, rfl, (p0, (a7, c7)), vsA_2 h0, fun _ => rfl, fun L' k => hw.second k k7 i7⟩
    · refine (HSM.out _ _ _ _ w6 (hw.one (hd 8 (by kernel_rfl))) (hw.two (hd 10 (by kernel_rfl)))).mono ?_
      rintro e w7 ⟨rfl, k7⟩
      exact ⟨_, rfl, Goes.on (fun _ => rfl) fun L' k => hw.on (by decide) (by decide) k k7⟩
    · rw [decide_eq_false (show ¬ (1024 : Int) < (S.size : Int) by omega)]
      exact Goes.on (fun _ => rfl) fun L' k => hw.same (by decide) (by decide) k
  case hend =>
  intro γ L w6 hL hw
  have KBm := Lib.hid (KB7.out.trans hw.kp)
  clear hw hL
  go_wp2_with (first | (refine wp_ldPmt (b := X + 1) (HY.out.keeps KBm.out).r rfl _ rfl rfl ?_) | (go_at_call 14; refine (HEM.out _ KBm.out).mono ?_; rintro _ w10 ⟨rfl, k10⟩; have KB10 := Lib.hid (KBm.out.trans k10); clear k10) | (go_at_call 11; (with_reducible refine (HDM2.out _ (kmore HK.out KB10.out)).mono ?_); rintro _ w11 ⟨⟨a11, c11, rfl, i11, l11, m11⟩, k11⟩; have KB11 := Lib.hid ((KB10.out.trans k11).alloc (.cells #[.int .i64 yp, .int .i64 yv, .int .i64 yc, .string yi, .slice a11 yl.length c11] 27)); have HI11 := Lib.hid (i11.keeps ((Keeps.refl w11).alloc (.cells #[.int .i64 yp, .int .i64 yv, .int .i64 yc, .string yi, .slice a11 yl.length c11] 27))); have HB11 := Lib.hid (CsAt.made w11 #[.int .i64 yp, .int .i64 yv, .int .i64 yc, .string yi, .slice a11 yl.length c11] 27 (by simp)); obtain ⟨b11, hb11⟩ : ∃ b, w11.heap.size = b := ⟨_, rfl⟩; rw [hb11] at HB11; clear i11 l11 m11 k11) | (go_at_call 10; (with_reducible refine (HDP2.out _ (kmore HK.out KB11.out)).mono ?_); rintro _ w12 ⟨⟨a12, c12, rfl⟩, k12⟩; have KB12 := Lib.hid (KB11.out.trans k12); have HI12 := Lib.hid (HI11.out.keeps k12); have HB12 := Lib.hid (HB11.out.keeps k12); clear k12))
  obtain ⟨wE, hE⟩ : ∃ wX, w12.alloc (.cells #[.int .i64 0, .int .i64 0, .slice a12 0 c12] 24) = wX := ⟨_, rfl⟩
  rw [hE]
  have kE : Keeps w12 wE := by rw [← hE]; exact (Keeps.refl w12).alloc _
  have HB13 := Lib.hid (show CsAt b11 [.int .i64 yp, .int .i64 yv, .int .i64 yc, .string yi, .slice a11 yl.length c11] wE from HB12.out.keeps kE)
  have HI13 := Lib.hid (HI12.out.keeps kE)
  have KB13 := Lib.hid (KB12.out.trans kE)
  have HY13 := Lib.hid (HY.out.keeps KB13.out)
  have HJ13 := Lib.hid (HIY.out.keeps KB13.out)
  clear hE kE
  refine wp_draw_h (Γ := Gh) (by kernel_rfl) (vsB (.agg #[.int .i64 yp, .int .i64 yv, .int .i64 yc, .string yi, .slice a11 yl.length c11]) (.agg #[.int .i64 yp, .int .i64 yv, .int .i64 yc, .string yi, .slice ay yl.length cy]) yp yv yc yi LM.length Q) (fun γ => PQ wE LM γ) rfl (by kernel_rfl) ?fin2 ?hfin2 ((none, 0), (none, 0)) ⟨(Keeps.refl wE).eqv (Eqv.drew wE), (fun x => by cases x), (fun x => by cases x)⟩ ?each2 ?hend2
  case hfin2 => intro γ; simp [vsB, seqA, dstOf, Act.put]; rfl
  case each2 =>
    refine ⟨?_, ?_, ?_, ?_, ?_, ?_, ?_, ?_, ?_, ?_, ?_, ?_, ?_, ?_, ?_, ?_, ?_, ?_, ?_, ?_, ?_, ?_, trivial⟩
    all_goals intro γ L w6 h0 hd hs hw
    all_goals obtain ⟨p0, q0⟩ := γ
    all_goals try rw [if_pos (by rfl)]
    all_goals unfold Does
    all_goals try simp only [Nat.zero_add, Nat.reduceAdd] at h0
    all_goals have z0 := (HB13.out.keeps hw.kp).cell 0 rfl
    all_goals have z1 := (HB13.out.keeps hw.kp).cell 1 rfl
    all_goals have z2 := (HB13.out.keeps hw.kp).cell 2 rfl
    all_goals have z3 := (HB13.out.keeps hw.kp).cell 3 rfl
    all_goals have z4 := (HB13.out.keeps hw.kp).cell 4 rfl
    all_goals have x0 := (HY13.out.keeps hw.kp).cell 0 rfl
    all_goals have x1 := (HY13.out.keeps hw.kp).cell 1 rfl
    all_goals have x2 := (HY13.out.keeps hw.kp).cell 2 rfl
    all_goals have x3 := (HY13.out.keeps hw.kp).cell 3 rfl
    all_goals have x4 := (HY13.out.keeps hw.kp).cell 4 rfl
    all_goals go_simp
    all_goals try exact Goes.on (fun _ => rfl) fun L' k => hw.same (by decide) (by decide) k
    · refine (HPM.out a11 c11 w6 (HI13.out.keeps hw.kp)).mono ?_
      rintro e w7 ⟨a7, c7, rfl, i7, k7⟩
      exact ⟨_, rfl, ((a7, c7), q0), vsB_1 h0, fun _ => rfl, fun L' k => hw.first k k7 i7⟩
    · refine (HPM.out ay cy w6 (HJ13.out.keeps hw.kp)).mono ?_
      rintro e w7 ⟨a7, c7, rfl, i7, k7⟩
      exact ⟨_, rfl, (p0, (a7, c7)), vsB_2 h0, fun _ => rfl, fun L' k => hw.second k k7 i7⟩
    · refine (HSN.out _ _ _ _ w6 (hw.one (hd 8 (by kernel_rfl))) (hw.two (hd 10 (by kernel_rfl)))).mono ?_
      rintro e w7 ⟨rfl, k7⟩
      exact ⟨_, rfl, Goes.on (fun _ => rfl) fun L' k => hw.on (by decide) (by decide) k k7⟩
    · refine (HWW.out w6 ((HK.out.trans KB13.out).trans hw.kp)).mono ?_
      rintro e w7 ⟨rfl, k7⟩
      exact ⟨_, rfl, Goes.on (fun _ => rfl) fun L' k => hw.on (by decide) (by decide) k k7⟩
  case hend2 =>
  intro γ L w6 hL hw
  have HK9 := Lib.hid ((HK.out.trans KB13.out).trans hw.kp)
  clear hw hL
  go_wp2
  go_ret
  exact ⟨rfl, HK9.out⟩
set_option maxHeartbeats 6400000 in
theorem c_ok_no (A : PsApi) (x : Pat) (y : Pmt) (ax ay : Option Addr) (cx cy : Nat) (w : World) (hO : A.Ok w) (hix : IsE rowPr w ax x.l.length x.l) (hcx : x.l.length ≤ cx ∧ cx ≤ maxLen) (hiy : IsE rowSt w ay y.l.length y.l) (hcy : y.l.length ≤ cy ∧ cy ≤ maxLen) (h : x.l.length ≤ 300) (h2 : fewM y = true) (hpx : PatOk x) (hpy : ¬ PmtOk y) :
    Calls Try.prog 3 #[patV x ax cx, pmtV y ay cy] w fun e w' => e = .returned (.bool true) ∧ Below w.heap.size w w' := by
  have HW := Lib.hid (fun W (k : Keeps w W) => awake17_any A w W k (A.okK hO k))
  have HWW := Lib.hid (fun W (k : Keeps w W) => awake17_any A W W (Keeps.refl W) (A.okK hO k))
  obtain ⟨X, hX⟩ : ∃ X, w.heap.size = X := ⟨_, rfl⟩
  obtain ⟨wA, hA⟩ : ∃ wX, w.alloc (.cells #[.int .i64 x.str, .int .i64 x.ver, .slice ax x.l.length cx] 24) = wX := ⟨_, rfl⟩
  obtain ⟨wB, hB⟩ : ∃ wX, wA.alloc (.cells #[.int .i64 y.prog, .int .i64 y.ver, .int .i64 y.clock, .string y.info, .slice ay y.l.length cy] 27) = wX := ⟨_, rfl⟩
  have hz : wA.heap.size = X + 1 := by rw [← hA, World.size_alloc, hX]
  have kA : Keeps w wA := by rw [← hA]; exact (Keeps.refl w).alloc _
  have kB : Keeps wA wB := by rw [← hB]; exact (Keeps.refl wA).alloc _
  have HK := Lib.hid (kA.trans kB)
  have HX := Lib.hid (show CsAt X [.int .i64 x.str, .int .i64 x.ver, .slice ax x.l.length cx] wB from CsAt.keeps (w := wA) (by rw [← hX, ← hA]; exact CsAt.made w #[.int .i64 x.str, .int .i64 x.ver, .slice ax x.l.length cx] _ (by simp)) kB)
  have HY := Lib.hid (show CsAt (X + 1) [.int .i64 y.prog, .int .i64 y.ver, .int .i64 y.clock, .string y.info, .slice ay y.l.length cy] wB by rw [← hz, ← hB]; exact CsAt.made wA #[.int .i64 y.prog, .int .i64 y.ver, .int .i64 y.clock, .string y.info, .slice ay y.l.length cy] _ (by simp))
  have HIX := Lib.hid (hix.keeps (kA.trans kB))
  have HIY := Lib.hid (hiy.keeps (kA.trans kB))
  have HCX := Lib.hid hcx
  have HCY := Lib.hid hcy
  have HFY := Lib.hid (fun W (k : Keeps wB W) => fewpmt_any y (cap := cy) W (HIY.out.keeps k) (by have := HCY.out; omega))
  have HOK := Lib.hid (fun W (k : Keeps w W) => A.okK hO k)
  have h1 := decide_eq_true h
  have hyl : y.l.length ≤ 60 := by
    unfold fewM at h2
    simp only [Bool.and_eq_true, decide_eq_true_eq] at h2
    exact h2.2.1
  have hpS : ∃ S, st (patE x) = S := ⟨_, rfl⟩
  obtain ⟨S, hS⟩ := hpS
  have hlS : ls S = patE x := by rw [← hS, ls_st]
  have hSz : S.size ≤ 1024 := by rw [ls_size, hlS, patE_length]; have := hpx.2.2.2.2; omega
  have HEP := Lib.hid (fun W (k : Keeps wB W) => A.epOk (x := x) (HIX.out.keeps k) hcx.1 hcx.2 (HOK.out _ (HK.out.trans k)) hpx)
  simp only [hS] at HEP
  have HDP := Lib.hid (fun W (k : Keeps w W) => A.dpOk (x := x) S (HOK.out _ k) hpx hlS)
  have HDM := Lib.hid (fun W (k : Keeps w W) => A.dmPat (y := x) S (HOK.out _ k) hpx hlS)
  have hLl : (x.l.map qPr).length = x.l.length := List.length_map ..
  have HPL := Lib.hid (fun a c W (g : IsE rowPr W a x.l.length x.l) => plpat_any x.str x.ver (cap := c) W g (by omega))
  obtain ⟨LQ, hLQ⟩ : ∃ l, x.l.map qPr = l := ⟨_, rfl⟩
  rw [hLQ] at HPL hLl
  have HSM := Lib.hid (fun a a' c c' W (g : IsE rowQs W a LQ.length LQ) (g' : IsE rowQs W a' LQ.length LQ) => psame_any x.str x.ver 0 ⟨#[]⟩ (cap := c) (cap' := c') W g g' (by omega))
  unfold PlPost at HPL
  have hSi : ¬ (1024 : Int) < (S.size : Int) := by omega
  clear hS hlS hLQ hLl hpx
  have HEM := Lib.hid (fun W (k : Keeps wB W) => A.emNo (x := y) (HIY.out.keeps k) hcy.1 hcy.2 (HOK.out _ (HK.out.trans k)) hpy h2)
  clear hpy
  simp only [h2] at HFY
  clear h2 hyl
  obtain ⟨xs, xv, xl⟩ := x
  obtain ⟨yp, yv, yc, yi, yl⟩ := y
  clear h hO hix hiy hcx hcy kA kB
  simp only at hA hB h1
  simp only [patV] at HDP
  go_enter Try.func3, Try.ntmps3
  go_wp2_with (first | (refine wp_ldPat (b := X) HX.out.r rfl _ rfl rfl ?_) | (go_at_call 6; refine (fewpat_any _ _ _ _ _ _).mono ?_; rintro _ w1 ⟨rfl, k1⟩; have KB1 := Lib.hid k1; have y0 := (HY.out.keeps k1).cell 0 rfl; have y1 := (HY.out.keeps k1).cell 1 rfl; have y2 := (HY.out.keeps k1).cell 2 rfl; have y3 := (HY.out.keeps k1).cell 3 rfl; have y4 := (HY.out.keeps k1).cell 4 rfl; clear k1) | (go_at_call 7; refine (HFY.out _ KB1.out).mono ?_; rintro _ w2 ⟨rfl, k2⟩; have KB2 := Lib.hid (KB1.out.trans k2); clear k2 y0 y1 y2 y3 y4) | (refine wp_ldPat (b := X) (HX.out.keeps KB2.out).r rfl _ rfl rfl ?_) | (go_at_call 9; refine (HEP.out _ KB2.out).mono ?_; rintro _ w3 ⟨rfl, k3⟩; have KB3 := Lib.hid (KB2.out.trans k3); clear k3) | (go_at_call 10; (with_reducible refine (HDP.out _ (kmore HK.out KB3.out)).mono ?_); rintro _ w4 ⟨⟨a4, c4, rfl, i4, l4, m4⟩, k4⟩; have KB4 := Lib.hid ((KB3.out.trans k4).alloc (.cells #[.int .i64 xs, .int .i64 xv, .slice a4 xl.length c4] 24)); have HI4 := Lib.hid (i4.keeps ((Keeps.refl w4).alloc (.cells #[.int .i64 xs, .int .i64 xv, .slice a4 xl.length c4] 24))); have HB4 := Lib.hid (CsAt.made w4 #[.int .i64 xs, .int .i64 xv, .slice a4 xl.length c4] 24 (by simp)); obtain ⟨b4, hb4⟩ : ∃ b, w4.heap.size = b := ⟨_, rfl⟩; rw [hb4] at HB4; clear i4 l4 m4 k4) | (go_at_call 11; (with_reducible refine (HDM.out _ (kmore HK.out KB4.out)).mono ?_); rintro _ w5 ⟨⟨a5, c5, rfl⟩, k5⟩; have KB5 := Lib.hid (KB4.out.trans k5); have HI5 := Lib.hid (HI4.out.keeps k5); have HB5 := Lib.hid (HB4.out.keeps k5); clear k5))
  obtain ⟨wD, hD⟩ : ∃ wX, w5.alloc (.cells #[.int .i64 0, .int .i64 0, .int .i64 0, .string ⟨#[]⟩, .slice a5 0 c5] 27) = wX := ⟨_, rfl⟩
  rw [hD]
  have kD : Keeps w5 wD := by rw [← hD]; exact (Keeps.refl w5).alloc _
  have HB7 := Lib.hid (show CsAt b4 [.int .i64 xs, .int .i64 xv, .slice a4 xl.length c4] wD from HB5.out.keeps kD)
  have HI7 := Lib.hid (HI5.out.keeps kD)
  have KB7 := Lib.hid (KB5.out.trans kD)
  have HX7 := Lib.hid (HX.out.keeps KB7.out)
  have HJ7 := Lib.hid (HIX.out.keeps KB7.out)
  clear hD kD
  refine wp_draw_h (Γ := Gh) (by kernel_rfl) (vsA (.agg #[.int .i64 xs, .int .i64 xv, .slice a4 xl.length c4]) (.agg #[.int .i64 xs, .int .i64 xv, .slice ax xl.length cx]) xs xv LQ.length S) (fun γ => PQ wD LQ γ) rfl (by kernel_rfl) ?fin ?hfin ((none, 0), (none, 0)) ⟨(Keeps.refl wD).eqv (Eqv.drew wD), (fun x => by cases x), (fun x => by cases x)⟩ ?each ?hend
  case hfin => intro γ; simp [vsA, seqA, dstOf, Act.put]; rfl
  case each =>
    refine ⟨?_, ?_, ?_, ?_, ?_, ?_, ?_, ?_, ?_, ?_, ?_, ?_, ?_, ?_, ?_, ?_, ?_, ?_, ?_, trivial⟩
    all_goals intro γ L w6 h0 hd hs hw
    all_goals obtain ⟨p0, q0⟩ := γ
    all_goals try rw [if_pos (by rfl)]
    all_goals unfold Does
    all_goals try simp only [Nat.zero_add, Nat.reduceAdd] at h0
    all_goals have z0 := (HB7.out.keeps hw.kp).cell 0 rfl
    all_goals have z1 := (HB7.out.keeps hw.kp).cell 1 rfl
    all_goals have z2 := (HB7.out.keeps hw.kp).cell 2 rfl
    all_goals have x0 := (HX7.out.keeps hw.kp).cell 0 rfl
    all_goals have x1 := (HX7.out.keeps hw.kp).cell 1 rfl
    all_goals have x2 := (HX7.out.keeps hw.kp).cell 2 rfl
    all_goals go_simp
    all_goals try exact Goes.on (fun _ => rfl) fun L' k => hw.same (by decide) (by decide) k
    · refine (HPL.out a4 c4 w6 (HI7.out.keeps hw.kp)).mono ?_
      rintro e w7 ⟨a7, c7, rfl, i7, k7⟩
      exact ⟨_, rfl, ((a7, c7), q0), vsA_1 h0, fun _ => rfl, fun L' k => hw.first k k7 i7⟩
    · refine (HPL.out ax cx w6 (HJ7.out.keeps hw.kp)).mono ?_
      rintro e w7 ⟨a7, c7, rfl, i7, k7⟩
      exact ⟨_, rfl, (p0, (a7, c7)), vsA_2 h0, fun _ => rfl, fun L' k => hw.second k k7 i7⟩
    · refine (HSM.out _ _ _ _ w6 (hw.one (hd 8 (by kernel_rfl))) (hw.two (hd 10 (by kernel_rfl)))).mono ?_
      rintro e w7 ⟨rfl, k7⟩
      exact ⟨_, rfl, Goes.on (fun _ => rfl) fun L' k => hw.on (by decide) (by decide) k k7⟩
    · rw [decide_eq_false (show ¬ (1024 : Int) < (S.size : Int) by omega)]
      exact Goes.on (fun _ => rfl) fun L' k => hw.same (by decide) (by decide) k
  case hend =>
  intro γ L w6 hL hw
  have KBm := Lib.hid (KB7.out.trans hw.kp)
  clear hw hL
  go_wp2_with (first | (refine wp_ldPmt (b := X + 1) (HY.out.keeps KBm.out).r rfl _ rfl rfl ?_) | (go_at_call 14; refine (HEM.out _ KBm.out).mono ?_; rintro _ w10 ⟨⟨r10, rfl, h10⟩, k10⟩; have hb10 : (r10 == 0) = false := beq_eq_false_iff_ne.2 h10; have hn10 : (r10 != 0) = true := bne_iff_ne.2 h10; have KB10 := Lib.hid (KBm.out.trans k10); clear k10 h10) | (go_at_call 8; refine (HW.out _ (HK.out.trans KB10.out)).mono ?_; rintro _ w9 ⟨rfl, k9⟩; have HK9 := Lib.hid k9; clear k9))
  go_ret
  exact ⟨rfl, HK9.out⟩
set_option maxHeartbeats 6400000 in
theorem c_no_ok (A : PsApi) (x : Pat) (y : Pmt) (ax ay : Option Addr) (cx cy : Nat) (w : World) (hO : A.Ok w) (hix : IsE rowPr w ax x.l.length x.l) (hcx : x.l.length ≤ cx ∧ cx ≤ maxLen) (hiy : IsE rowSt w ay y.l.length y.l) (hcy : y.l.length ≤ cy ∧ cy ≤ maxLen) (h : x.l.length ≤ 300) (h2 : fewM y = true) (hpx : ¬ PatOk x) (hpy : PmtOk y) :
    Calls Try.prog 3 #[patV x ax cx, pmtV y ay cy] w fun e w' => e = .returned (.bool true) ∧ Below w.heap.size w w' := by
  have HW := Lib.hid (fun W (k : Keeps w W) => awake17_any A w W k (A.okK hO k))
  have HWW := Lib.hid (fun W (k : Keeps w W) => awake17_any A W W (Keeps.refl W) (A.okK hO k))
  obtain ⟨X, hX⟩ : ∃ X, w.heap.size = X := ⟨_, rfl⟩
  obtain ⟨wA, hA⟩ : ∃ wX, w.alloc (.cells #[.int .i64 x.str, .int .i64 x.ver, .slice ax x.l.length cx] 24) = wX := ⟨_, rfl⟩
  obtain ⟨wB, hB⟩ : ∃ wX, wA.alloc (.cells #[.int .i64 y.prog, .int .i64 y.ver, .int .i64 y.clock, .string y.info, .slice ay y.l.length cy] 27) = wX := ⟨_, rfl⟩
  have hz : wA.heap.size = X + 1 := by rw [← hA, World.size_alloc, hX]
  have kA : Keeps w wA := by rw [← hA]; exact (Keeps.refl w).alloc _
  have kB : Keeps wA wB := by rw [← hB]; exact (Keeps.refl wA).alloc _
  have HK := Lib.hid (kA.trans kB)
  have HX := Lib.hid (show CsAt X [.int .i64 x.str, .int .i64 x.ver, .slice ax x.l.length cx] wB from CsAt.keeps (w := wA) (by rw [← hX, ← hA]; exact CsAt.made w #[.int .i64 x.str, .int .i64 x.ver, .slice ax x.l.length cx] _ (by simp)) kB)
  have HY := Lib.hid (show CsAt (X + 1) [.int .i64 y.prog, .int .i64 y.ver, .int .i64 y.clock, .string y.info, .slice ay y.l.length cy] wB by rw [← hz, ← hB]; exact CsAt.made wA #[.int .i64 y.prog, .int .i64 y.ver, .int .i64 y.clock, .string y.info, .slice ay y.l.length cy] _ (by simp))
  have HIX := Lib.hid (hix.keeps (kA.trans kB))
  have HIY := Lib.hid (hiy.keeps (kA.trans kB))
  have HCX := Lib.hid hcx
  have HCY := Lib.hid hcy
  have HFY := Lib.hid (fun W (k : Keeps wB W) => fewpmt_any y (cap := cy) W (HIY.out.keeps k) (by have := HCY.out; omega))
  have HOK := Lib.hid (fun W (k : Keeps w W) => A.okK hO k)
  have h1 := decide_eq_true h
  have hyl : y.l.length ≤ 60 := by
    unfold fewM at h2
    simp only [Bool.and_eq_true, decide_eq_true_eq] at h2
    exact h2.2.1
  have HEP := Lib.hid (fun W (k : Keeps wB W) => A.epNo (x := x) (HIX.out.keeps k) hcx.1 hcx.2 (HOK.out _ (HK.out.trans k)) hpx h)
  clear hpx
  obtain ⟨Q, hQ⟩ : ∃ Q, st (pmtE y) = Q := ⟨_, rfl⟩
  have hlQ : ls Q = pmtE y := by rw [← hQ, ls_st]
  have hQz : Q.size ≤ 1024 := by rw [ls_size, hlQ, pmtE_length]; have := hpy.2.2.2.2.2; omega
  have HEM := Lib.hid (fun W (k : Keeps wB W) => A.emOk (x := y) (HIY.out.keeps k) hcy.1 hcy.2 (HOK.out _ (HK.out.trans k)) hpy)
  simp only [hQ] at HEM
  have HDM2 := Lib.hid (fun W (k : Keeps w W) => A.dmOk (x := y) Q (HOK.out _ k) hpy hlQ)
  have HDP2 := Lib.hid (fun W (k : Keeps w W) => A.dpPmt (y := y) Q (HOK.out _ k) hpy hlQ)
  have hMl : (y.l.map qSt).length = y.l.length := List.length_map ..
  have HPM := Lib.hid (fun a c W (g : IsE rowSt W a y.l.length y.l) => plpmt_any y.prog y.ver y.clock y.info (cap := c) W g (by omega))
  obtain ⟨LM, hLM⟩ : ∃ l, y.l.map qSt = l := ⟨_, rfl⟩
  rw [hLM] at HPM hMl
  have HSN := Lib.hid (fun a a' c c' W (g : IsE rowQs W a LM.length LM) (g' : IsE rowQs W a' LM.length LM) => psame_any y.prog y.ver y.clock y.info (cap := c) (cap' := c') W g g' (by omega))
  unfold PlPost at HPM
  have hQi : (Q.size : Int) ≤ 1024 := by omega
  clear hQ hlQ hLM hMl hpy
  simp only [h2] at HFY
  clear h2 hyl
  obtain ⟨xs, xv, xl⟩ := x
  obtain ⟨yp, yv, yc, yi, yl⟩ := y
  clear h hO hix hiy hcx hcy kA kB
  simp only at hA hB h1
  simp only [pmtV] at HDM2
  go_enter Try.func3, Try.ntmps3
  go_wp2_with (first | (refine wp_ldPat (b := X) HX.out.r rfl _ rfl rfl ?_) | (go_at_call 6; refine (fewpat_any _ _ _ _ _ _).mono ?_; rintro _ w1 ⟨rfl, k1⟩; have KB1 := Lib.hid k1; have y0 := (HY.out.keeps k1).cell 0 rfl; have y1 := (HY.out.keeps k1).cell 1 rfl; have y2 := (HY.out.keeps k1).cell 2 rfl; have y3 := (HY.out.keeps k1).cell 3 rfl; have y4 := (HY.out.keeps k1).cell 4 rfl; clear k1) | (go_at_call 7; refine (HFY.out _ KB1.out).mono ?_; rintro _ w2 ⟨rfl, k2⟩; have KB2 := Lib.hid (KB1.out.trans k2); clear k2 y0 y1 y2 y3 y4) | (refine wp_ldPat (b := X) (HX.out.keeps KB2.out).r rfl _ rfl rfl ?_) | (go_at_call 9; refine (HEP.out _ KB2.out).mono ?_; rintro _ w3 ⟨⟨r3, rfl, h3⟩, k3⟩; have hb3 : (r3 == 0) = false := beq_eq_false_iff_ne.2 h3; have hn3 : (r3 != 0) = true := bne_iff_ne.2 h3; have KBm := Lib.hid (KB2.out.trans k3); clear k3 h3) | (refine wp_ldPmt (b := X + 1) (HY.out.keeps KBm.out).r rfl _ rfl rfl ?_) | (go_at_call 14; refine (HEM.out _ KBm.out).mono ?_; rintro _ w10 ⟨rfl, k10⟩; have KB10 := Lib.hid (KBm.out.trans k10); clear k10) | (go_at_call 11; (with_reducible refine (HDM2.out _ (kmore HK.out KB10.out)).mono ?_); rintro _ w11 ⟨⟨a11, c11, rfl, i11, l11, m11⟩, k11⟩; have KB11 := Lib.hid ((KB10.out.trans k11).alloc (.cells #[.int .i64 yp, .int .i64 yv, .int .i64 yc, .string yi, .slice a11 yl.length c11] 27)); have HI11 := Lib.hid (i11.keeps ((Keeps.refl w11).alloc (.cells #[.int .i64 yp, .int .i64 yv, .int .i64 yc, .string yi, .slice a11 yl.length c11] 27))); have HB11 := Lib.hid (CsAt.made w11 #[.int .i64 yp, .int .i64 yv, .int .i64 yc, .string yi, .slice a11 yl.length c11] 27 (by simp)); obtain ⟨b11, hb11⟩ : ∃ b, w11.heap.size = b := ⟨_, rfl⟩; rw [hb11] at HB11; clear i11 l11 m11 k11) | (go_at_call 10; (with_reducible refine (HDP2.out _ (kmore HK.out KB11.out)).mono ?_); rintro _ w12 ⟨⟨a12, c12, rfl⟩, k12⟩; have KB12 := Lib.hid (KB11.out.trans k12); have HI12 := Lib.hid (HI11.out.keeps k12); have HB12 := Lib.hid (HB11.out.keeps k12); clear k12))
  obtain ⟨wE, hE⟩ : ∃ wX, w12.alloc (.cells #[.int .i64 0, .int .i64 0, .slice a12 0 c12] 24) = wX := ⟨_, rfl⟩
  rw [hE]
  have kE : Keeps w12 wE := by rw [← hE]; exact (Keeps.refl w12).alloc _
  have HB13 := Lib.hid (show CsAt b11 [.int .i64 yp, .int .i64 yv, .int .i64 yc, .string yi, .slice a11 yl.length c11] wE from HB12.out.keeps kE)
  have HI13 := Lib.hid (HI12.out.keeps kE)
  have KB13 := Lib.hid (KB12.out.trans kE)
  have HY13 := Lib.hid (HY.out.keeps KB13.out)
  have HJ13 := Lib.hid (HIY.out.keeps KB13.out)
  clear hE kE
  refine wp_draw_h (Γ := Gh) (by kernel_rfl) (vsB (.agg #[.int .i64 yp, .int .i64 yv, .int .i64 yc, .string yi, .slice a11 yl.length c11]) (.agg #[.int .i64 yp, .int .i64 yv, .int .i64 yc, .string yi, .slice ay yl.length cy]) yp yv yc yi LM.length Q) (fun γ => PQ wE LM γ) rfl (by kernel_rfl) ?fin2 ?hfin2 ((none, 0), (none, 0)) ⟨(Keeps.refl wE).eqv (Eqv.drew wE), (fun x => by cases x), (fun x => by cases x)⟩ ?each2 ?hend2
  case hfin2 => intro γ; simp [vsB, seqA, dstOf, Act.put]; rfl
  case each2 =>
    refine ⟨?_, ?_, ?_, ?_, ?_, ?_, ?_, ?_, ?_, ?_, ?_, ?_, ?_, ?_, ?_, ?_, ?_, ?_, ?_, ?_, ?_, ?_, trivial⟩
    all_goals intro γ L w6 h0 hd hs hw
    all_goals obtain ⟨p0, q0⟩ := γ
    all_goals try rw [if_pos (by rfl)]
    all_goals unfold Does
    all_goals try simp only [Nat.zero_add, Nat.reduceAdd] at h0
    all_goals have z0 := (HB13.out.keeps hw.kp).cell 0 rfl
    all_goals have z1 := (HB13.out.keeps hw.kp).cell 1 rfl
    all_goals have z2 := (HB13.out.keeps hw.kp).cell 2 rfl
    all_goals have z3 := (HB13.out.keeps hw.kp).cell 3 rfl
    all_goals have z4 := (HB13.out.keeps hw.kp).cell 4 rfl
    all_goals have x0 := (HY13.out.keeps hw.kp).cell 0 rfl
    all_goals have x1 := (HY13.out.keeps hw.kp).cell 1 rfl
    all_goals have x2 := (HY13.out.keeps hw.kp).cell 2 rfl
    all_goals have x3 := (HY13.out.keeps hw.kp).cell 3 rfl
    all_goals have x4 := (HY13.out.keeps hw.kp).cell 4 rfl
    all_goals go_simp
    all_goals try exact Goes.on (fun _ => rfl) fun L' k => hw.same (by decide) (by decide) k
    · refine (HPM.out a11 c11 w6 (HI13.out.keeps hw.kp)).mono ?_
      rintro e w7 ⟨a7, c7, rfl, i7, k7⟩
      exact ⟨_, rfl, ((a7, c7), q0), vsB_1 h0, fun _ => rfl, fun L' k => hw.first k k7 i7⟩
    · refine (HPM.out ay cy w6 (HJ13.out.keeps hw.kp)).mono ?_
      rintro e w7 ⟨a7, c7, rfl, i7, k7⟩
      exact ⟨_, rfl, (p0, (a7, c7)), vsB_2 h0, fun _ => rfl, fun L' k => hw.second k k7 i7⟩
    · refine (HSN.out _ _ _ _ w6 (hw.one (hd 8 (by kernel_rfl))) (hw.two (hd 10 (by kernel_rfl)))).mono ?_
      rintro e w7 ⟨rfl, k7⟩
      exact ⟨_, rfl, Goes.on (fun _ => rfl) fun L' k => hw.on (by decide) (by decide) k k7⟩
    · refine (HWW.out w6 ((HK.out.trans KB13.out).trans hw.kp)).mono ?_
      rintro e w7 ⟨rfl, k7⟩
      exact ⟨_, rfl, Goes.on (fun _ => rfl) fun L' k => hw.on (by decide) (by decide) k k7⟩
  case hend2 =>
  intro γ L w6 hL hw
  have HK9 := Lib.hid ((HK.out.trans KB13.out).trans hw.kp)
  clear hw hL
  go_wp2
  go_ret
  exact ⟨rfl, HK9.out⟩
set_option maxHeartbeats 6400000 in
theorem c_no_no (A : PsApi) (x : Pat) (y : Pmt) (ax ay : Option Addr) (cx cy : Nat) (w : World) (hO : A.Ok w) (hix : IsE rowPr w ax x.l.length x.l) (hcx : x.l.length ≤ cx ∧ cx ≤ maxLen) (hiy : IsE rowSt w ay y.l.length y.l) (hcy : y.l.length ≤ cy ∧ cy ≤ maxLen) (h : x.l.length ≤ 300) (h2 : fewM y = true) (hpx : ¬ PatOk x) (hpy : ¬ PmtOk y) :
    Calls Try.prog 3 #[patV x ax cx, pmtV y ay cy] w fun e w' => e = .returned (.bool true) ∧ Below w.heap.size w w' := by
  have HW := Lib.hid (fun W (k : Keeps w W) => awake17_any A w W k (A.okK hO k))
  have HWW := Lib.hid (fun W (k : Keeps w W) => awake17_any A W W (Keeps.refl W) (A.okK hO k))
  obtain ⟨X, hX⟩ : ∃ X, w.heap.size = X := ⟨_, rfl⟩
  obtain ⟨wA, hA⟩ : ∃ wX, w.alloc (.cells #[.int .i64 x.str, .int .i64 x.ver, .slice ax x.l.length cx] 24) = wX := ⟨_, rfl⟩
  obtain ⟨wB, hB⟩ : ∃ wX, wA.alloc (.cells #[.int .i64 y.prog, .int .i64 y.ver, .int .i64 y.clock, .string y.info, .slice ay y.l.length cy] 27) = wX := ⟨_, rfl⟩
  have hz : wA.heap.size = X + 1 := by rw [← hA, World.size_alloc, hX]
  have kA : Keeps w wA := by rw [← hA]; exact (Keeps.refl w).alloc _
  have kB : Keeps wA wB := by rw [← hB]; exact (Keeps.refl wA).alloc _
  have HK := Lib.hid (kA.trans kB)
  have HX := Lib.hid (show CsAt X [.int .i64 x.str, .int .i64 x.ver, .slice ax x.l.length cx] wB from CsAt.keeps (w := wA) (by rw [← hX, ← hA]; exact CsAt.made w #[.int .i64 x.str, .int .i64 x.ver, .slice ax x.l.length cx] _ (by simp)) kB)
  have HY := Lib.hid (show CsAt (X + 1) [.int .i64 y.prog, .int .i64 y.ver, .int .i64 y.clock, .string y.info, .slice ay y.l.length cy] wB by rw [← hz, ← hB]; exact CsAt.made wA #[.int .i64 y.prog, .int .i64 y.ver, .int .i64 y.clock, .string y.info, .slice ay y.l.length cy] _ (by simp))
  have HIX := Lib.hid (hix.keeps (kA.trans kB))
  have HIY := Lib.hid (hiy.keeps (kA.trans kB))
  have HCX := Lib.hid hcx
  have HCY := Lib.hid hcy
  have HFY := Lib.hid (fun W (k : Keeps wB W) => fewpmt_any y (cap := cy) W (HIY.out.keeps k) (by have := HCY.out; omega))
  have HOK := Lib.hid (fun W (k : Keeps w W) => A.okK hO k)
  have h1 := decide_eq_true h
  have hyl : y.l.length ≤ 60 := by
    unfold fewM at h2
    simp only [Bool.and_eq_true, decide_eq_true_eq] at h2
    exact h2.2.1
  have HEP := Lib.hid (fun W (k : Keeps wB W) => A.epNo (x := x) (HIX.out.keeps k) hcx.1 hcx.2 (HOK.out _ (HK.out.trans k)) hpx h)
  clear hpx
  have HEM := Lib.hid (fun W (k : Keeps wB W) => A.emNo (x := y) (HIY.out.keeps k) hcy.1 hcy.2 (HOK.out _ (HK.out.trans k)) hpy h2)
  clear hpy
  simp only [h2] at HFY
  clear h2 hyl
  obtain ⟨xs, xv, xl⟩ := x
  obtain ⟨yp, yv, yc, yi, yl⟩ := y
  clear h hO hix hiy hcx hcy kA kB
  simp only at hA hB h1
  go_enter Try.func3, Try.ntmps3
  go_wp2_with (first | (refine wp_ldPat (b := X) HX.out.r rfl _ rfl rfl ?_) | (go_at_call 6; refine (fewpat_any _ _ _ _ _ _).mono ?_; rintro _ w1 ⟨rfl, k1⟩; have KB1 := Lib.hid k1; have y0 := (HY.out.keeps k1).cell 0 rfl; have y1 := (HY.out.keeps k1).cell 1 rfl; have y2 := (HY.out.keeps k1).cell 2 rfl; have y3 := (HY.out.keeps k1).cell 3 rfl; have y4 := (HY.out.keeps k1).cell 4 rfl; clear k1) | (go_at_call 7; refine (HFY.out _ KB1.out).mono ?_; rintro _ w2 ⟨rfl, k2⟩; have KB2 := Lib.hid (KB1.out.trans k2); clear k2 y0 y1 y2 y3 y4) | (refine wp_ldPat (b := X) (HX.out.keeps KB2.out).r rfl _ rfl rfl ?_) | (go_at_call 9; refine (HEP.out _ KB2.out).mono ?_; rintro _ w3 ⟨⟨r3, rfl, h3⟩, k3⟩; have hb3 : (r3 == 0) = false := beq_eq_false_iff_ne.2 h3; have hn3 : (r3 != 0) = true := bne_iff_ne.2 h3; have KBm := Lib.hid (KB2.out.trans k3); clear k3 h3) | (refine wp_ldPmt (b := X + 1) (HY.out.keeps KBm.out).r rfl _ rfl rfl ?_) | (go_at_call 14; refine (HEM.out _ KBm.out).mono ?_; rintro _ w10 ⟨⟨r10, rfl, h10⟩, k10⟩; have hb10 : (r10 == 0) = false := beq_eq_false_iff_ne.2 h10; have hn10 : (r10 != 0) = true := bne_iff_ne.2 h10; have KB10 := Lib.hid (KBm.out.trans k10); clear k10 h10) | (go_at_call 8; refine (HW.out _ (HK.out.trans KB10.out)).mono ?_; rintro _ w9 ⟨rfl, k9⟩; have HK9 := Lib.hid k9; clear k9))
  go_ret
  exact ⟨rfl, HK9.out⟩
theorem core (A : PsApi) (x : Pat) (y : Pmt) (ax ay : Option Addr) (cx cy : Nat) (w : World) (hO : A.Ok w) (hix : IsE rowPr w ax x.l.length x.l) (hcx : x.l.length ≤ cx ∧ cx ≤ maxLen) (hiy : IsE rowSt w ay y.l.length y.l) (hcy : y.l.length ≤ cy ∧ cy ≤ maxLen) :
    Calls Try.prog 3 #[patV x ax cx, pmtV y ay cy] w fun e w' => e = .returned (.bool true) ∧ Below w.heap.size w w' := by
  by_cases h : x.l.length ≤ 300
  · cases h2 : fewM y with
    | false => exact c_y A x y ax ay cx cy w hO hix hcx hiy hcy h h2
    | true =>
      by_cases hpx : PatOk x
      · by_cases hpy : PmtOk y
        · exact c_ok_ok A x y ax ay cx cy w hO hix hcx hiy hcy h h2 hpx hpy
        · exact c_ok_no A x y ax ay cx cy w hO hix hcx hiy hcy h h2 hpx hpy
      · by_cases hpy : PmtOk y
        · exact c_no_ok A x y ax ay cx cy w hO hix hcx hiy hcy h h2 hpx hpy
        · exact c_no_no A x y ax ay cx cy w hO hix hcx hiy hcy h h2 hpx hpy
  · exact c_x A x y ax ay cx cy w hO hix hcx hiy hcy h
theorem walk (x : Pat) (ax : Option Addr) (cx : Nat) (w : World) (hx : IsE rowPr w ax x.l.length x.l ∧ x.l.length ≤ cx ∧ cx ≤ maxLen) (y : Pmt) (ay : Option Addr) (cy : Nat) (hy : IsE rowSt w ay y.l.length y.l ∧ y.l.length ≤ cy ∧ cy ≤ maxLen) :
    Calls Try.prog 3 #[patV x ax cx, pmtV y ay cy] w fun e w' => e = .returned (.bool true) ∧ Below w.heap.size w w' :=
  core psiApi x y ax ay cx cy w (psiOk w) hx.1 hx.2 hy.1 hy.2

theorem own : ownKnob Try.prog.godebug = none := by kernel_rfl
theorem laidOut : laidOutB Try.prog = true := by kernel_rfl
set_option maxRecDepth 100000 in
theorem lifted (os : Os) (started : os.Started) (H : Type) (enc : TypeId × Value → H) :
    ReturnsInHanded {} Try.checked os 3 .any (Rows.psiBackSpec.pre6 enc Try.prog Try.f3 Rows.psiBackRow.domain false) (Rows.psiBackSpec.post enc Try.prog Try.f3 false true false false) := by
  refine returnsInHanded_of_change (C := Try.checked) own started (by kernel_rfl) Try.func3
    (ChangeSpec.witness6 (enc := enc) (C := Try.checked) false ⟨#[], #[.agg #[.int .i64 0, .int .i64 0, .slice none 0 0], .agg #[.int .i64 0, .int .i64 0, .int .i64 0, .string ByteArray.empty, .slice none 0 0]], []⟩ 8 (by kernel_rfl) (by kernel_rfl) (by kernel_rfl) (by kernel_rfl)) ?_
  intro W base args ds gs before hval0 hW hcnd _
  have hval : ∀ (j : Nat) t v, Try.f3.params[j]? = some t → args[j]? = some v → Value.okWide Try.prog W .any base t v := hval0
  have hW' := hW
  obtain ⟨p, q, hA0, hV, rfl, hfz, hnd⟩ := hW
  have hA : DataW.TrodAll enc Try.prog W 0 (fun _ => true) true Try.f3.params.toList args.toList ds p := hA0
  rw [Try.params3] at hA hval
  obtain ⟨v0, vs0, d0, ds0, p0, q0, hargs, rfl, rfl, h0, r0⟩ := trodAll_cons hA
  obtain ⟨v1, vs1, d1, ds1, p1, q1, rfl, rfl, rfl, h1, r1⟩ := trodAll_cons r0
  obtain ⟨rfl, rfl, rfl⟩ := trodAll_nil r1
  obtain rfl : args = #[v0, v1] := by cases args; simp_all
  obtain ⟨rfl, rfl⟩ := trodVars_none hV
  have k0 := h0
  have lt0 : ∀ x ∈ p0, x.block < W.heap.size := by obtain ⟨m, hm⟩ := k0; exact DataW.trod_lt m _ _ _ hm
  obtain ⟨x0, a0, c0, w0, rfl⟩ := open_pat (hval 0 24 v0 rfl rfl) h0
  have k1 := h1
  have lt1 : ∀ x ∈ p1, x.block < W.heap.size := by obtain ⟨m, hm⟩ := k1; exact DataW.trod_lt m _ _ _ hm
  obtain ⟨x1, a1, c1, w1, rfl⟩ := open_pmt (hval 1 27 v1 rfl rfl) h1
  clear hA0 hval0
  refine (walk x0 a0 c0 W w0 x1 a1 c1  w1).mono fun e W' ⟨he, bel⟩ => ?_
  subst he
  exact ⟨_, rfl, _, _, _, [], _, [], hW', trodAll_mk1 (shut_bool Try.underlying4 _), (trodAll_cons_mk (Below.trod laidOut (by kernel_rfl) (of_decide_eq_true (by kernel_rfl)) k0 bel lt0) (trodAll_cons_mk (Below.trod laidOut (by kernel_rfl) (of_decide_eq_true (by kernel_rfl)) k1 bel lt1) trodAll_mk0)), rfl, bel.frame _, fun h => by cases h⟩

theorem over : Rows.psiBackRow.holds Try.pinned (OpenSpec.ofChange Rows.psiBackSpec) :=
  OpenClaim.holds_of_wide 3 Try.f3 rfl rfl rfl rfl rfl rfl rfl ⟨rfl, rfl, rfl, rfl, rfl⟩ rfl rfl rfl rfl rfl (by kernel_rfl) Try.func3 (by kernel_rfl)
    (of_decide_eq_true (by kernel_rfl)) (by unfold Func.isWrapper; first | (rw [if_pos (by decide +kernel)]; kernel_rfl) | (rw [if_neg (by decide +kernel)]; exact ⟨rfl, rfl⟩))
    (fun os started H enc _ => lifted os started H enc)

theorem proved : Rows.PsiBackSaid := over
#print axioms proved
end Go.Proofs.Ytebfihghfkcicaa.psiBack
