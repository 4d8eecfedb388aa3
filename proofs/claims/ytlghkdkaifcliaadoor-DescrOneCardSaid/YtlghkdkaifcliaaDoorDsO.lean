/-
  Ints as mathematics and in memory; what fits, Ext, writeLoop and Body of package descr answer. The memory that was there stays.
-/
import Derived.Test.YtlghkdkaifcliaaDoorDsX
import Derived.Test.YtlghkdkaifcliaaDoorDsG
namespace Go.Proofs.YtlghkdkaifcliaaDoor.Ds
open Gf
set_option maxRecDepth 100000
set_option linter.unusedVariables false
/-- An Int. -/
structure IntD where
  act : Int
  plat : Int
  ord : Int
  info : List Dsc
  ents : List (List Dsc × List Dsc)
def numI (x : IntD) : Prop := (0 ≤ x.plat ∧ x.plat ≤ 16777215) ∧ (0 ≤ x.ord ∧ x.ord ≤ 255) ∧ (0 ≤ x.act ∧ x.act ≤ 255)
instance (x : IntD) : Decidable (numI x) := by unfold numI; infer_instance
def lps (l : List (List Dsc × List Dsc)) : List (List Dsc) := l.flatMap fun p => [p.1, p.2]
/-- A loop with how many bytes it has ahead of it. -/
def lnB (l : List Dsc) : List UInt8 := [u8 (240 + (lpB l).length / 256), u8 (lpB l).length] ++ lpB l
def bdE : List (List Dsc) → Int
  | [] => 0
  | l :: r => if (loop l).2 = 0 then bdE r else (loop l).2
def bdB : List (List Dsc) → List UInt8
  | [] => []
  | l :: r => lnB l ++ bdB r
theorem bdB_append : ∀ (a b : List (List Dsc)), bdB (a ++ b) = bdB a ++ bdB b
  | [], _ => rfl
  | l :: a, b => by
    show lnB l ++ bdB (a ++ b) = (lnB l ++ bdB a) ++ bdB b
    rw [bdB_append a b, List.append_assoc]
theorem bdE_bad : ∀ {a : List (List Dsc)} {l : List Dsc} (r : List (List Dsc)), (∀ m ∈ a, okL m) → (loop l).2 ≠ 0 → bdE (a ++ l :: r) = (loop l).2
  | [], l, r, _, h => by show (if (loop l).2 = 0 then _ else _) = _; rw [if_neg h]
  | m :: a, l, r, h, k => by
    show (if (loop m).2 = 0 then bdE (a ++ l :: r) else _) = _
    rw [if_pos (by rw [loop_ok (h m (List.mem_cons_self ..))])]
    exact bdE_bad r (fun x hx => h x (List.mem_cons_of_mem _ hx)) k
theorem bdE_good : ∀ {a : List (List Dsc)}, (∀ m ∈ a, okL m) → bdE a = 0
  | [], _ => rfl
  | m :: a, h => by
    show (if (loop m).2 = 0 then bdE a else _) = _
    rw [if_pos (by rw [loop_ok (h m (List.mem_cons_self ..))])]
    exact bdE_good fun x hx => h x (List.mem_cons_of_mem _ hx)
theorem bdE_ok : ∀ {a : List (List Dsc)}, bdE a = 0 → ∀ m ∈ a, okL m
  | [], _, _, hm => by cases hm
  | l :: a, h, m, hm => by
    unfold bdE at h
    by_cases k : (loop l).2 = 0
    · rw [if_pos k] at h
      rcases List.mem_cons.1 hm with rfl | hm
      · exact loop_good k
      · exact bdE_ok h m hm
    · rw [if_neg k] at h; exact absurd h k
/-- The bytes ahead of the loops; all bytes. -/
def hdI (x : IntD) : List UInt8 := [u8 (x.plat.toNat / 65536), u8 (x.plat.toNat / 256), u8 x.plat.toNat, u8 x.ord.toNat]
def bytI (x : IntD) : List UInt8 := hdI x ++ bdB (x.info :: lps x.ents)
def okI (x : IntD) : Prop := numI x ∧ ∀ m ∈ x.info :: lps x.ents, okL m
def bodyI (x : IntD) : List UInt8 × Int := if ¬ numI x then ([], 15) else if bdE (x.info :: lps x.ents) ≠ 0 then ([], bdE (x.info :: lps x.ents)) else (bytI x, 0)
theorem bodyI_num {x : IntD} (h : ¬ numI x) : bodyI x = ([], 15) := if_pos h
theorem bodyI_err {x : IntD} (h : numI x) (k : bdE (x.info :: lps x.ents) ≠ 0) : bodyI x = ([], bdE (x.info :: lps x.ents)) := by unfold bodyI; rw [if_neg (fun y => y h), if_pos k]
theorem bodyI_ok {x : IntD} (h : okI x) : bodyI x = (bytI x, 0) := by unfold bodyI; rw [if_neg (fun y => y h.1), if_neg (fun k => k (bdE_good h.2))]
theorem bodyI_good {x : IntD} (h : (bodyI x).2 = 0) : okI x := by
  unfold bodyI at h
  by_cases k : numI x
  · rw [if_neg (fun y => y k)] at h
    by_cases e : bdE (x.info :: lps x.ents) = 0
    · exact ⟨k, bdE_ok e⟩
    · rw [if_pos e] at h; exact absurd h e
  · rw [if_pos k] at h; cases h
theorem bodyI_nil {x : IntD} (h : (bodyI x).2 ≠ 0) : (bodyI x).1 = [] := by
  unfold bodyI at h ⊢
  by_cases k : numI x
  · rw [if_neg (fun y => y k)] at h ⊢
    by_cases e : bdE (x.info :: lps x.ents) = 0
    · rw [if_neg (fun q => q e)] at h; exact absurd rfl h
    · rw [if_pos e]
  · rw [if_pos k]
def xbI (p : Int) : Nat := (p.toNat / 65536 ^^^ p.toNat / 256 ^^^ p.toNat) % 256
def extI (x : IntD) : Int := if numI x then x.act * 256 + (xbI x.plat : Int) else 0
theorem lnB_length (l : List Dsc) : (lnB l).length = (lpB l).length + 2 := by unfold lnB; rw [List.length_append]; show 2 + _ = _; omega
theorem bdB_bound : ∀ {a : List (List Dsc)}, (∀ m ∈ a, okL m) → (bdB a).length ≤ 4097 * a.length
  | [], _ => Nat.le_refl _
  | l :: a, h => by
    have h1 := (h l (List.mem_cons_self ..)).2
    have h2 := bdB_bound fun m hm => h m (List.mem_cons_of_mem _ hm)
    show (lnB l ++ bdB a).length ≤ _
    rw [List.length_append, lnB_length, List.length_cons]; omega
theorem lps_length (l : List (List Dsc × List Dsc)) : (lps l).length = 2 * l.length := by
  unfold lps
  induction l with
  | nil => rfl
  | cons p l ih => rw [List.flatMap_cons, List.length_append, ih]; show 2 + 2 * l.length = 2 * (l.length + 1); omega
theorem lps_take_succ (l : List (List Dsc × List Dsc)) {k : Nat} (h : k < l.length) : lps (l.take (k + 1)) = lps (l.take k) ++ [l[k].1, l[k].2] := by
  unfold lps
  rw [List.take_add_one, List.getElem?_eq_getElem h, List.flatMap_append]; rfl
theorem lps_split (l : List (List Dsc × List Dsc)) {k : Nat} (h : k < l.length) : lps l = lps (l.take k) ++ l[k].1 :: l[k].2 :: lps (l.drop (k + 1)) := by
  conv => lhs; rw [← List.take_append_drop k l]
  unfold lps
  rw [List.flatMap_append, List.drop_eq_getElem_cons h, List.flatMap_cons]; rfl
end Go.Proofs.YtlghkdkaifcliaaDoor.Ds
namespace Go.Proofs.YtlghkdkaifcliaaDoor
open Go.RowKit Gf Ds
set_option maxRecDepth 100000
set_option linter.unusedVariables false
set_option linter.unusedSimpArgs false
/-- An entry as two slices. -/
structure EnR where
  ta : Option Addr
  tn : Nat
  tc : Nat
  oa : Option Addr
  on : Nat
  oc : Nat
abbrev enC (e : EnR) : List Value := [.slice e.ta e.tn e.tc, .slice e.oa e.on e.oc]
theorem enC_one (e : EnR) : ∀ u ∈ enC e, u.oneCell' = true := by
  intro u hu
  simp only [enC, List.mem_cons, List.not_mem_nil, or_false] at hu
  rcases hu with rfl | rfl <;> rfl
def rowEn : RowT EnR where
  E := 119
  S := 76
  sz := 2
  bs := 48
  z := .agg #[.slice none 0 0, .slice none 0 0]
  enc := enC
  und := Tryd.underlying76
  info := by kernel_rfl
  zs := rfl
  pos := by decide
  small := by decide
  len := fun _ => rfl
  one := enC_one
/-- Entries in memory. -/
structure IsEn (W : World) (a : Option Addr) (n : Nat) (es : List EnR) (l : List (List Dsc × List Dsc)) : Prop where
  row : IsE rowEn W a n es
  len : es.length = l.length
  one : ∀ (i : Nat) (h : i < es.length) (k : i < l.length), IsE rowD W es[i].ta es[i].tn l[i].1 ∧ IsE rowD W es[i].oa es[i].on l[i].2
theorem IsEn.keeps {W W' : World} {a : Option Addr} {n : Nat} {es : List EnR} {l : List (List Dsc × List Dsc)} (h : IsEn W a n es l) (k : Keeps W W') : IsEn W' a n es l :=
  ⟨h.row.keeps k, h.len, fun i p q => ⟨(h.one i p q).1.keeps k, (h.one i p q).2.keeps k⟩⟩
abbrev inC (x : IntD) (a : Option Addr) (n c : Nat) (ae : Option Addr) (ne ce : Nat) : List Value := [.int .i64 x.act, .int .i64 x.plat, .int .i64 x.ord, .slice a n c, .slice ae ne ce]
abbrev inV (x : IntD) (a : Option Addr) (n c : Nat) (ae : Option Addr) (ne ce : Nat) : Value := .agg #[.int .i64 x.act, .int .i64 x.plat, .int .i64 x.ord, .slice a n c, .slice ae ne ce]
/-- An Int's slices in memory. -/
structure IntAt (W : World) (x : IntD) (a : Option Addr) (n : Nat) (ae : Option Addr) (ne : Nat) (es : List EnR) : Prop where
  inf : IsE rowD W a n x.info
  ent : IsEn W ae ne es x.ents
theorem IntAt.keeps {W W' : World} {x : IntD} {a : Option Addr} {n : Nat} {ae : Option Addr} {ne : Nat} {es : List EnR} (h : IntAt W x a n ae ne es) (k : Keeps W W') : IntAt W' x a n ae ne es := ⟨h.inf.keeps k, h.ent.keeps k⟩
abbrev TI (w : World) : Prop := Tab 4 wsI w
abbrev TH (w : World) : Prop := Tab 3 wsH w
abbrev TL (w : World) : Prop := Tab 5 wsL w
theorem fits_I {x : IntD} : fits wsI [x.plat, x.ord, x.act, 0, 0, 0, 0, 0, 0] ↔ numI x := by
  unfold numI
  constructor
  · intro f
    have g0 : (0 : Int) ≤ x.plat ∧ x.plat < 16777216 := f 0 (by decide)
    have g1 : (0 : Int) ≤ x.ord ∧ x.ord < 256 := f 1 (by decide)
    have g2 : (0 : Int) ≤ x.act ∧ x.act < 256 := f 2 (by decide)
    omega
  · rintro ⟨h0, h1, h2⟩ k hk
    have hk' : k = 0 ∨ k = 1 ∨ k = 2 ∨ k = 3 ∨ k = 4 ∨ k = 5 ∨ k = 6 ∨ k = 7 ∨ k = 8 := by omega
    rcases hk' with rfl | rfl | rfl | rfl | rfl | rfl | rfl | rfl | rfl
    · show (0 : Int) ≤ x.plat ∧ x.plat < 16777216; omega
    · show (0 : Int) ≤ x.ord ∧ x.ord < 256; omega
    · show (0 : Int) ≤ x.act ∧ x.act < 256; omega
    all_goals (show (0 : Int) ≤ 0 ∧ (0 : Int) < 1; omega)
theorem efits_any (x : IntD) (a : Option Addr) (n c : Nat) (ae : Option Addr) (ne ce : Nat) (w : World) (hT : TI w) : Calls Tryd.prog 54 #[inV x a n c ae ne ce] w fun e w' => e = .returned (.bool (decide (numI x))) ∧ Keeps w w' := by
  obtain ⟨X, hX⟩ : ∃ X, w.heap.size = X := ⟨_, rfl⟩
  obtain ⟨wA, hA⟩ : ∃ W, w.alloc (.cells #[.int .i64 x.act, .int .i64 x.plat, .int .i64 x.ord, .slice a n c, .slice ae ne ce] 78) = W := ⟨_, rfl⟩
  have HK := Lib.hid (show Keeps w wA by rw [← hA]; exact (Keeps.refl w).alloc _)
  have HX := (show CsAt X (inC x a n c ae ne ce) wA by rw [← hX, ← hA]; exact CsAt.made w #[.int .i64 x.act, .int .i64 x.plat, .int .i64 x.ord, .slice a n c, .slice ae ne ce] _ (by simp))
  have HT := Lib.hid (hT.keeps HK.out)
  have q0 := HX.cell 0 rfl
  have q1 := HX.cell 1 rfl
  have q2 := HX.cell 2 rfl
  have HFI := Lib.hid (fun W => dfit_any (ws := wsI) (ns := [x.plat, x.ord, x.act, 0, 0, 0, 0, 0, 0]) rfl rfl gn_I W)
  rw [show decide (fits wsI [x.plat, x.ord, x.act, 0, 0, 0, 0, 0, 0]) = decide (numI x) from decide_eq_decide.2 fits_I] at HFI
  obtain ⟨r, hr⟩ : ∃ r, decide (numI x) = r := ⟨_, rfl⟩
  rw [hr] at HFI ⊢
  clear HX hT hr
  obtain ⟨act, plat, ord, info, ents⟩ := x
  simp only at *
  go_enter Tryd.func54, Tryd.ntmps54
  go_wp2_with (first | (refine dwp_ldG (g := 4) (l := wsI) HT.out rfl _ rfl rfl ?_) | (go_at_call 47; refine (HFI.out _).mono ?_; rintro _ w1 ⟨rfl, k1⟩; have HK1 := Lib.hid (HK.out.trans k1); clear k1))
  go_ret
  exact ⟨rfl, HK1.out⟩
set_option maxHeartbeats 3200000 in
theorem eext_any (x : IntD) (a : Option Addr) (n c : Nat) (ae : Option Addr) (ne ce : Nat) (w : World) (hT : TI w) : Calls Tryd.prog 35 #[inV x a n c ae ne ce] w fun e w' => e = .returned (.int .i64 (extI x)) ∧ Keeps w w' := by
  obtain ⟨X, hX⟩ : ∃ X, w.heap.size = X := ⟨_, rfl⟩
  obtain ⟨wA, hA⟩ : ∃ W, w.alloc (.cells #[.int .i64 x.act, .int .i64 x.plat, .int .i64 x.ord, .slice a n c, .slice ae ne ce] 78) = W := ⟨_, rfl⟩
  have HK := Lib.hid (show Keeps w wA by rw [← hA]; exact (Keeps.refl w).alloc _)
  have HX := Lib.hid (show CsAt X (inC x a n c ae ne ce) wA by rw [← hX, ← hA]; exact CsAt.made w #[.int .i64 x.act, .int .i64 x.plat, .int .i64 x.ord, .slice a n c, .slice ae ne ce] _ (by simp))
  have HF := Lib.hid (efits_any x a n c ae ne ce wA (hT.keeps HK.out))
  clear hT
  have q0 := HX.out.cell 0 rfl
  have q1 := HX.out.cell 1 rfl
  have q2 := HX.out.cell 2 rfl
  have q3 := HX.out.cell 3 rfl
  have q4 := HX.out.cell 4 rfl
  by_cases h : numI x
  · have HE := Lib.hid (show extI x = x.act * 256 + (xbI x.plat : Int) from if_pos h)
    rw [decide_eq_true h] at HF
    obtain ⟨act, plat, ord, info, ents⟩ := x
    obtain ⟨⟨p0, p1⟩, ⟨o0, o1⟩, ⟨a0, a1⟩⟩ := h
    simp only at *
    obtain ⟨P, rfl⟩ := Int.eq_ofNat_of_zero_le p0
    obtain ⟨A, rfl⟩ := Int.eq_ofNat_of_zero_le a0
    have hP : P ≤ 16777215 := by omega
    have hA2 : A ≤ 255 := by omega
    obtain ⟨P1, hP1⟩ : ∃ N : Nat, P / 65536 = N := ⟨_, rfl⟩
    obtain ⟨P2, hP2⟩ : ∃ N : Nat, P / 256 = N := ⟨_, rfl⟩
    have e1 : (P : Int) / 65536 = (P1 : Int) := by omega
    have e2 : (P : Int) / 256 = (P2 : Int) := by omega
    obtain ⟨X1, hX1⟩ : ∃ N : Nat, P1 ^^^ P2 = N := ⟨_, rfl⟩
    obtain ⟨X2, hX2⟩ : ∃ N : Nat, X1 ^^^ P = N := ⟨_, rfl⟩
    obtain ⟨X3, hX3⟩ : ∃ N : Nat, X2 % 256 = N := ⟨_, rfl⟩
    have bX1 : X1 < 16777216 := by rw [← hX1]; exact Nat.xor_lt_two_pow (n := 24) (by omega) (by omega)
    have bX2 : X2 < 16777216 := by rw [← hX2]; exact Nat.xor_lt_two_pow (n := 24) (by omega) (by omega)
    have e3 : bits .xor .i64 (P1 : Int) (P2 : Int) = (X1 : Int) := by rw [i64_xor_nat _ _ (by omega) (by omega), hX1]
    have e4 : bits .xor .i64 (X1 : Int) (P : Int) = (X2 : Int) := by rw [i64_xor_nat _ _ (by omega) (by omega), hX2]
    have e5 : bits .and .i64 (X2 : Int) 255 = (X3 : Int) := by rw [i64_mask 8 (by omega) (by omega) (m := 255) (by decide) (by decide), ← hX3]; push_cast; rfl
    have e6 : (A : Int) * 256 = ((A * 256 : Nat) : Int) := by push_cast; rfl
    obtain ⟨B, hB⟩ : ∃ N : Nat, A * 256 = N := ⟨_, rfl⟩
    rw [hB] at e6
    have bX3 : X3 < 256 := by omega
    have e7 : bits .or .i64 (B : Int) (X3 : Int) = ((B + X3 : Nat) : Int) := by
      rw [i64_join 8 (by omega) (by omega) (by omega) (by omega) (by omega) (by omega)]; omega
    obtain ⟨R, hR⟩ : ∃ N : Nat, B + X3 = N := ⟨_, rfl⟩
    rw [hR] at e7
    have v1 := wrapI (a := (B : Int)) (by omega) (by omega)
    have v2 := wrapI (a := (P1 : Int)) (by omega) (by omega)
    have v3 := wrapI (a := (P2 : Int)) (by omega) (by omega)
    have HE2 := Lib.hid (show (A : Int) * 256 + (xbI (P : Int) : Int) = (R : Int) by
      have hxb : xbI (P : Int) = X3 := by
        unfold xbI
        rw [Int.toNat_natCast, hP1, hP2, hX1, hX2, hX3]
      rw [hxb]; omega)
    clear hP1 hP2 hX1 hX2 hX3 hB hR p0 p1 o0 o1 a0 a1 hP hA2 bX1 bX2 bX3
    go_enter Tryd.func35, Tryd.ntmps35
    go_wp2_with (go_at_call 54; refine HF.out.mono ?_; rintro _ w1 ⟨rfl, k1⟩; have HK1 := Lib.hid (HK.out.trans k1); have q0 := (HX.out.keeps k1).cell 0 rfl; have q1 := (HX.out.keeps k1).cell 1 rfl; clear k1)
    go_ret
    exact ⟨by rw [HE.out, ← HE2.out]; rfl, HK1.out⟩
  · have HE := Lib.hid (show extI x = 0 from if_neg h)
    rw [decide_eq_false h] at HF
    rw [HE.out]
    clear h
    obtain ⟨act, plat, ord, info, ents⟩ := x
    simp only at *
    go_enter Tryd.func35, Tryd.ntmps35
    go_wp2_with (go_at_call 54; refine HF.out.mono ?_; rintro _ w1 ⟨rfl, k1⟩; have HK1 := Lib.hid (HK.out.trans k1); clear k1)
    go_ret
    exact ⟨rfl, HK1.out⟩
end Go.Proofs.YtlghkdkaifcliaaDoor
