/-
  Targets, as mathematics (for layer 18). No function of the program.
-/
import Derived.Test.YtlghkdkaifcliaaDoorDsMath
namespace Go.Proofs.YtlghkdkaifcliaaDoor.Ds
open Gf
set_option maxRecDepth 100000
set_option linter.unusedVariables false
/-- A Target: four bytes, and how many bits of them count. -/
structure Tgt where
  a : UInt8
  b : UInt8
  c : UInt8
  d : UInt8
  bits : Int
def okT (x : Tgt) : Prop := 0 ≤ x.bits ∧ x.bits ≤ 32
instance (x : Tgt) : Decidable (okT x) := by unfold okT; infer_instance
def tgB (x : Tgt) : List UInt8 := [x.a, x.b, x.c, x.d, u8 x.bits.toNat]
def tgsB : List Tgt → List UInt8
  | [] => []
  | x :: l => tgB x ++ tgsB l
theorem tgsB_length : ∀ l, (tgsB l).length = 5 * l.length
  | [] => rfl
  | x :: l => by
    show (tgB x ++ tgsB l).length = _
    rw [List.length_append, tgsB_length l, List.length_cons]
    show 5 + _ = _
    omega
theorem tgsB_append : ∀ (l m : List Tgt), tgsB (l ++ m) = tgsB l ++ tgsB m
  | [], _ => rfl
  | x :: l, m => by
    show tgB x ++ tgsB (l ++ m) = (tgB x ++ tgsB l) ++ tgsB m
    rw [tgsB_append l m, List.append_assoc]
/-- What Targets answers: an error, or the descriptor. -/
def tgE (l : List Tgt) : Int := if (∀ x ∈ l, okT x) then (if 51 < l.length then 11 else 0) else 15
def tgD (l : List Tgt) : Dsc := ⟨15, st (tgsB l)⟩
def okTs (l : List Tgt) : Prop := (∀ x ∈ l, okT x) ∧ l.length ≤ 51
instance (l : List Tgt) : Decidable (okTs l) := by unfold okTs; infer_instance
theorem tgE_ok {l : List Tgt} : tgE l = 0 ↔ okTs l := by
  unfold tgE okTs
  split
  · split
    · constructor
      · intro h; cases h
      · intro h; omega
    · constructor
      · intro _; exact ⟨by assumption, by omega⟩
      · intro _; rfl
  · constructor
    · intro h; cases h
    · intro h; exact absurd h.1 (by assumption)
/-- The Targets of bytes, five each. -/
def rdTs : List UInt8 → List Tgt
  | a :: b :: c :: d :: e :: r => ⟨a, b, c, d, (e.toNat : Int)⟩ :: rdTs r
  | _ => []
theorem rdTs_tgsB : ∀ {l : List Tgt}, (∀ x ∈ l, okT x) → rdTs (tgsB l) = l
  | [], _ => rfl
  | x :: l, h => by
    obtain ⟨h1, h2⟩ := h x (List.mem_cons_self ..)
    show rdTs (x.a :: x.b :: x.c :: x.d :: u8 x.bits.toNat :: tgsB l) = _
    unfold rdTs
    rw [rdTs_tgsB fun y hy => h y (List.mem_cons_of_mem _ hy), u8_nat (by omega), show ((x.bits.toNat : Nat) : Int) = x.bits by omega]
theorem tgsB_rdTs : ∀ {s : List UInt8}, s.length % 5 = 0 → tgsB (rdTs s) = s
  | a :: b :: c :: d :: e :: r, h => by
    have ih := tgsB_rdTs (s := r) (by simp only [List.length_cons] at h; omega)
    unfold rdTs
    show [a, b, c, d, u8 (e.toNat : Int).toNat] ++ tgsB (rdTs r) = _
    rw [ih, Int.toNat_natCast, show u8 e.toNat = e from UInt8.toNat_inj.1 (u8_nat e.toNat_lt)]; rfl
  | [], _ => rfl
  | [_], h => by simp at h
  | [_, _], h => by simp at h
  | [_, _, _], h => by simp at h
  | [_, _, _, _], h => by simp at h
theorem rdTs_length : ∀ {s : List UInt8}, s.length % 5 = 0 → (rdTs s).length = s.length / 5
  | a :: b :: c :: d :: e :: r, h => by
    have ih := rdTs_length (s := r) (by simp only [List.length_cons] at h; omega)
    unfold rdTs
    rw [List.length_cons, ih]
    simp only [List.length_cons]; omega
  | [], _ => rfl
  | [_], h => by simp at h
  | [_, _], h => by simp at h
  | [_, _, _], h => by simp at h
  | [_, _, _, _], h => by simp at h
/-- What ReadTargets answers. -/
def rts (d : Dsc) : List Tgt × Int :=
  if d.tag ≠ 15 then ([], 14) else if d.body.size % 5 ≠ 0 then ([], 10) else if ¬ okTs (rdTs (ls d.body)) then ([], 12) else (rdTs (ls d.body), 0)
theorem rts_tgD {l : List Tgt} (h : okTs l) : rts (tgD l) = (l, 0) := by
  have hb : ls (tgD l).body = tgsB l := ls_st _
  have hz : (tgD l).body.size % 5 = 0 := by rw [ls_size, hb, tgsB_length]; omega
  unfold rts
  rw [if_neg (fun k => k rfl), if_neg (fun k => k hz), hb, rdTs_tgsB h.1, if_neg (fun k => k h)]
theorem rts_good {d : Dsc} (h : (rts d).2 = 0) : okTs (rts d).1 ∧ tgD (rts d).1 = d := by
  unfold rts at h ⊢
  by_cases h1 : d.tag ≠ 15
  · rw [if_pos h1] at h; cases h
  rw [if_neg h1] at h ⊢
  by_cases h2 : d.body.size % 5 ≠ 0
  · rw [if_pos h2] at h; cases h
  rw [if_neg h2] at h ⊢
  by_cases h3 : ¬ okTs (rdTs (ls d.body))
  · rw [if_pos h3] at h; cases h
  rw [if_neg h3]
  refine ⟨Classical.not_not.1 h3, dsc_ext (by show (15 : Int) = d.tag; omega) ?_⟩
  show ls (st (tgsB (rdTs (ls d.body)))) = ls d.body
  rw [ls_st, tgsB_rdTs (by rw [← ls_size]; omega)]
end Go.Proofs.YtlghkdkaifcliaaDoor.Ds
