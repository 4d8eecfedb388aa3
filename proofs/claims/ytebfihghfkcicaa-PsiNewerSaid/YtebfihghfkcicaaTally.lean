/-
  A map that tells how often each number is there (map[int]int), filled in a loop and gone through: what it reads as, and what is known of the numbers that have come by. No function of the program.
-/
import Derived.Maps.Own
import Derived.Maps.OwnOps
import Derived.Maps.RangeWalk
import Derived.Maps.Views
import Derived.Test.YtebfihghfkcicaaBase
namespace Go.Proofs.Ytebfihghfkcicaa
open Go.RowKit Go.Maps Gf
set_option maxRecDepth 100000
set_option linter.unusedVariables false
theorem lawI : Keyed Try.prog 3 := int_keyed Try.underlying3
theorem zeroI (w : World) : (zeroValue 3).run Try.prog w = .ok (.int .i64 0) w := by kernel_rfl
/-- How often each is there (the last one that came stands first). -/
def tally : List Int → DataW Unit
  | [] => .map []
  | x :: t => (tally t).put (.int .i64 x) (.lit (.int .i64 ((t.count x : Nat) + 1 : Int)))
theorem tally_map : ∀ l, IsMap (tally l)
  | [] => isMap_empty
  | _ :: t => (tally_map t).put _ _
theorem key_ne {x y : Int} (h : ¬ y = x) : (Lit.int .i64 y) ≠ Lit.int .i64 x := fun e => h (by cases e; rfl)
theorem tally_at : ∀ (l : List Int) (x : Int), (tally l).atKey (.int .i64 x) (.lit (.int .i64 0)) = .lit (.int .i64 (l.count x : Int))
  | [], _ => rfl
  | y :: t, x => by
    unfold tally
    by_cases e : x = y
    · subst e
      rw [atKey_put_same (k := .int .i64 x) (tally_map t) (show WideAt.IsKeyLit (.int .i64 x) from trivial), List.count_cons_self]; rfl
    · rw [atKey_put_other (key_ne e), tally_at t x, List.count_cons_of_ne (fun h => e h.symm)]
theorem tally_has : ∀ (l : List Int) (x : Int), x ∈ l → Maps.has (tally l) (.int .i64 x) = true
  | y :: t, x, h => by
    unfold tally
    by_cases e : x = y
    · subst e
      exact has_put_same (k := .int .i64 x) (tally_map t) (show WideAt.IsKeyLit (.int .i64 x) from trivial) _
    · rw [has_put_other (key_ne e)]
      exact tally_has t x ((List.mem_cons.1 h).resolve_left e)
theorem count_nodup : ∀ {l : List Int}, (∀ x ∈ l, l.count x ≤ 1) → l.Nodup
  | [], _ => List.nodup_nil
  | x :: t, h => by
    have h1 := h x (List.mem_cons_self ..)
    rw [List.count_cons_self] at h1
    have hx : x ∉ t := fun hm => by have := List.count_pos_iff.2 hm; omega
    refine List.nodup_cons.2 ⟨hx, count_nodup fun y hy => ?_⟩
    have h2 := h y (List.mem_cons_of_mem _ hy)
    rw [List.count_cons_of_ne (show x ≠ y from fun e => hx (by rw [e]; exact hy))] at h2
    exact h2
theorem nodup_count {l : List Int} (h : l.Nodup) (x : Int) : l.count x ≤ 1 := by
  induction l with
  | nil => exact Nat.zero_le _
  | cons y t ih =>
    obtain ⟨h1, h2⟩ := List.nodup_cons.1 h
    by_cases e : x = y
    · subst e
      rw [List.count_cons_self, List.count_eq_zero.2 h1]; exact Nat.le_refl _
    · rw [List.count_cons_of_ne (fun g => e g.symm)]; exact ih h2
/-- While it is gone through: all that are no longer to come are there once. -/
def Once1 (l : List Int) (left : Lit → Bool) : Prop := ∀ x, left (.int .i64 x) = false → l.count x ≤ 1
theorem Once1.start (l : List Int) : Once1 l (Maps.has (tally l)) := fun x h => by
  by_cases hm : x ∈ l
  · rw [tally_has l x hm] at h; cases h
  · rw [List.count_eq_zero.2 hm]; exact Nat.zero_le _
theorem Once1.step {l : List Int} {left : Lit → Bool} (h : Once1 l left) {x c : Int} (hat : ∀ zd, (tally l).atKey (.int .i64 x) zd = .lit (.int .i64 c)) (hc : ¬ 1 < c) : Once1 l (fun z => left z && !z.sameKey (.int .i64 x)) := by
  intro y hy
  have e := tally_at l x
  rw [hat] at e
  have e2 : c = (l.count x : Int) := by injection e with e; injection e
  by_cases k : y = x
  · subst k; omega
  · refine h y ?_
    have : (Lit.int .i64 y).sameKey (.int .i64 x) = false := sameKey_ne (key_ne k)
    simp only [this, Bool.not_false, Bool.and_true] at hy
    exact hy
theorem Once1.twice {l : List Int} {x c : Int} (hat : ∀ zd, (tally l).atKey (.int .i64 x) zd = .lit (.int .i64 c)) (hc : 1 < c) : ¬ l.Nodup := fun h => by
  have e := tally_at l x
  rw [hat] at e
  have e2 : c = (l.count x : Int) := by injection e with e; injection e
  have := nodup_count h x
  omega
theorem Once1.all {l : List Int} {left : Lit → Bool} (h : Once1 l left) (h0 : ∀ kl, left kl = false) : l.Nodup := count_nodup fun x _ => h x (h0 _)
/-- One more. -/
theorem tally_snoc (ks : List Int) {k : Nat} (hk : k < ks.length) {c : Int} (hat : (tally (ks.take k).reverse).atKey (.int .i64 ks[k]) (.lit (.int .i64 0)) = .lit (.int .i64 c)) :
    (tally (ks.take k).reverse).put (.int .i64 ks[k]) (.lit (.int .i64 (c + 1))) = tally (ks.take (k + 1)).reverse ∧ 0 ≤ c ∧ c ≤ k := by
  rw [tally_at] at hat
  have e2 : (((ks.take k).reverse.count ks[k] : Nat) : Int) = c := by injection hat with e; injection e
  have hle : (ks.take k).reverse.count ks[k] ≤ k := by
    have := List.count_le_length (a := ks[k]) (l := (ks.take k).reverse)
    rw [List.length_reverse, List.length_take] at this; omega
  refine ⟨?_, by omega, by omega⟩
  rw [List.take_add_one, List.getElem?_eq_getElem hk, Option.toList_some, List.reverse_append, List.reverse_singleton, List.singleton_append]
  show _ = (tally (ks.take k).reverse).put _ (.lit (.int .i64 (((ks.take k).reverse.count ks[k] : Nat) + 1 : Int)))
  rw [← e2]
theorem nodup_reverse' {l : List Int} : l.reverse.Nodup ↔ l.Nodup := by
  unfold List.Nodup
  rw [List.pairwise_reverse]
  exact ⟨fun h => h.imp fun h e => h e.symm, fun h => h.imp fun h e => h e.symm⟩
theorem Keeps.grown0 {w w' : World} (h : Keeps w w') : w.grownBy w' none := ⟨h.os, h.tape, h.output, h.size, fun k hk _ => h.block k hk⟩
end Go.Proofs.Ytebfihghfkcicaa
