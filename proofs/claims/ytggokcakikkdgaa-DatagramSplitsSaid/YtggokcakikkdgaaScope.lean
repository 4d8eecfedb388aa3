/-
  A scope whose label is jumped to: what holds at every jump, and a measure that falls; frames of which the first slots are known. Of no program.
-/
import Derived.WalkMore
import Derived.ScopeJumps
import Derived.Test.YtggokcakikkdgaaBas
namespace Go.Proofs.Ytggokcakikkdgaa
open Go.RowKit
set_option maxRecDepth 100000
theorem scope_loop {P : Program} {a : Act} {w : World} {Q : Exit → Act → World → Prop} {c rest : Code} (l : Nat) (J : Act → World → Prop) (μ : Act → World → Nat) (hf : findLabel c l = some (Code.skip.seq rest))
    (pass : ∀ a w, J a w → rest.wp P (Exit.jump l (fun a' w' => J a' w' ∧ μ a' w' < μ a w) Q) a w)
    (first : (∀ a w, J a w → rest.wp P (Exit.jump l J Q) a w) → c.wp P (Exit.jump l J Q) a w) : (Code.scope c).wp P Q a w :=
  wp_scope_jumps l J μ hf (first fun a w h => Code.wp_mono (fun e a' w' k => by
    cases e <;> first | exact k | exact ⟨k.1, k.2.1⟩) (pass a w h)) (fun a w h => wp_seq (wp_skip (pass a w h)))
theorem list_eta (l : List Value) : l = (List.range l.length).map (fun i => l.getD i undef) := by
  refine List.ext_getElem (by simp) fun i h1 h2 => ?_
  simp [List.getElem?_eq_getElem h1]
/-- The slots behind those that are known. -/
def tailF (us : Nat → Value) : Nat → Nat → List Value
  | _, 0 => []
  | k, n + 1 => us k :: tailF us (k + 1) n
theorem tailF_length (us : Nat → Value) : ∀ (n k : Nat), (tailF us k n).length = n
  | 0, _ => rfl
  | n + 1, k => by simp [tailF, tailF_length us n (k + 1)]
theorem tailF_of (r : List Value) : ∀ (n k : Nat), r.length = n → r = tailF (fun i => r.getD (i - k) undef) k n := by
  have key : ∀ (n k : Nat) (f : Nat → Value) (r : List Value), r.length = n → (∀ i, i < n → f (k + i) = r.getD i undef) → r = tailF f k n := by
    intro n
    induction n with
    | zero => intro k f r h _; exact List.length_eq_zero_iff.1 h
    | succ n ih =>
      intro k f r h hf
      cases r with
      | nil => simp at h
      | cons x r =>
        have h0 := hf 0 (by omega)
        rw [Nat.add_zero, List.getD_cons_zero] at h0
        show x :: r = f k :: tailF f (k + 1) n
        rw [h0, ← ih (k + 1) f r (by simpa using h) (fun i hi => by
          have := hf (i + 1) (by omega)
          rw [List.getD_cons_succ] at this
          rw [← this]; congr 1; omega)]
  intro n k h
  exact key n k _ r h fun i hi => by rw [Nat.add_sub_cancel_left]
/-- A frame of which the first slots are known. -/
theorem frameN {a : Act} (n : Nat) (vs : List Value) (hs : a.tmps.size = vs.length + n) (hd : a.defers = []) (ht : a.tmps.toList.take vs.length = vs) :
    ∃ us : Nat → Value, a = { tmps := List.toArray (vs ++ tailF us 0 n), defers := [] } := by
  obtain ⟨⟨l⟩, d⟩ := a
  simp only at hd ht
  subst hd
  have hl : l.length = vs.length + n := by simpa using hs
  refine ⟨fun i => (l.drop vs.length).getD (i - 0) undef, ?_⟩
  have e := tailF_of (l.drop vs.length) n 0 (by rw [List.length_drop, hl]; omega)
  rw [← e]
  congr 2
  have e2 := List.take_append_drop vs.length l
  rw [ht] at e2
  exact e2.symm
end Go.Proofs.Ytggokcakikkdgaa
