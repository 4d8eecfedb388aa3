/-
  A range over a function whose body always goes on, told at the loop's own record: for an iterator that may keep its state in memory. Of no program.
-/
import Derived.RangeFuncFrom
import Derived.RangeFuncLeaves
import Derived.RangeFuncCalls
import Derived.Test.YtofnokikjfmfgaaBas
namespace Go.Proofs.Ytofnokikjfmfgaa
open Go Go.RowKit
set_option maxRecDepth 100000
/-- The record of a loop that is under way, and the block of its rounds' deferred calls. -/
structure Lp (D l : Nat) (r : Loop) (W : World) : Prop where
  loop : W.heap[l]? = some (.loop r)
  dfr : W.heap[D]? = some (.deferred (some []))
theorem Lp.others {D l : Nat} {r : Loop} {W W' : World} (h : Lp D l r W) (k : KeepsOthers W W') : Lp D l r W' := ⟨k.same _ _ h.loop rfl, k.same _ _ h.dfr rfl⟩
/-- W turned in nothing but the loop's own record. -/
theorem put_only {l : Nat} (W : World) (o : Obj) : Only l W (W.putObj l o) :=
  ⟨rfl, rfl, rfl, by simp [World.putObj], fun k _ hn => World.putObj_heap_other fun e => hn e⟩
/-- One round, out of the walk of its body: R tells of the world ahead of the record's last turn. -/
theorem yield_round {m : Nat} {P : Program} {D l : Nat} {r : Loop} {W : World} {args : Array Value} (h : Lp D l r W) (hD : D ≠ l) (hst : r.state = .ready) (hp : r.pending = none) (hs : args.size = r.params.size) {a₁ : Act} (R : World → Prop)
    (hassign : ∀ K : Act → World → Prop, K a₁ W → r.assign.wpIn (Fence.wide.inRound l) m P (Exit.then K fun _ _ _ => False) { tmps := (r.params.zip args).foldl (fun t (p, v) => t.setIfInBounds p v) r.tmps, defers := [] } W)
    (hbody : r.body.wpIn (Fence.wide.inRound l) m P (fun e _ W' => e = .normal ∧ KeepsOthers (W.putObj l (.loop { r with state := .busy })) W' ∧ R W') a₁ (W.putObj l (.loop { r with state := .busy }))) :
    YieldAt Fence.wide m P l args W fun e W'' => e = .returned (.bool true) ∧ Lp D l r W'' ∧ ∃ W', R W' ∧ W'' = W'.putObj l (.loop r) ∧ KeepsOthers (W.putObj l (.loop { r with state := .busy })) W' := by
  have hlt : l < W.heap.size := (Array.getElem?_eq_some_iff.1 h.loop).1
  have hl2 : (W.putObj l (.loop { r with state := .busy })).heap[l]? = some (.loop { r with state := .busy }) := World.putObj_heap_same hlt
  have hd2 : (W.putObj l (.loop { r with state := .busy })).heap[D]? = some (.deferred (some [])) := (World.putObj_heap_other hD).trans h.dfr
  refine ⟨r.fn, _, r.assign, r.body, run_yield h.loop hs, roundIn_of_wpIn trivial (hassign _ ⟨_, run_beginRound h.loop hst, wpIn_mono hbody ?_⟩)⟩
  rintro e a3 W3 ⟨rfl, hk, hR⟩
  have hl3 := hk.same _ _ hl2 rfl
  have hd3 := hk.same _ _ hd2 rfl
  have er : ({ { r with state := .busy } with state := if (none : Option Code).isNone then .ready else .done, pending := none } : Loop) = r := by
    cases r; simp only at hst hp; subst hst; subst hp; rfl
  refine ⟨_, _, run_endRound none hl3, rfl, ?_⟩
  rw [er]
  exact ⟨⟨World.putObj_heap_same (Array.getElem?_eq_some_iff.1 hl3).1, (World.putObj_heap_other hD).trans hd3⟩, W3, hR, rfl, hk⟩
/-- The range: r is the loop's record, E tells what the iterator leaves. -/
theorem wpIn_range {n : Nat} {P : Program} {g : Operand} {ps : Array Tmp} {assign body : Code} {Q : Exit → Act → World → Prop} {a : Act} {w : World} {gf : Nat} {lb : Array Value} (hg : a.eval g = .func (.func gf) #[] lb)
    (eg : ∀ args w, (callFunc gf args).run P w = .ok (.enter gf args) w) (E : World → Prop)
    (hit : ∀ (fn : FuncId) (r : Loop), r = { state := .ready, pending := none, fn, tmps := a.tmps, params := ps, assign, body, defers := w.heap.size } →
      Lp w.heap.size (w.heap.size + 1) r ((w.alloc (.deferred (some []))).alloc (.loop r)) →
      CallsIn Fence.wide (n - 1) P gf (#[.func (.yield (w.heap.size + 1)) #[] #[]] ++ lb) ((w.alloc (.deferred (some []))).alloc (.loop r)) fun e W' => (∃ v, e = .returned v) ∧ Lp w.heap.size (w.heap.size + 1) r W' ∧ E W')
    (hdone : ∀ (W : World) (o : Obj), E W → (W.putObj (w.heap.size + 1) o).heap[w.heap.size]? = some (.deferred (some [])) →
      Q .normal { a with defers := { target := .collected w.heap.size, args := #[] } :: a.defers } (W.putObj (w.heap.size + 1) o)) :
    (Code.rangeFunc g ps assign body).wpIn Fence.wide n P Q a w := by
  refine wpIn_rangeFunc fun fn _ => ?_
  obtain ⟨r, hr⟩ : ∃ r : Loop, r = { state := .ready, pending := none, fn, tmps := a.tmps, params := ps, assign, body, defers := w.heap.size } := ⟨_, rfl⟩
  have hl : ((w.alloc (.deferred (some []))).alloc (.loop r)).heap[w.heap.size + 1]? = some (.loop r) := by
    have := World.alloc_heap_new (w.alloc (.deferred (some []))) (.loop r); rwa [World.size_alloc] at this
  have hd : ((w.alloc (.deferred (some []))).alloc (.loop r)).heap[w.heap.size]? = some (.deferred (some [])) := (Below.heap_alloc _ _ _ (by simp)).trans (World.alloc_heap_new w _)
  refine ⟨w.heap.size + 1, [{ target := .collected w.heap.size, args := #[] }], (w.alloc (.deferred (some []))).alloc (.loop r), { target := .fn (.func gf) lb, args := #[.func (.yield (w.heap.size + 1)) #[] #[]] }, (w.alloc (.deferred (some []))).alloc (.loop r), gf,
    #[.func (.yield (w.heap.size + 1)) #[] #[]] ++ lb, (w.alloc (.deferred (some []))).alloc (.loop r), ?_, ?_, fun _ _ => trivial, ?_, fun h => (by cases h), ?_⟩
  · rw [hr]; exact run_enterLoop_outer _ _ _ _ _
  · simp only [resolve, hg]; simp [go_sem]
  · simp [invoke, go_sem, eg]
  · refine (hit fn r hr ⟨hl, hd⟩).mono ?_
    rintro e W2 ⟨⟨v, rfl⟩, hL, hE⟩
    have hpn : r.pending = none := by rw [hr]
    have hrb : r.state ≠ .busy := by rw [hr]; simp
    refine ⟨none, _, by have := run_endLoop (P := P) hL.loop hrb; rw [hpn] at this; exact this, hdone _ _ hE ?_⟩
    exact (World.putObj_heap_other (by omega)).trans hL.dfr
end Go.Proofs.Ytofnokikjfmfgaa
