/-
  What is wanted of the law on All: how a list of texts is read, whether it is short, where the next part is looked for, and a round whose variables lie in boxes.
-/
import Derived.Test.YtbkodlinfmflkaaMpI
import Derived.Test.YtbkodlinfmflkaaMpE
import Derived.Test.YtbkodlinfmflkaaMpLaw
namespace Go.Proofs.Ytbkodlinfmflkaa
open Go.RowKit Go.Shelf Gf Go.Deep Go.ChangeShapes Go.WideShapes Go.ChangeAt Tm Sct Mpe
set_option maxRecDepth 100000
attribute [local go_sem] Oper.semAt_some
/-- A list of texts that is handed in. -/
theorem open_trow2 {H : Type} {enc : TypeId × Value → H} {W : World} {base : Nat} {held : Bool} {a : Option Addr} {len cap : Nat} {d : DataW H} {p : List MemPlace}
    (h : DataW.Trod enc Try.prog W base (fun _ => true) held 46 (.slice a len cap) d p) : ∃ l, IsT W a len l ∧ len ≤ cap ∧ len ≤ maxLen ∧ (a = none → len = 0 ∧ cap = 0) := by
  obtain ⟨l, h1, h2⟩ := open_trow h
  refine ⟨l, h1, h2, ?_⟩
  obtain ⟨fuel, hf⟩ := h
  rcases DataW.trod_slice Try.underlying46 hf with ⟨hcs, _⟩ | ⟨x, ln, cp, elems, rest, m, _, hcs, _, _, hlc, hlm, _⟩
  · simp [Value.cells] at hcs
    obtain ⟨rfl, rfl, rfl⟩ := hcs
    exact ⟨by decide, fun _ => ⟨rfl, rfl⟩⟩
  · simp [Value.cells] at hcs
    obtain ⟨rfl, rfl, rfl⟩ := hcs
    exact ⟨Nat.le_trans hlc hlm, fun e => (by cases e)⟩
/-- No text is long. -/
def fewU (L : List (List UInt8)) (k : Nat) : Prop := ∀ j, j < k → (L.getD j []).length ≤ 5000
def fewP (L : List (List UInt8)) : Prop := fewU L L.length ∧ L.length ≤ 20
theorem mpfew_any (a : Option Addr) (len cap : Nat) (L : List (List UInt8)) (w : World) (hI : IsT w a len L) (hm : len ≤ maxLen) (B : Bool) (hB : B = true ↔ fewP L) :
    Calls Try.prog 20 #[.slice a len cap] w fun e w' => e = .returned (.bool B) ∧ w = w' := by
  obtain ⟨rfl, _⟩ := id hI
  have hm2 : L.length ≤ 9223372036854775807 := hm
  clear hm
  go_enter Try.func20, Try.ntmps20
  go_wp2
  go_loopw [3] (fun i wr => ∃ k : Nat, k ≤ L.length ∧ i = .int .i64 (k : Int) ∧ fewU L k ∧ w = wr) (fun i _ => L.length - (intOf i).toNat)
  case atStart => exact ⟨0, by omega, rfl, fun j hj => by omega, rfl⟩
  case round =>
    obtain ⟨k, hk, rfl, hu, rfl⟩ := hrel
    by_cases hlt : k < L.length
    · obtain ⟨b1, off1, rfl, hc⟩ := hI.get hlt
      by_cases h5 : (L.getD k []).length ≤ 5000
      · have hz : ¬ (5000 : Int) < ((st (L.getD k [])).size : Int) := by rw [st_size]; omega
        have HU := Lib.hid (show fewU L (k + 1) from fun j hj => by
          by_cases e : j = k
          · subst e; exact h5
          · exact hu j (by omega))
        clear h5 hu
        generalize st (L.getD k []) = t at *
        go_wp2
        go_roundw
        case rel => exact ⟨k + 1, by omega, by go_num, HU.out, trivial⟩
        case measure => simp [intOf]; omega
      · have hz : (5000 : Int) < ((st (L.getD k [])).size : Int) := by rw [st_size]; omega
        have HB := Lib.hid (show B = false by
          cases e : B with
          | false => rfl
          | true => exact absurd ((hB.1 e).1 k hlt) h5)
        clear h5 hu hB
        generalize st (L.getD k []) = t at *
        go_wp2
        go_ret
        exact ⟨by rw [HB.out]; rfl, rfl⟩
    · have HB := Lib.hid (show decide ((L.length : Int) ≤ 20) = B by
        obtain rfl : k = L.length := by omega
        by_cases h20 : L.length ≤ 20
        · rw [decide_eq_true (by omega)]; exact (hB.2 ⟨hu, h20⟩).symm
        · rw [decide_eq_false (by omega)]
          cases e : B with
          | false => rfl
          | true => exact absurd (hB.1 e).2 h20)
      clear hB hu
      go_wp2
      go_ret
      exact ⟨congrArg (fun x => Ending.returned (Value.bool x)) HB.out, rfl⟩
/-- Where the next part is looked for, ahead of place k. -/
def pos (L : List (List UInt8)) : Nat → Nat
  | 0 => 0
  | k + 1 => if (dcP (L.getD k [])).2 = 0 then k + 1 else pos L k
theorem pos_yes {L : List (List UInt8)} {k : Nat} (h : (dcP (L.getD k [])).2 = 0) : pos L (k + 1) = k + 1 := if_pos h
theorem pos_no {L : List (List UInt8)} {k : Nat} (h : (dcP (L.getD k [])).2 ≠ 0) : pos L (k + 1) = pos L k := if_neg h
theorem pos_le (L : List (List UInt8)) : ∀ k, pos L k ≤ k
  | 0 => Nat.le_refl _
  | k + 1 => by
    by_cases h : (dcP (L.getD k [])).2 = 0
    · rw [pos_yes h]; exact Nat.le_refl _
    · rw [pos_no h]; exact Nat.le_succ_of_le (pos_le L k)
theorem pos_gap (L : List (List UInt8)) : ∀ k j, pos L k ≤ j → j < k → (dcP (L.getD j [])).2 ≠ 0
  | 0, _, _, h => by omega
  | k + 1, j, h1, h2 => by
    by_cases h : (dcP (L.getD k [])).2 = 0
    · rw [pos_yes h] at h1; omega
    · rw [pos_no h] at h1
      by_cases e : j = k
      · subst e; exact h
      · exact pos_gap L k j h1 (by omega)
/-- One round, whose variables are laid ahead of it. -/
theorem yield_round2 {m : Nat} {P : Program} {D l : Nat} {r : Loop} {W W₁ : World} {args : Array Value} (h : Lp D l r W) (h1 : Lp D l r W₁) (hD : D ≠ l) (hst : r.state = .ready) (hp : r.pending = none) (hs : args.size = r.params.size) {a₁ : Act} (R : World → Prop)
    (hassign : ∀ K : Act → World → Prop, K a₁ W₁ → r.assign.wpIn (Fence.wide.inRound l) m P (Exit.then K fun _ _ _ => False) { tmps := (r.params.zip args).foldl (fun t (p, v) => t.setIfInBounds p v) r.tmps, defers := [] } W)
    (hbody : r.body.wpIn (Fence.wide.inRound l) m P (fun e _ W' => e = .normal ∧ KeepsOthers (W₁.putObj l (.loop { r with state := .busy })) W' ∧ R W') a₁ (W₁.putObj l (.loop { r with state := .busy }))) :
    YieldAt Fence.wide m P l args W fun e W'' => e = .returned (.bool true) ∧ Lp D l r W'' ∧ ∃ W', R W' ∧ W'' = W'.putObj l (.loop r) := by
  have hlt : l < W₁.heap.size := (Array.getElem?_eq_some_iff.1 h1.loop).1
  have hl2 : (W₁.putObj l (.loop { r with state := .busy })).heap[l]? = some (.loop { r with state := .busy }) := World.putObj_heap_same hlt
  have hd2 : (W₁.putObj l (.loop { r with state := .busy })).heap[D]? = some (.deferred (some [])) := (World.putObj_heap_other hD).trans h1.dfr
  refine ⟨r.fn, _, r.assign, r.body, run_yield h.loop hs, roundIn_of_wpIn trivial (hassign _ ⟨_, run_beginRound h1.loop hst, wpIn_mono hbody ?_⟩)⟩
  rintro e a3 W3 ⟨rfl, hk, hR⟩
  have hl3 := hk.same _ _ hl2 rfl
  have hd3 := hk.same _ _ hd2 rfl
  have er : ({ { r with state := .busy } with state := if (none : Option Code).isNone then .ready else .done, pending := none } : Loop) = r := by
    cases r; simp only at hst hp; subst hst; subst hp; rfl
  refine ⟨_, _, run_endRound none hl3, rfl, ?_⟩
  rw [er]
  exact ⟨⟨World.putObj_heap_same (Array.getElem?_eq_some_iff.1 hl3).1, (World.putObj_heap_other hD).trans hd3⟩, W3, hR, rfl⟩
/-- A list that lay there lies there still, whatever turned in block c. -/
theorem IsT.lies {w w' W : World} {a : Option Addr} {len c : Nat} {l : List (List UInt8)} (h : IsT w a len l) (k : Keeps w w') (o : Only c w' W) (hc : w.heap.size ≤ c) : IsT W a len l :=
  ⟨h.1, fun h0 => by
    obtain ⟨b, off, ha, hb, hcl⟩ := h.2 h0
    have hz := Below.size k
    refine ⟨b, off, ha, Nat.lt_of_lt_of_le hb (Nat.le_trans hz o.size), fun i hi => ?_⟩
    have e1 := (Below.cell k (p := ⟨b, off + i, none⟩) hb).trans (hcl i hi)
    exact (o.cell (p := ⟨b, off + i, none⟩) (there_cell e1) (by show b ≠ c; omega)).trans e1⟩
end Go.Proofs.Ytbkodlinfmflkaa
