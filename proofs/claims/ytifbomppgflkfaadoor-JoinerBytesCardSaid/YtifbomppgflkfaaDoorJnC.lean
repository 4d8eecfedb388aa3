/-
  What layer 16's own small functions answer: texts, few. The memory that was there stays.
-/
import Derived.Test.YtifbomppgflkfaaDoorBase
namespace Go.Proofs.YtifbomppgflkfaaDoor
open Go.RowKit Gf
set_option maxRecDepth 100000
def jtRel (w : World) (N : Nat) (L L' : List (List UInt8)) (i : Value) (wr : World) : Prop := ∃ k : Nat, k ≤ N ∧ i = .int .i64 (k : Int) ∧ (∀ j, j < k → L.getD j [] = L'.getD j []) ∧ Eqv w wr
theorem getD_ext {L L' : List (List UInt8)} (hl : L.length = L'.length) (h : ∀ j, j < L.length → L.getD j [] = L'.getD j []) : L = L' := by
  refine List.ext_getElem hl fun i h1 h2 => ?_
  have := h i h1
  rwa [List.getD_eq_getElem?_getD, List.getD_eq_getElem?_getD, List.getElem?_eq_getElem h1, List.getElem?_eq_getElem h2] at this
set_option maxHeartbeats 3200000 in
theorem jntexts_any {a a' : Option Addr} {n n' cap cap' : Nat} {L L' : List (List UInt8)} (w : World) (h : IsT w a n L) (h' : IsT w a' n' L') (hn : n ≤ 1000000000) :
    Calls Tryd.prog 13 #[.slice a n cap, .slice a' n' cap'] w fun e w' => e = .returned (.bool (decide (L = L'))) ∧ Eqv w w' := by
  have hl := h.1
  have hl' := h'.1
  by_cases hne : n = n'
  · subst hne
    have HT := Lib.hid h
    have HT' := Lib.hid h'
    have HL := Lib.hid hl
    have HL' := Lib.hid hl'
    obtain ⟨r, hr⟩ : ∃ r, decide (L = L') = r := ⟨_, rfl⟩
    rw [hr]
    have HR := Lib.hid hr
    clear h h' hl hl' hr
    go_enter Tryd.func13, Tryd.ntmps13
    go_wp2
    go_loopw [5] (fun i wr => jtRel w n L L' i wr) (fun i _ => n - (intOf i).toNat)
    case atStart => exact ⟨0, by omega, rfl, fun j hj => by omega, Eqv.refl w⟩
    case round =>
      obtain ⟨k, hk, rfl, hall, hev⟩ := hrel
      have HA := Lib.hid hall
      have HE := Lib.hid hev
      by_cases hlt : k < n
      · have hkI : (k : Int) < (n : Int) := by omega
        obtain ⟨b1, o1, rfl, c1⟩ := HT.out.get (k := k) (by rw [← HL.out]; exact hlt)
        obtain ⟨b2, o2, rfl, c2⟩ := HT'.out.get (k := k) (by rw [← HL'.out]; exact hlt)
        have c1 := (hev.cell _).trans c1
        have c2 := (hev.cell _).trans c2
        have wr3 := wrapI (a := (k : Int) + 1) (by omega) (by omega)
        clear hall hev
        by_cases he : L.getD k [] = L'.getD k []
        · have HE2 := Lib.hid he
          rw [← he] at c2
          obtain ⟨S, hS⟩ : ∃ S, st (L.getD k []) = S := ⟨_, rfl⟩
          rw [hS] at c1 c2
          clear he hS
          go_wp2
          go_quiet (fail)
          go_wp2
          go_roundw
          case rel => exact ⟨k + 1, by omega, by go_num, fun j hj => by
            by_cases e : j = k
            · rw [e]; exact HE2.out
            · exact HA.out j (by omega), HE.out.trans (Eqv.drewN _ _)⟩
          case measure => simp [intOf]; omega
        · have HF := Lib.hid (show r = false by rw [← HR.out]; exact decide_eq_false fun e => he (by rw [e]))
          obtain ⟨S, hS⟩ : ∃ S, st (L.getD k []) = S := ⟨_, rfl⟩
          obtain ⟨S', hS'⟩ : ∃ S, st (L'.getD k []) = S := ⟨_, rfl⟩
          have hb : (S.toList == S'.toList) = false := by
            rw [beq_eq_false_iff_ne, ← hS, ← hS', st_toList, st_toList]; exact he
          rw [hS] at c1
          rw [hS'] at c2
          clear he hS hS'
          go_wp2
          go_quiet (fail)
          go_wp2
          go_ret
          exact ⟨by rw [HF.out]; rfl, HE.out.trans (Eqv.drewN _ _)⟩
      · have hkI : ¬ (k : Int) < (n : Int) := by omega
        have HF := Lib.hid (show r = true by
          rw [← HR.out]
          exact decide_eq_true (getD_ext (by rw [← HL.out, ← HL'.out]) fun j hj => hall j (by have := HL.out; omega)))
        clear hall hev
        go_wp2
        go_ret
        exact ⟨by rw [HF.out]; rfl, HE.out⟩
  · have hb : ((n : Int) == (n' : Int)) = false := by rw [beq_eq_false_iff_ne]; omega
    have hd : decide (L = L') = false := decide_eq_false fun e => hne (by rw [hl, hl', e])
    rw [hd]
    clear h h' hl hl' hd hne
    go_enter Tryd.func13, Tryd.ntmps13
    go_wp2
    go_ret
    exact ⟨rfl, Eqv.refl w⟩
/-- Are bodies not too many, or too long? -/
def fewJ (L : List (List UInt8)) : Bool := decide (∀ s ∈ L, s.length ≤ 1400) && decide (L.length ≤ 20)
def jfRel (w : World) (N : Nat) (L : List (List UInt8)) (i : Value) (wr : World) : Prop := ∃ k : Nat, k ≤ N ∧ i = .int .i64 (k : Int) ∧ (∀ s ∈ L.take k, s.length ≤ 1400) ∧ w = wr
set_option maxHeartbeats 3200000 in
theorem jnfew_any {a : Option Addr} {n cap : Nat} {L : List (List UInt8)} (w : World) (h : IsT w a n L) (hn : n ≤ maxLen) :
    Calls Tryd.prog 19 #[.slice a n cap] w fun e w' => e = .returned (.bool (fewJ L)) ∧ w = w' := by
  have HT := Lib.hid h
  have HL := Lib.hid h.1
  have HM := Lib.hid hn
  obtain ⟨r, hr⟩ : ∃ r, fewJ L = r := ⟨_, rfl⟩
  rw [hr]
  have HR := Lib.hid hr
  clear h hr hn
  go_enter Tryd.func19, Tryd.ntmps19
  go_wp2
  go_loopw [3] (fun i wr => jfRel w n L i wr) (fun i _ => n - (intOf i).toNat)
  case atStart => exact ⟨0, by omega, rfl, by simp, rfl⟩
  case round =>
    obtain ⟨k, hk, rfl, hall, rfl⟩ := hrel
    have HA := Lib.hid hall
    by_cases hlt : k < n
    · have hkI : (k : Int) < (n : Int) := by omega
      have hkl : k < L.length := by rw [← HL.out]; exact hlt
      obtain ⟨b1, o1, rfl, c1⟩ := HT.out.get (k := k) hkl
      have hg : L.getD k [] = L[k] := by rw [List.getD_eq_getElem?_getD, List.getElem?_eq_getElem hkl]; rfl
      rw [hg] at c1
      have wr3 : IntKind.i64.wrap ((k : Int) + 1) = (k : Int) + 1 := by rw [IntKind.wrap_i64]; have := HM.out; unfold maxLen at this; omega
      have HMO := Lib.hid (fun h5 : L[k].length ≤ 1400 => show ∀ s ∈ L.take (k + 1), s.length ≤ 1400 from fun s hs => by
        rw [List.take_add_one, List.getElem?_eq_getElem hkl] at hs
        rcases List.mem_append.1 hs with hs | hs
        · exact HA.out s hs
        · rw [List.mem_singleton.1 hs]; exact h5)
      have HNO := Lib.hid (fun h5 : ¬ L[k].length ≤ 1400 => show r = false by
        rw [← HR.out]; unfold fewJ
        rw [decide_eq_false (fun x => h5 (x _ (List.getElem_mem hkl))), Bool.false_and])
      obtain ⟨S, hS⟩ : ∃ S, st L[k] = S := ⟨_, rfl⟩
      have hSz : S.size = L[k].length := by rw [← hS, st_size]
      rw [hS] at c1
      clear hall hS hg
      by_cases h5 : L[k].length ≤ 1400
      · have i5 : ¬ (1400 : Int) < (S.size : Int) := by omega
        have HX := Lib.hid (HMO.out h5)
        clear hSz
        go_wp2
        go_roundw
        case rel => exact ⟨k + 1, by omega, by go_num, HX.out, rfl⟩
        case measure => simp [intOf]; omega
      · have i5 : (1400 : Int) < (S.size : Int) := by omega
        have HX := Lib.hid (HNO.out h5)
        clear hSz
        go_wp2
        go_ret
        exact ⟨by rw [HX.out]; rfl, rfl⟩
    · have hkI : ¬ (k : Int) < (n : Int) := by omega
      have HX := Lib.hid (show r = decide ((n : Int) ≤ 20) by
        rw [List.take_of_length_le (by rw [← HL.out]; omega)] at hall
        rw [← HR.out]; unfold fewJ
        rw [decide_eq_true hall, Bool.true_and, ← HL.out]
        exact decide_eq_decide.2 ⟨fun x => by omega, fun x => by omega⟩)
      clear hall
      go_wp2
      go_ret
      exact ⟨by rw [HX.out]; rfl, rfl⟩
end Go.Proofs.YtifbomppgflkfaaDoor
