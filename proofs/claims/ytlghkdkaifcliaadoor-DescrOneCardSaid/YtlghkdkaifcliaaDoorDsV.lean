/-
  Descriptors in memory; what Few, Plain and same of layer 18's statements, and the document's in and text, answer. The memory that was there stays.
-/
import Derived.Test.YtlghkdkaifcliaaDoorDsMath
import Derived.Test.YtlghkdkaifcliaaDoorFoot
import Derived.Test.YtlghkdkaifcliaaDoorRowArgs
import Derived.Test.YtlghkdkaifcliaaDoorDgE
namespace Go.Proofs.YtlghkdkaifcliaaDoor
open Go.RowKit Gf Ds
set_option maxRecDepth 100000
set_option linter.unusedVariables false
abbrev dsC (d : Dsc) : List Value := [.int .i64 d.tag, .string d.body]
abbrev dsV (d : Dsc) : Value := .agg #[.int .i64 d.tag, .string d.body]
theorem dsC_one (s : Dsc) : ∀ u ∈ dsC s, u.oneCell' = true := by
  intro u hu
  simp only [dsC, List.mem_cons, List.not_mem_nil, or_false] at hu
  rcases hu with rfl | rfl <;> rfl
/-- Rows of the program's descriptors, and of the document's. -/
def rowD : RowT Dsc where
  E := 37
  S := 22
  sz := 2
  bs := 24
  z := .agg #[.int .i64 0, .string ⟨#[]⟩]
  enc := dsC
  und := Tryd.underlying22
  info := by kernel_rfl
  zs := rfl
  pos := by decide
  small := by decide
  len := fun _ => rfl
  one := dsC_one
def rowR : RowT Dsc where
  E := 44
  S := 29
  sz := 2
  bs := 24
  z := .agg #[.int .i64 0, .string ⟨#[]⟩]
  enc := dsC
  und := Tryd.underlying29
  info := by kernel_rfl
  zs := rfl
  pos := by decide
  small := by decide
  len := fun _ => rfl
  one := dsC_one
/-- Are descriptors not too many? -/
def fewD (l : List Dsc) : Bool := decide (∀ d ∈ l, d.body.size ≤ 300) && decide (l.length ≤ 40)
set_option maxHeartbeats 1600000 in
theorem dfew_any {a : Option Addr} {n cap : Nat} {l : List Dsc} (w : World) (h : IsE rowD w a n l) (hn : n ≤ maxLen) :
    Calls Tryd.prog 10 #[.slice a n cap] w fun e w' => e = .returned (.bool (fewD l)) ∧ w = w' := by
  have HI := Lib.hid h
  have HN := Lib.hid h.1
  have hnb : n ≤ 9223372036854775807 := hn
  clear h hn
  go_enter Tryd.func10, Tryd.ntmps10
  go_wp2
  go_loop [3] (fun i => ∃ k : Nat, k ≤ n ∧ i = .int .i64 (k : Int) ∧ ∀ s ∈ l.take k, s.body.size ≤ 300) (fun i => n - (intOf i).toNat)
  case atStart => exact ⟨0, Nat.zero_le _, rfl, by simp⟩
  case round =>
    obtain ⟨k, hk, rfl, hall⟩ := hrel
    have HALL := Lib.hid hall
    clear hall
    by_cases hlt : k < n
    · have hlI : (k : Int) < (n : Int) := by omega
      have hkL : k < l.length := by have := HN.out; omega
      obtain ⟨b1, off, rfl, _, hc⟩ := HI.out.get hkL
      have hc2 : w.cell? ⟨b1, off + k * 2 + 1, none⟩ = some (.string l[k].body) := by have := hc 1 _ rfl; rwa [← Nat.add_assoc] at this
      have wr1 := wrapI (a := (k : Int) + 1)
      have HNX := Lib.hid (show l[k].body.size ≤ 300 → ∀ s ∈ l.take (k + 1), s.body.size ≤ 300 from fun h s hs => by
        rw [List.take_add_one, List.getElem?_eq_getElem hkL] at hs
        rcases List.mem_append.1 hs with y | y
        · exact HALL.out s y
        · rw [List.mem_singleton.1 y]; exact h)
      have HNO := Lib.hid (show ¬ l[k].body.size ≤ 300 → fewD l = false from fun h => by
        unfold fewD
        rw [decide_eq_false (fun hx => h (hx _ (List.getElem_mem hkL))), Bool.false_and])
      obtain ⟨T, hT⟩ : ∃ T, l[k].body = T := ⟨_, rfl⟩
      rw [hT] at hc2 HNX HNO
      clear hc hT
      by_cases h5 : T.size ≤ 300
      · have h5i : ¬ (300 : Int) < (T.size : Int) := by omega
        replace HNX := Lib.hid (HNX.out h5)
        clear h5
        go_wp2
        go_round
        case rel => exact ⟨k + 1, by omega, by go_num, HNX.out⟩
        case measure => simp [intOf]; omega
      · have h5i : (300 : Int) < (T.size : Int) := by omega
        have HE := Lib.hid (HNO.out h5)
        clear h5
        go_wp2
        go_ret
        exact ⟨by rw [HE.out]; rfl, rfl⟩
    · have hlI : ¬ (k : Int) < (n : Int) := by omega
      have HE := Lib.hid (show fewD l = decide ((n : Int) ≤ 40) by
        have htk : l.take k = l := List.take_of_length_le (by have := HN.out; omega)
        unfold fewD
        rw [decide_eq_true (by rw [← htk]; exact HALL.out), Bool.true_and]
        exact decide_eq_decide.2 (by have := HN.out; omega))
      by_cases h1 : (n : Int) ≤ 40
      · rw [decide_eq_true h1] at HE
        go_wp2
        go_ret
        exact ⟨by rw [HE.out]; rfl, rfl⟩
      · rw [decide_eq_false h1] at HE
        go_wp2
        go_ret
        exact ⟨by rw [HE.out]; rfl, rfl⟩
theorem din_any (n m : Int) (w : World) : Calls Tryd.prog 42 #[.int .i64 n, .int .i64 m] w fun e w' => e = .returned (.bool (decide (0 ≤ n ∧ n ≤ m))) ∧ w = w' := by
  by_cases h0 : 0 ≤ n
  · have g : decide (0 ≤ n ∧ n ≤ m) = decide (n ≤ m) := decide_eq_decide.2 ⟨fun h => h.2, fun h => ⟨h0, h⟩⟩
    by_cases h1 : n ≤ m
    · rw [g, decide_eq_true h1]
      go_enter Tryd.func42, Tryd.ntmps42
      go_wp2
      go_ret
      exact ⟨rfl, rfl⟩
    · rw [g, decide_eq_false h1]
      go_enter Tryd.func42, Tryd.ntmps42
      go_wp2
      go_ret
      exact ⟨rfl, rfl⟩
  · rw [decide_eq_false (fun h => h0 h.1)]
    go_enter Tryd.func42, Tryd.ntmps42
    go_wp2
    go_ret
    exact ⟨rfl, rfl⟩
set_option maxHeartbeats 800000 in
theorem dtext_any (w0 : World) (b len cap : Nat) (L : List UInt8) (w : World) (hn : len = L.length) (hl : L.length ≤ 1000) (hI : Ints b L w) (hk : Keeps w0 w) :
    Calls Tryd.prog 43 #[.slice (some ⟨b, 0, none⟩) len cap] w fun e w' => e = .returned (.string (st L)) ∧ Keeps w0 w' := by
  subst hn
  go_enter Tryd.func43, Tryd.ntmps43
  go_wp2
  go_loopw [3, 4] (fun s i wr => dtxRel w L s i wr) (fun _ i _ => L.length - (intOf i).toNat)
  case atStart => exact ⟨0, by omega, rfl, rfl, Keeps.refl _⟩
  case round =>
    obtain ⟨k, hk2, rfl, rfl, hkp⟩ := hrel
    by_cases hlt : k < L.length
    · have hc := (hI.keeps hkp).2 k hlt
      have HT := Lib.hid (show st (L.take k) ++ st [cf L k] = st (L.take (k + 1)) by rw [st_append, Dg.take_one hlt])
      have hz : (st (L.take k)).size ≤ 1000 := by rw [st_size, List.length_take]; omega
      obtain ⟨x, hx⟩ : ∃ x, cf L k = x := ⟨_, rfl⟩
      rw [hx] at hc HT
      have hx8 := u8_bd x
      have hcv := one_conv x wr
      have hz1 : (st [x]).size = 1 := rfl
      have e8 : (x.toNat : Int) % 256 = (x.toNat : Int) := by omega
      clear hx
      go_wp2
      go_roundw
      case rel => exact ⟨k + 1, by omega, by rw [HT.out], by go_num, hkp.alloc _⟩
      case measure => simp [intOf]; omega
    · have HE := Lib.hid (show L.take k = L from List.take_of_length_le (by omega))
      rw [HE.out]
      go_wp2
      go_ret
      exact ⟨rfl, hk.trans hkp⟩
end Go.Proofs.YtlghkdkaifcliaaDoor
