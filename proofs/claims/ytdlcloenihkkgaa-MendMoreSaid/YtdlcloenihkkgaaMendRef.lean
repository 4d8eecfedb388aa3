/-
  Lists of numbers in memory; what the document's Room, Places, In, Unlike and Locator of layer 4 answer, and 'ints' of the laws. The memory that was there stays.
-/
import Derived.Test.YtdlcloenihkkgaaRsIs
import Derived.Test.YtdlcloenihkkgaaGfK
namespace Go.Proofs.Ytdlcloenihkkgaa
open Go.RowKit Gf
set_option maxRecDepth 100000
/-- A slice that has the numbers l. -/
def IsI (W : World) (a : Option Addr) (len : Nat) (l : List Int) : Prop :=
  l.length = len ∧ (0 < len → ∃ b off, a = some ⟨b, off, none⟩ ∧ b < W.heap.size ∧ ∀ i, i < len → W.cell? ⟨b, off + i, none⟩ = some (.int .i64 (l.getD i 0)))
theorem IsI.kept {W W' : World} {a : Option Addr} {len : Nat} {l : List Int} (h : IsI W a len l) (k : Keeps W W') : IsI W' a len l :=
  ⟨h.1, fun h0 => by
    obtain ⟨b, off, e, hb, hc⟩ := h.2 h0
    exact ⟨b, off, e, Nat.lt_of_lt_of_le hb (Below.size k), fun i hi => ((show Below W.heap.size W W' from k).cell (p := ⟨b, off + i, none⟩) hb).trans (hc i hi)⟩⟩
theorem IsI.eqv {W W' : World} {a : Option Addr} {len : Nat} {l : List Int} (h : IsI W a len l) (k : Eqv W W') : IsI W' a len l :=
  ⟨h.1, fun h0 => by
    obtain ⟨b, off, e, hb, hc⟩ := h.2 h0
    exact ⟨b, off, e, by rw [k.size]; exact hb, fun i hi => (k.cell _).trans (hc i hi)⟩⟩
theorem IsI.nil (W : World) : IsI W none 0 [] := ⟨rfl, fun h => by cases h⟩
def roomZ (n : Int) : Int := if n < 0 ∨ 64 < n then -1 else (64 - n) / 2
set_option maxRecDepth 100000 in
set_option maxHeartbeats 400000 in
theorem rroom_any (n : Int) (w : World) :
    Calls Try.prog 12 #[.int .i64 n] w fun e w' => e = .returned (.int .i64 (roomZ n)) ∧ w = w' := by
  by_cases h0 : n < 0
  · have HZ := Lib.hid (show roomZ n = -1 by unfold roomZ; rw [if_pos (.inl h0)])
    go_enter Try.func12, Try.ntmps12
    go_wp2
    go_ret
    rw [HZ.out]
    exact ⟨rfl, rfl⟩
  · have h0' : 0 ≤ n := by omega
    by_cases h1 : 64 < n
    · have HZ := Lib.hid (show roomZ n = -1 by unfold roomZ; rw [if_pos (.inr h1)])
      clear h0
      go_enter Try.func12, Try.ntmps12
      go_wp2
      go_ret
      rw [HZ.out]
      exact ⟨rfl, rfl⟩
    · have h1' : n ≤ 64 := by omega
      have HZ := Lib.hid (show roomZ n = (64 - n) / 2 by unfold roomZ; rw [if_neg (by omega)])
      clear h0 h1
      go_enter Try.func12, Try.ntmps12
      go_wp2
      go_ret
      rw [HZ.out]
      exact ⟨rfl, rfl⟩
/-- The first n numbers are places, each once. -/
def OkP (l : List Int) (n : Nat) : Prop := ∀ i, i < n → (0 ≤ l.getD i 0 ∧ l.getD i 0 ≤ 254) ∧ ∀ j, j < i → l.getD j 0 ≠ l.getD i 0
instance (l : List Int) (n : Nat) : Decidable (OkP l n) := by unfold OkP; infer_instance
def placesB (l : List Int) : Bool := decide (OkP l l.length)
def plRel (w : World) (l : List Int) (i : Value) (wr : World) : Prop := ∃ k : Nat, k ≤ l.length ∧ i = .int .i64 k ∧ OkP l k ∧ Eqv w wr
def piRel (w : World) (l : List Int) (k : Nat) (i : Value) (wr : World) : Prop := ∃ j : Nat, j ≤ k ∧ i = .int .i64 j ∧ (∀ m, m < j → l.getD m 0 ≠ l.getD k 0) ∧ Eqv w wr
theorem OkP.succ {l : List Int} {k : Nat} (h : OkP l k) (h0 : 0 ≤ l.getD k 0) (h1 : l.getD k 0 ≤ 254) (h2 : ∀ m, m < k → l.getD m 0 ≠ l.getD k 0) : OkP l (k + 1) := fun i hi => by
  by_cases e : i = k
  · subst e; exact ⟨⟨h0, h1⟩, h2⟩
  · exact h i (by omega)
theorem places_no {l : List Int} (h : ¬ OkP l l.length) : placesB l = false := by unfold placesB; exact decide_eq_false h
theorem places_yes {l : List Int} (h : OkP l l.length) : placesB l = true := by unfold placesB; exact decide_eq_true h
set_option maxRecDepth 100000 in
set_option maxHeartbeats 3200000 in
theorem rplaces_any (a : Option Addr) (len cap : Nat) (l : List Int) (w : World) (hr : IsI w a len l) (hlen : len ≤ 1000000) :
    Calls Try.prog 13 #[.slice a len cap] w fun e w' => e = .returned (.bool (placesB l)) ∧ Eqv w w' := by
  have hl := hr.1
  have HR := Lib.hid hr
  clear hr
  go_enter Try.func13, Try.ntmps13
  go_wp2
  go_loopw [3] (fun i wr => plRel w l i wr) (fun i _ => len - (intOf i).toNat)
  case atStart => exact ⟨0, Nat.zero_le _, rfl, (fun i hi => by cases hi), Eqv.refl _⟩
  case round =>
    obtain ⟨k, hk, rfl, hok, hev⟩ := hrel
    rw [hl] at hk
    have HOK := Lib.hid hok
    clear hok
    by_cases hlt : k < len
    · obtain ⟨b, off, rfl, hb, hc⟩ := (HR.out.eqv hev).2 (by omega)
      have hck := hc k hlt
      obtain ⟨x, hx⟩ : ∃ x, l.getD k 0 = x := ⟨_, rfl⟩
      rw [hx] at hck
      have HC := Lib.hid hc
      have HX := Lib.hid hx
      have hkl : (k : Int) < (len : Int) := by omega
      clear hc hx
      by_cases h0 : x < 0
      · have HZ := Lib.hid (places_no (l := l) fun h => by have := ((h k (by omega)).1).1; rw [HX.out] at this; omega)
        go_wp2
        go_ret
        rw [HZ.out]
        exact ⟨rfl, hev⟩
      · have h0' : 0 ≤ x := by omega
        by_cases h1 : 254 < x
        · have HZ := Lib.hid (places_no (l := l) fun h => by have := ((h k (by omega)).1).2; rw [HX.out] at this; omega)
          clear h0
          go_wp2
          go_ret
          rw [HZ.out]
          exact ⟨rfl, hev⟩
        · have h1' : x ≤ 254 := by omega
          clear h0 h1
          go_wp2
          go_loopw [4] (fun i wx => piRel w l k i wx) (fun i _ => k - (intOf i).toNat)
          case atStart => exact ⟨0, Nat.zero_le _, rfl, (fun m hm => by cases hm), hev⟩
          case round =>
            obtain ⟨j, hj, rfl, hne, hev2⟩ := hrel
            have HNE := Lib.hid hne
            clear hne
            by_cases hjl : j < k
            · have hcj := (hev2.cell _).trans ((hev.symm.cell _).trans (HC.out j (by omega)))
              have hck2 := (hev2.cell _).trans ((hev.symm.cell _).trans hck)
              obtain ⟨y, hy⟩ : ∃ y, l.getD j 0 = y := ⟨_, rfl⟩
              rw [hy] at hcj
              have HY := Lib.hid hy
              have hjk : (j : Int) < (k : Int) := by omega
              have hjlen : (j : Int) < (len : Int) := by omega
              clear hy hck
              by_cases e : y = x
              · have HZ := Lib.hid (places_no (l := l) fun h => (h k (by omega)).2 j hjl (by rw [HY.out, HX.out, e]))
                subst e
                go_wp2
                go_quiet (fail)
                go_wp2
                go_ret
                rw [HZ.out]
                exact ⟨rfl, hev2.trans (eqv_drewN _ _)⟩
              · have hyx : (y == x) = false := by simpa using e
                go_wp2
                go_quiet (fail)
                go_wp2
                go_roundw
                case rel =>
                  refine ⟨j + 1, by omega, by go_num, fun m hm => ?_, hev2.trans (eqv_drewN _ _)⟩
                  by_cases em : m = j
                  · subst em; rw [HY.out, HX.out]; exact e
                  · exact HNE.out m (by omega)
                case measure => simp [intOf]; omega
            · have HE := Lib.hid (show j = k by omega)
              have hjk : (k : Int) ≤ (j : Int) := by omega
              go_wp2
              go_roundw
              case rel => exact ⟨k + 1, by omega, by go_num, HOK.out.succ (by rw [HX.out]; exact h0') (by rw [HX.out]; exact h1') (fun m hm => HNE.out m (by rw [HE.out]; exact hm)), hev2⟩
              case measure => simp [intOf]; omega
    · have HZ := Lib.hid (places_yes (l := l) (by rw [hl, ← show k = len by omega]; exact HOK.out))
      have hkl : (len : Int) ≤ (k : Int) := by omega
      go_wp2
      go_ret
      rw [HZ.out]
      exact ⟨rfl, hev⟩
end Go.Proofs.Ytdlcloenihkkgaa
