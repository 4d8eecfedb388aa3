/-
  What is there twice in a list, and whether there is one that may not be: generic functions of package psi and of the library, each for programs and for streams. The memory that was there stays.
-/
import Derived.Test.YtebfihghfkcicaaPsA
import Derived.Test.YtebfihghfkcicaaTally
import Derived.WalkKit
namespace Go.Proofs.Ytebfihghfkcicaa
open Go.RowKit Go.Maps Gf Ps
set_option maxRecDepth 100000
def twRel (w : World) (ks : List Int) (i : Value) (wr : World) : Prop :=
  ∃ k : Nat, k ≤ ks.length ∧ i = .int .i64 (k : Int) ∧ wr.ownsMap Try.prog 3 (plainElem (H := Unit) Try.prog 3) w.heap.size k (tally (ks.take k).reverse) ∧ Keeps w wr
set_option maxHeartbeats 1600000 in
theorem twPr_any {a : Option Addr} {n cap : Nat} {l : List (Int × Int)} (w : World) (h : IsE rowPr w a n l) (hn : n ≤ 1000) (hk : ∀ p ∈ l, (Lit.int .i64 p.1).wf = true) :
    Calls Try.prog 83 #[.slice a n cap, .func (.func 84) #[] #[]] w fun e w' => e = .returned (.bool (!decide (l.map (·.1)).Nodup)) ∧ Keeps w w' := by
  have hmm := @run_makeMap Try.prog
  obtain ⟨ks, hks⟩ : ∃ ks, l.map (·.1) = ks := ⟨_, rfl⟩
  have HL := Lib.hid (show ks.length = n by rw [← hks, List.length_map]; exact h.1.symm)
  have HG := Lib.hid (fun (k : Nat) (h1 : k < l.length) (h2 : k < ks.length) => show ks[k] = l[k].1 by simp only [← hks, List.getElem_map])
  have HI := Lib.hid h
  have HN := Lib.hid h.1
  have HKW := Lib.hid hk
  rw [hks]
  clear hks h hk
  go_enter Try.func83, Try.ntmps83
  go_wp2
  go_loopw [13] (fun i wr => twRel w ks i wr) (fun i _ => n - (intOf i).toNat)
  case atStart => exact ⟨0, Nat.zero_le _, rfl, World.ownsMap_made _ _ _ _, (Keeps.refl w).alloc _⟩
  case round =>
    obtain ⟨k, hkn, rfl, hown, hkw⟩ := hrel
    rw [HL.out] at hkn
    have HO := Lib.hid hown
    have HK := Lib.hid hkw
    clear hown hkw
    by_cases hlt : k < n
    · have hlI : (k : Int) < (n : Int) := by omega
      have hkL : k < l.length := by have := HN.out; omega
      have hkS : k < ks.length := by have := HL.out; omega
      obtain ⟨b1, o1, rfl, _, hc⟩ := (HI.out.keeps HK.out).get hkL
      obtain ⟨⟨p1, p2⟩, hp⟩ : ∃ q, l[k] = q := ⟨_, rfl⟩
      have hwf : (Lit.int .i64 p1).wf = true := by have := HKW.out _ (List.getElem_mem hkL); rw [hp] at this; exact this
      have hkk : ks[k] = p1 := by rw [HG.out k hkL hkS, hp]
      rw [hp] at hc
      have c0 : wr.cell? ⟨b1, o1 + k * 2, none⟩ = some (.int .i64 p1) := hc 0 _ rfl
      have c1 : wr.cell? ⟨b1, o1 + k * 2 + 1, none⟩ = some (.int .i64 p2) := by rw [Nat.add_assoc]; exact hc 1 _ rfl
      have HS := Lib.hid (fun c hat => show (tally (ks.take k).reverse).put (.int .i64 p1) (.lit (.int .i64 (c + 1))) = tally (ks.take (k + 1)).reverse ∧ 0 ≤ c ∧ c ≤ k by
        have := tally_snoc ks hkS (c := c) (by rw [hkk]; exact hat)
        rwa [hkk] at this)
      have wr1 := wrapI (a := (k : Int) + 1) (by omega) (by omega)
      clear hc hp hkk
      go_wp2_with (first | (go_at_call 84; refine (psnumber_any (p1, p2) _).mono ?_; rintro _ w2 ⟨rfl, k2⟩; have hkA := (HK.out.alloc _).trans k2; have hoA := (HO.out.alloc _).kept k2.grown0 (by simp); have HK2 := Lib.hid hkA; clear k2 hkA) | (at_lookup; refine wpList_lookup_own_int _ rfl _ _ 155 rfl 3 3 .i64 lawI Try.underlying155 Try.underlying3 (zeroI _) w.heap.size k _ rfl hoA _ _ rfl (keyOf_int_mk Try.underlying3 hwf) ?_; intro c hat hwc; obtain ⟨hput, hc1, hc2⟩ := HS.out c hat; have wr2 := wrapI (a := c + 1) (by omega) (by omega)) | (at_mapUpdate; refine wpList_mapUpdate_own _ rfl _ _ _ 155 rfl 3 3 lawI Try.underlying155 _ w.heap.size k _ rfl hoA (by unfold maxLen; omega) _ _ _ rfl rfl (keyOf_int_mk Try.underlying3 hwf) _ [] (plainElem_int Try.underlying3 (WalkArith.wf_i64 (by omega))) ?_; intro w3 hown3 hgrow3; rw [hput] at hown3; have HO3 := Lib.hid hown3; have HK3 := Lib.hid (HK2.out.grown hgrow3 (fun g e => by cases e; exact Nat.le_refl _)); clear hown3 hgrow3))
      go_roundw
      case rel => exact ⟨k + 1, by rw [HL.out]; omega, by go_num, HO3.out, HK3.out⟩
      case measure => simp [intOf]; omega
    · have hlI : ¬ (k : Int) < (n : Int) := by omega
      have hfull : ks.take k = ks := List.take_of_length_le (by rw [HL.out]; omega)
      rw [hfull] at HO
      obtain ⟨R, hR⟩ : ∃ R, ks.reverse = R := ⟨_, rfl⟩
      have HRN := Lib.hid (show R.Nodup ↔ ks.Nodup by rw [← hR]; exact nodup_reverse')
      rw [hR] at HO
      clear hfull hR
      have hoo := HO.out
      go_wp2_with (at_range; refine wpList_range_own _ rfl _ 155 rfl 3 3 lawI Try.underlying155 _ w.heap.size k _ rfl hoo ?_; intro w4 hrg hg4 hs4)
      try go_frame
      obtain ⟨r, hr⟩ : ∃ r, wr.heap.size = r := ⟨_, rfl⟩
      rw [hr] at hrg ⊢
      have HR4 := Lib.hid hrg
      have HK4 := Lib.hid (HK.out.grown hg4 (fun g e => by cases e))
      have HWR := Lib.hid (show w.heap.size < r by have := HO.out.lt; omega)
      clear hrg hg4 hs4 hoo
      go_loopw [9] (fun _ wr => ∃ (left : Lit → Bool) (cnt : Nat), wr.ranges Try.prog 3 (plainElem (H := Unit) Try.prog 3) w.heap.size r k (tally R) left cnt ∧ Once1 R left ∧ Keeps w wr) (fun _ wr => wr.rangeLeft w.heap.size r)
      case atStart => exact ⟨_, _, HR4.out, Once1.start R, HK4.out⟩
      case round =>
        obtain ⟨left, cnt, hrg, hon, hkw⟩ := hrel
        have HON := Lib.hid hon
        have HKW2 := Lib.hid hkw
        have HRG := Lib.hid hrg
        clear hon hkw
        go_wp2_with (at_next; refine wpList_next_ranges_ii _ rfl _ rfl 3 3 .i64 .i64 lawI Try.underlying3 Try.underlying3 w.heap.size r k _ _ _ rfl hrg ?_ ?_)
        · intro hc0 hl0
          have HE := Lib.hid (HRN.out.1 (HON.out.all hl0))
          clear hc0 hl0
          go_wp2
          go_ret
          exact ⟨by rw [decide_eq_true HE.out]; rfl, HKW2.out⟩
        · intro x c w5 cnt5 hwx hwc hlx hat hrg5 hlt5 hg5 hs5 hen
          have HK5 := Lib.hid (HKW2.out.grown hg5 (fun g e => by cases e; have := HWR.out; omega))
          have HRG5 := Lib.hid hrg5
          have HLT := Lib.hid hlt5
          by_cases h1 : 1 < c
          · have HE := Lib.hid (fun h => Once1.twice hat h1 (HRN.out.2 h))
            clear hat hrg5 hg5 hlt5
            go_wp2
            go_ret
            exact ⟨by rw [decide_eq_false HE.out]; rfl, HK5.out⟩
          · have HE := Lib.hid (HON.out.step hat h1)
            clear hat hrg5 hg5 hlt5
            go_wp2
            go_roundw
            case rel => exact ⟨_, cnt5, HRG5.out, HE.out, HK5.out⟩
            case measure => rw [HRG5.out.left_eq, HRG.out.left_eq]; exact HLT.out
set_option maxHeartbeats 1600000 in
theorem twSt_any {a : Option Addr} {n cap : Nat} {l : List Strm} (w : World) (h : IsE rowSt w a n l) (hn : n ≤ 1000) (hk : ∀ p ∈ l, (Lit.int .i64 p.pid).wf = true) :
    Calls Try.prog 94 #[.slice a n cap, .func (.func 95) #[] #[]] w fun e w' => e = .returned (.bool (!decide (l.map (·.pid)).Nodup)) ∧ Keeps w w' := by
  have hmm := @run_makeMap Try.prog
  obtain ⟨ks, hks⟩ : ∃ ks, l.map (·.pid) = ks := ⟨_, rfl⟩
  have HL := Lib.hid (show ks.length = n by rw [← hks, List.length_map]; exact h.1.symm)
  have HG := Lib.hid (fun (k : Nat) (h1 : k < l.length) (h2 : k < ks.length) => show ks[k] = l[k].pid by simp only [← hks, List.getElem_map])
  have HI := Lib.hid h
  have HN := Lib.hid h.1
  have HKW := Lib.hid hk
  rw [hks]
  clear hks h hk
  go_enter Try.func94, Try.ntmps94
  go_wp2
  go_loopw [13] (fun i wr => twRel w ks i wr) (fun i _ => n - (intOf i).toNat)
  case atStart => exact ⟨0, Nat.zero_le _, rfl, World.ownsMap_made _ _ _ _, (Keeps.refl w).alloc _⟩
  case round =>
    obtain ⟨k, hkn, rfl, hown, hkw⟩ := hrel
    rw [HL.out] at hkn
    have HO := Lib.hid hown
    have HK := Lib.hid hkw
    clear hown hkw
    by_cases hlt : k < n
    · have hlI : (k : Int) < (n : Int) := by omega
      have hkL : k < l.length := by have := HN.out; omega
      have hkS : k < ks.length := by have := HL.out; omega
      obtain ⟨b1, o1, rfl, _, hc⟩ := (HI.out.keeps HK.out).get hkL
      obtain ⟨⟨p1, p2, p3⟩, hp⟩ : ∃ q, l[k] = q := ⟨_, rfl⟩
      have hwf : (Lit.int .i64 p2).wf = true := by have := HKW.out _ (List.getElem_mem hkL); rw [hp] at this; exact this
      have hkk : ks[k] = p2 := by rw [HG.out k hkL hkS, hp]
      rw [hp] at hc
      have c0 : wr.cell? ⟨b1, o1 + k * 3, none⟩ = some (.int .i64 p1) := hc 0 _ rfl
      have c1 : wr.cell? ⟨b1, o1 + k * 3 + 1, none⟩ = some (.int .i64 p2) := by rw [Nat.add_assoc]; exact hc 1 _ rfl
      have c2 : wr.cell? ⟨b1, o1 + k * 3 + 2, none⟩ = some (.string p3) := by rw [Nat.add_assoc]; exact hc 2 _ rfl
      have HS := Lib.hid (fun c hat => show (tally (ks.take k).reverse).put (.int .i64 p2) (.lit (.int .i64 (c + 1))) = tally (ks.take (k + 1)).reverse ∧ 0 ≤ c ∧ c ≤ k by
        have := tally_snoc ks hkS (c := c) (by rw [hkk]; exact hat)
        rwa [hkk] at this)
      have wr1 := wrapI (a := (k : Int) + 1) (by omega) (by omega)
      clear hc hp hkk
      go_wp2_with (first | (go_at_call 95; refine (pspid_any ⟨p1, p2, p3⟩ _).mono ?_; rintro _ w2 ⟨rfl, k2⟩; have hkA := (HK.out.alloc _).trans k2; have hoA := (HO.out.alloc _).kept k2.grown0 (by simp); have HK2 := Lib.hid hkA; clear k2 hkA) | (at_lookup; refine wpList_lookup_own_int _ rfl _ _ 155 rfl 3 3 .i64 lawI Try.underlying155 Try.underlying3 (zeroI _) w.heap.size k _ rfl hoA _ _ rfl (keyOf_int_mk Try.underlying3 hwf) ?_; intro c hat hwc; obtain ⟨hput, hc1, hc2⟩ := HS.out c hat; have wr2 := wrapI (a := c + 1) (by omega) (by omega)) | (at_mapUpdate; refine wpList_mapUpdate_own _ rfl _ _ _ 155 rfl 3 3 lawI Try.underlying155 _ w.heap.size k _ rfl hoA (by unfold maxLen; omega) _ _ _ rfl rfl (keyOf_int_mk Try.underlying3 hwf) _ [] (plainElem_int Try.underlying3 (WalkArith.wf_i64 (by omega))) ?_; intro w3 hown3 hgrow3; rw [hput] at hown3; have HO3 := Lib.hid hown3; have HK3 := Lib.hid (HK2.out.grown hgrow3 (fun g e => by cases e; exact Nat.le_refl _)); clear hown3 hgrow3))
      go_roundw
      case rel => exact ⟨k + 1, by rw [HL.out]; omega, by go_num, HO3.out, HK3.out⟩
      case measure => simp [intOf]; omega
    · have hlI : ¬ (k : Int) < (n : Int) := by omega
      have hfull : ks.take k = ks := List.take_of_length_le (by rw [HL.out]; omega)
      rw [hfull] at HO
      obtain ⟨R, hR⟩ : ∃ R, ks.reverse = R := ⟨_, rfl⟩
      have HRN := Lib.hid (show R.Nodup ↔ ks.Nodup by rw [← hR]; exact nodup_reverse')
      rw [hR] at HO
      clear hfull hR
      have hoo := HO.out
      go_wp2_with (at_range; refine wpList_range_own _ rfl _ 155 rfl 3 3 lawI Try.underlying155 _ w.heap.size k _ rfl hoo ?_; intro w4 hrg hg4 hs4)
      try go_frame
      obtain ⟨r, hr⟩ : ∃ r, wr.heap.size = r := ⟨_, rfl⟩
      rw [hr] at hrg ⊢
      have HR4 := Lib.hid hrg
      have HK4 := Lib.hid (HK.out.grown hg4 (fun g e => by cases e))
      have HWR := Lib.hid (show w.heap.size < r by have := HO.out.lt; omega)
      clear hrg hg4 hs4 hoo
      go_loopw [9] (fun _ wr => ∃ (left : Lit → Bool) (cnt : Nat), wr.ranges Try.prog 3 (plainElem (H := Unit) Try.prog 3) w.heap.size r k (tally R) left cnt ∧ Once1 R left ∧ Keeps w wr) (fun _ wr => wr.rangeLeft w.heap.size r)
      case atStart => exact ⟨_, _, HR4.out, Once1.start R, HK4.out⟩
      case round =>
        obtain ⟨left, cnt, hrg, hon, hkw⟩ := hrel
        have HON := Lib.hid hon
        have HKW2 := Lib.hid hkw
        have HRG := Lib.hid hrg
        clear hon hkw
        go_wp2_with (at_next; refine wpList_next_ranges_ii _ rfl _ rfl 3 3 .i64 .i64 lawI Try.underlying3 Try.underlying3 w.heap.size r k _ _ _ rfl hrg ?_ ?_)
        · intro hc0 hl0
          have HE := Lib.hid (HRN.out.1 (HON.out.all hl0))
          clear hc0 hl0
          go_wp2
          go_ret
          exact ⟨by rw [decide_eq_true HE.out]; rfl, HKW2.out⟩
        · intro x c w5 cnt5 hwx hwc hlx hat hrg5 hlt5 hg5 hs5 hen
          have HK5 := Lib.hid (HKW2.out.grown hg5 (fun g e => by cases e; have := HWR.out; omega))
          have HRG5 := Lib.hid hrg5
          have HLT := Lib.hid hlt5
          by_cases h1 : 1 < c
          · have HE := Lib.hid (fun h => Once1.twice hat h1 (HRN.out.2 h))
            clear hat hrg5 hg5 hlt5
            go_wp2
            go_ret
            exact ⟨by rw [decide_eq_false HE.out]; rfl, HK5.out⟩
          · have HE := Lib.hid (HON.out.step hat h1)
            clear hat hrg5 hg5 hlt5
            go_wp2
            go_roundw
            case rel => exact ⟨_, cnt5, HRG5.out, HE.out, HK5.out⟩
            case measure => rw [HRG5.out.left_eq, HRG.out.left_eq]; exact HLT.out
/-- Is there one in a row of which a function tells so? -/
def ixPost (w : World) (b : Bool) (e : Ending) (w' : World) : Prop := ∃ r : Int, (b = true → 0 ≤ r) ∧ (b = false → r = -1) ∧ e = .returned (.int .i64 r) ∧ Keeps w w'
def ixRel (w : World) (n : Nat) (good : Nat → Prop) (i : Value) (wr : World) : Prop := ∃ k : Nat, k ≤ n ∧ i = .int .i64 (k : Int) ∧ (∀ j, j < k → good j) ∧ Keeps w wr
set_option maxHeartbeats 1600000 in
theorem ixpr_any {a : Option Addr} {n cap : Nat} {l : List (Int × Int)} (w : World) (h : IsE rowPr w a n l) (hn : n ≤ 1000000) :
    Calls Try.prog 86 #[.slice a n cap, .func (.func 82) #[] #[]] w (ixPost w (!decide (∀ p ∈ l, okPr p))) := by
  have HI := Lib.hid h
  have HN := Lib.hid h.1
  have HK0 := Lib.hid (Keeps.refl w)
  clear h
  go_enter Try.func86, Try.ntmps86
  go_wp2
  go_loopw [8] (fun i wr => ixRel w n (fun j => ∀ (hj : j < l.length), okPr l[j]) i wr) (fun i _ => n - (intOf i).toNat)
  case atStart => exact ⟨0, Nat.zero_le _, rfl, fun j hj => by omega, HK0.out⟩
  case round =>
    obtain ⟨k, hkn, rfl, hall, hkw⟩ := hrel
    have HALL := Lib.hid hall
    have HK := Lib.hid hkw
    clear hall hkw
    by_cases hlt : k < n
    · have hlI : (k : Int) < (n : Int) := by omega
      have hkL : k < l.length := by have := HN.out; omega
      obtain ⟨b1, o1, rfl, _, hc⟩ := (HI.out.keeps HK.out).get hkL
      obtain ⟨q, hp⟩ : ∃ q, l[k] = q := ⟨_, rfl⟩
      have HNO := Lib.hid (fun W => psnoprog_any q W)
      have HQ := Lib.hid (show ∀ W, Keeps wr W → Keeps w W from fun W k => HK.out.trans k)
      have wr1 := wrapI (a := (k : Int) + 1) (by omega) (by omega)
      rw [hp] at hc
      have c0 : wr.cell? ⟨b1, o1 + k * 2, none⟩ = some (.int .i64 q.1) := hc 0 _ rfl
      have c1 : wr.cell? ⟨b1, o1 + k * 2 + 1, none⟩ = some (.int .i64 q.2) := by rw [Nat.add_assoc]; exact hc 1 _ rfl
      by_cases hq : okPr q
      · have HG := Lib.hid (show ∀ j, j < k + 1 → ∀ (hj : j < l.length), okPr l[j] from fun j hj hjl => by
          by_cases e : j = k
          · subst e; rw [hp]; exact hq
          · exact HALL.out j (by omega) hjl)
        have hb : (!decide (okPr q)) = false := by rw [decide_eq_true hq]; rfl
        rw [hb] at HNO
        clear hc hb hp hq
        obtain ⟨p1, p2⟩ := q
        go_wp2_with (go_at_call 82; refine (HNO.out _).mono ?_; rintro _ w2 ⟨rfl, k2⟩; have HK2 := Lib.hid (HQ.out _ k2); clear k2)
        go_roundw
        case rel => exact ⟨k + 1, hlt, by go_num, HG.out, HK2.out⟩
        case measure => simp [intOf]; omega
      · have HG := Lib.hid (show (!decide (∀ p ∈ l, okPr p)) = true by rw [decide_eq_false (fun x => hq (by rw [← hp]; exact x _ (List.getElem_mem hkL)))]; rfl)
        have hb : (!decide (okPr q)) = true := by rw [decide_eq_false hq]; rfl
        rw [hb] at HNO
        clear hc hb hp hq
        obtain ⟨p1, p2⟩ := q
        go_wp2_with (go_at_call 82; refine (HNO.out _).mono ?_; rintro _ w2 ⟨rfl, k2⟩; have HK2 := Lib.hid (HQ.out _ k2); clear k2)
        go_ret
        exact ⟨(k : Int), fun _ => by omega, fun x => (by rw [HG.out] at x; cases x), rfl, HK2.out⟩
    · have hlI : ¬ (k : Int) < (n : Int) := by omega
      have HG := Lib.hid (show (!decide (∀ p ∈ l, okPr p)) = false by
        rw [decide_eq_true (fun p hp => by
          obtain ⟨j, hj, rfl⟩ := List.getElem_of_mem hp
          exact HALL.out j (by have := HN.out; omega) hj)]; rfl)
      go_wp2
      go_ret
      exact ⟨-1, fun x => (by rw [HG.out] at x; cases x), fun _ => rfl, rfl, HK.out⟩
theorem copr_any {a : Option Addr} {n cap : Nat} {l : List (Int × Int)} (w : World) (h : IsE rowPr w a n l) (hn : n ≤ 1000000) :
    Calls Try.prog 81 #[.slice a n cap, .func (.func 82) #[] #[]] w fun e w' => e = .returned (.bool (!decide (∀ p ∈ l, okPr p))) ∧ Keeps w w' := by
  have HX := Lib.hid (ixpr_any (cap := cap) w h hn)
  obtain ⟨b, hb⟩ : ∃ b, (!decide (∀ p ∈ l, okPr p)) = b := ⟨_, rfl⟩
  rw [hb] at HX ⊢
  clear hb h
  cases b
  all_goals go_enter Try.func81, Try.ntmps81
  all_goals go_wp2_with (go_at_call 86; refine HX.out.mono ?_; rintro _ w2 ⟨r, hr1, hr2, rfl, k2⟩; have HK2 := Lib.hid k2; first | (have hr := hr1 rfl; clear hr1 hr2 k2) | (have hr := hr2 rfl; subst hr; clear hr1 hr2 k2))
  all_goals go_ret
  all_goals exact ⟨rfl, HK2.out⟩
set_option maxHeartbeats 1600000 in
theorem ixst_any {a : Option Addr} {n cap : Nat} {l : List Strm} (w : World) (h : IsE rowSt w a n l) (hn : n ≤ 1000000) :
    Calls Try.prog 96 #[.slice a n cap, .func (.func 93) #[] #[]] w (ixPost w (!decide (∀ p ∈ l, okS3 p))) := by
  have HI := Lib.hid h
  have HN := Lib.hid h.1
  have HK0 := Lib.hid (Keeps.refl w)
  clear h
  go_enter Try.func96, Try.ntmps96
  go_wp2
  go_loopw [8] (fun i wr => ixRel w n (fun j => ∀ (hj : j < l.length), okS3 l[j]) i wr) (fun i _ => n - (intOf i).toNat)
  case atStart => exact ⟨0, Nat.zero_le _, rfl, fun j hj => by omega, HK0.out⟩
  case round =>
    obtain ⟨k, hkn, rfl, hall, hkw⟩ := hrel
    have HALL := Lib.hid hall
    have HK := Lib.hid hkw
    clear hall hkw
    by_cases hlt : k < n
    · have hlI : (k : Int) < (n : Int) := by omega
      have hkL : k < l.length := by have := HN.out; omega
      obtain ⟨b1, o1, rfl, _, hc⟩ := (HI.out.keeps HK.out).get hkL
      obtain ⟨q, hp⟩ : ∃ q, l[k] = q := ⟨_, rfl⟩
      have HNO := Lib.hid (fun W => psnostrm_any q W)
      have HQ := Lib.hid (show ∀ W, Keeps wr W → Keeps w W from fun W k => HK.out.trans k)
      have wr1 := wrapI (a := (k : Int) + 1) (by omega) (by omega)
      rw [hp] at hc
      have c0 : wr.cell? ⟨b1, o1 + k * 3, none⟩ = some (.int .i64 q.kind) := hc 0 _ rfl
      have c1 : wr.cell? ⟨b1, o1 + k * 3 + 1, none⟩ = some (.int .i64 q.pid) := by rw [Nat.add_assoc]; exact hc 1 _ rfl
      have c2 : wr.cell? ⟨b1, o1 + k * 3 + 2, none⟩ = some (.string q.info) := by rw [Nat.add_assoc]; exact hc 2 _ rfl
      by_cases hq : okS3 q
      · have HG := Lib.hid (show ∀ j, j < k + 1 → ∀ (hj : j < l.length), okS3 l[j] from fun j hj hjl => by
          by_cases e : j = k
          · subst e; rw [hp]; exact hq
          · exact HALL.out j (by omega) hjl)
        have hb : (!decide (okS3 q)) = false := by rw [decide_eq_true hq]; rfl
        rw [hb] at HNO
        clear hc hb hp hq
        obtain ⟨p1, p2, p3⟩ := q
        go_wp2_with (go_at_call 93; refine (HNO.out _).mono ?_; rintro _ w2 ⟨rfl, k2⟩; have HK2 := Lib.hid (HQ.out _ k2); clear k2)
        go_roundw
        case rel => exact ⟨k + 1, hlt, by go_num, HG.out, HK2.out⟩
        case measure => simp [intOf]; omega
      · have HG := Lib.hid (show (!decide (∀ p ∈ l, okS3 p)) = true by rw [decide_eq_false (fun x => hq (by rw [← hp]; exact x _ (List.getElem_mem hkL)))]; rfl)
        have hb : (!decide (okS3 q)) = true := by rw [decide_eq_false hq]; rfl
        rw [hb] at HNO
        clear hc hb hp hq
        obtain ⟨p1, p2, p3⟩ := q
        go_wp2_with (go_at_call 93; refine (HNO.out _).mono ?_; rintro _ w2 ⟨rfl, k2⟩; have HK2 := Lib.hid (HQ.out _ k2); clear k2)
        go_ret
        exact ⟨(k : Int), fun _ => by omega, fun x => (by rw [HG.out] at x; cases x), rfl, HK2.out⟩
    · have hlI : ¬ (k : Int) < (n : Int) := by omega
      have HG := Lib.hid (show (!decide (∀ p ∈ l, okS3 p)) = false by
        rw [decide_eq_true (fun p hp => by
          obtain ⟨j, hj, rfl⟩ := List.getElem_of_mem hp
          exact HALL.out j (by have := HN.out; omega) hj)]; rfl)
      go_wp2
      go_ret
      exact ⟨-1, fun x => (by rw [HG.out] at x; cases x), fun _ => rfl, rfl, HK.out⟩
theorem cost_any {a : Option Addr} {n cap : Nat} {l : List Strm} (w : World) (h : IsE rowSt w a n l) (hn : n ≤ 1000000) :
    Calls Try.prog 92 #[.slice a n cap, .func (.func 93) #[] #[]] w fun e w' => e = .returned (.bool (!decide (∀ p ∈ l, okS3 p))) ∧ Keeps w w' := by
  have HX := Lib.hid (ixst_any (cap := cap) w h hn)
  obtain ⟨b, hb⟩ : ∃ b, (!decide (∀ p ∈ l, okS3 p)) = b := ⟨_, rfl⟩
  rw [hb] at HX ⊢
  clear hb h
  cases b
  all_goals go_enter Try.func92, Try.ntmps92
  all_goals go_wp2_with (go_at_call 96; refine HX.out.mono ?_; rintro _ w2 ⟨r, hr1, hr2, rfl, k2⟩; have HK2 := Lib.hid k2; first | (have hr := hr1 rfl; clear hr1 hr2 k2) | (have hr := hr2 rfl; subst hr; clear hr1 hr2 k2))
  all_goals go_ret
  all_goals exact ⟨rfl, HK2.out⟩
end Go.Proofs.Ytebfihghfkcicaa
