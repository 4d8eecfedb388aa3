/-
  What Get of package bits answers: for texts of up to a million bytes. Nothing that was there turns but the reader.
-/
import Derived.Test.YtofnokikjfmfgaaBitsB
namespace Go.Proofs.Ytofnokikjfmfgaa
open Go.RowKit Go.Shelf Gf Bit
set_option maxRecDepth 100000
/-- The world behind fails. -/
def fw (w : World) (b : Nat) (e : Int) (now : Bool) (x : Int) : World := if e = 0 ∧ now = true then w.setCell ⟨b, 0, none⟩ (.int .i64 x) else w
theorem fails_eqv {b : Nat} {e : Int} {s : ByteArray} {k : Nat} {w W : World} (h : InAt b e s k w) (q : Eqv w W) (now : Bool) (x : Int) : Calls Try.prog 58 #[.pointer (some ⟨b, 0, none⟩), .bool now, .int .i64 x] W fun r w' =>
    r = .returned (.bool (decide (ferr e now x ≠ 0))) ∧ Eqv (fw w b e now x) w' :=
  (fails_any (h.eqv q) now x).mono fun r w' hh => ⟨hh.1, by
    rw [hh.2]; unfold fw
    by_cases he : e = 0 ∧ now = true
    · rw [if_pos he, if_pos he]; exact q.setCell _ _
    · rw [if_neg he, if_neg he]; exact q⟩
theorem fw_in {b : Nat} {e : Int} {s : ByteArray} {k : Nat} {w : World} (h : InAt b e s k w) (now : Bool) (x : Int) : InAt b (ferr e now x) s k (fw w b e now x) := by
  unfold fw ferr
  by_cases he : e = 0 ∧ now = true
  · rw [if_pos he, if_pos he]; exact h.setE x
  · rw [if_neg he, if_neg he]; exact h
theorem fw_only (w : World) (b : Nat) (e : Int) (now : Bool) (x : Int) : Only b w (fw w b e now x) := by
  unfold fw
  by_cases he : e = 0 ∧ now = true
  · rw [if_pos he]; exact Only.setCell w ⟨b, 0, none⟩ _
  · rw [if_neg he]; exact Only.refl _ _
theorem ferr_ok (x : Int) : ferr 0 false x = 0 := rfl
set_option maxHeartbeats 4000000 in
/-- Something was wrong, or is now. -/
theorem get_first {b : Nat} {e : Int} {s : ByteArray} {p : Nat} {w : World} (h : InAt b e s p w) (n : Int) (now : Bool) (hnow : now = (decide (n < 0) || decide (n > 64))) (hf : ferr e now 1 ≠ 0) :
    Calls Try.prog 43 #[.pointer (some ⟨b, 0, none⟩), .int .i64 n] w fun x w' => x = .returned (.int .u64 0) ∧ InAt b (ferr e now 1) s p w' ∧ Only b w w' := by
  have HF := Lib.hid (show ∀ W, Eqv w W → Calls Try.prog 58 #[.pointer (some ⟨b, 0, none⟩), .bool now, .int .i64 1] W fun r w' => r = .returned (.bool true) ∧ Eqv (fw w b e now 1) w' from
    fun W q => (fails_eqv h q now 1).mono fun r w' hh => ⟨by rw [hh.1, decide_eq_true hf], hh.2⟩)
  have HI := Lib.hid (fw_in h now 1)
  have HO := Lib.hid (fw_only w b e now 1)
  generalize ferr e now 1 = e1 at *
  generalize fw w b e now 1 = w1 at *
  clear h hf
  by_cases h0 : n < 0
  · have hn : now = true := by rw [hnow, decide_eq_true h0]; rfl
    subst hn
    clear hnow
    go_enter Try.func43, Try.ntmps43
    go_wp2
    refine wp_draw (by kernel_rfl)
      [.pointer (some ⟨b, 0, none⟩), .bool false, .bool false, .pointer (some ⟨b, 0, none⟩), .pointer (some ⟨b, 0, none⟩), .pointer (some ⟨b, 0, none⟩), .int .i64 n, .bool true, .bool true, undef, undef, .bool true, .bool true, .bool true, .bool true, undef, undef, undef, undef, undef, undef, undef, undef, .bool true]
      (Once 12 (Eqv w) (Eqv w1)) rfl (by kernel_rfl) (fin := ?finA) ?hfinA (Once.start (Eqv.drew w)) ?eachA ?hendA
    case hfinA => simp [seqA, dstOf, Act.put]; rfl
    case eachA =>
      refine ⟨?_, ?_, ?_, ?_, ?_, ?_, ?_, ?_, ?_, ?_, ?_, ?_, ?_, ?_, ?_, ?_, ?_, ?_, ?_, ?_, ?_, ?_, ?_, ?_, trivial⟩
      all_goals intro L w7 h0 hd hs hw
      all_goals try simp only [Nat.zero_add, Nat.reduceAdd] at h0
      all_goals first | rw [if_pos (by rfl)] | rw [if_neg (by decide)] | skip
      all_goals first | exact ⟨fun _ => rfl, fun L' k => hw.same (by decide) k⟩ | skip
      all_goals unfold Does
      all_goals try (go_simp; exact fun L' k => hw.same (by decide) k)
      · have hA := hw.1 h0
        go_simp
        refine (HF.out w7 hA).mono ?_
        rintro r w6 ⟨rfl, he⟩
        exact ⟨_, rfl, rfl, fun L' k => Once.done k he⟩
    case hendA =>
      intro L w7 hL hw
      have hC := hw.2 (hL 12 (by simp))
      go_wp2
      go_ret
      exact ⟨rfl, HI.out.eqv hC, HO.out.trans (Only.eqv hC)⟩
  · have hn : decide (64 < n) = now := by rw [hnow, decide_eq_false h0]; rfl
    clear hnow
    go_enter Try.func43, Try.ntmps43
    go_wp2
    refine wp_draw (by kernel_rfl)
      [.pointer (some ⟨b, 0, none⟩), .bool false, .bool false, .pointer (some ⟨b, 0, none⟩), .pointer (some ⟨b, 0, none⟩), .pointer (some ⟨b, 0, none⟩), .int .i64 n, .bool false, .bool false, .int .i64 n, .bool now, .bool now, .bool true, .bool true, .bool true, undef, undef, undef, undef, undef, undef, undef, undef, .bool true]
      (Once 12 (Eqv w) (Eqv w1)) rfl (by kernel_rfl) (fin := ?finB) ?hfinB (Once.start (Eqv.drew w)) ?eachB ?hendB
    case hfinB => simp [seqA, dstOf, Act.put]; rfl
    case eachB =>
      refine ⟨?_, ?_, ?_, ?_, ?_, ?_, ?_, ?_, ?_, ?_, ?_, ?_, ?_, ?_, ?_, ?_, ?_, ?_, ?_, ?_, ?_, ?_, ?_, ?_, trivial⟩
      all_goals intro L w7 h0 hd hs hw
      all_goals try simp only [Nat.zero_add, Nat.reduceAdd] at h0
      all_goals first | rw [if_pos (by rfl)] | rw [if_neg (by decide)] | skip
      all_goals first | exact ⟨fun _ => rfl, fun L' k => hw.same (by decide) k⟩ | skip
      all_goals unfold Does
      all_goals try (go_simp; exact fun L' k => hw.same (by decide) k)
      · have hA := hw.1 h0
        go_simp
        refine (HF.out w7 hA).mono ?_
        rintro r w6 ⟨rfl, he⟩
        exact ⟨_, rfl, rfl, fun L' k => Once.done k he⟩
    case hendB =>
      intro L w7 hL hw
      have hC := hw.2 (hL 12 (by simp))
      go_wp2
      go_ret
      exact ⟨rfl, HI.out.eqv hC, HO.out.trans (Only.eqv hC)⟩
set_option maxHeartbeats 4000000 in
/-- Nothing is wrong with n: there are so many bits, or not. -/
theorem get_next {b : Nat} {s : ByteArray} {p : Nat} {w : World} (h : InAt b 0 s p w) (N : Nat) (hN : N ≤ 64) (hs : s.size ≤ 1000000) (hp : p ≤ 8 * s.size) (f : Bool) (hf : decide ((N : Int) > 8 * (s.size : Int) - (p : Int)) = f) :
    Calls Try.prog 43 #[.pointer (some ⟨b, 0, none⟩), .int .i64 (N : Int)] w fun x w' => x = .returned (.int .u64 (if f then 0 else un (num (((ob (ls s)).drop p).take N)))) ∧ InAt b (if f then 10 else 0) s (if f then p else p + N) w' ∧ Only b w w' := by
  have H1 := Lib.hid (show ∀ W, Eqv w W → Calls Try.prog 58 #[.pointer (some ⟨b, 0, none⟩), .bool false, .int .i64 1] W fun r w' => r = .returned (.bool false) ∧ Eqv w w' from
    fun W q => (fails_eqv h q false 1).mono fun r w' hh => ⟨hh.1, hh.2⟩)
  have H2 := Lib.hid (show ∀ W, Eqv w W → Calls Try.prog 58 #[.pointer (some ⟨b, 0, none⟩), .bool f, .int .i64 10] W fun r w' => r = .returned (.bool f) ∧ Eqv (fw w b 0 f 10) w' from
    fun W q => (fails_eqv h q f 10).mono fun r w' hh => ⟨by rw [hh.1]; cases f <;> rfl, hh.2⟩)
  have H3 := Lib.hid (show ∀ W, Eqv w W → Calls Try.prog 59 #[.pointer (some ⟨b, 0, none⟩)] W fun r w' => r = .returned (.int .i64 (8 * (s.size : Int) - (p : Int))) ∧ Eqv w w' from
    fun W q => (left_any (h.eqv q) hs hp).mono fun r w' hh => ⟨hh.1, q.trans hh.2⟩)
  have HI := Lib.hid (fw_in h f 10)
  have HO := Lib.hid (fw_only w b 0 f 10)
  generalize fw w b 0 f 10 = w1 at *
  clear h
  have hn0 : ¬ ((N : Int) < 0) := by omega
  have hn1 : ¬ ((64 : Int) < (N : Int)) := by omega
  have hfr : decide (8 * (s.size : Int) - (p : Int) < (N : Int)) = f := hf
  go_enter Try.func43, Try.ntmps43
  go_wp2
  refine wp_draw (by kernel_rfl)
    [.pointer (some ⟨b, 0, none⟩), .bool false, .bool false, .pointer (some ⟨b, 0, none⟩), .pointer (some ⟨b, 0, none⟩), .pointer (some ⟨b, 0, none⟩), .int .i64 (N : Int), .bool false, .bool false, .int .i64 (N : Int), .bool false, .bool false, .bool false, .bool false, .bool false, .pointer (some ⟨b, 0, none⟩), .pointer (some ⟨b, 0, none⟩), .pointer (some ⟨b, 0, none⟩), .int .i64 (N : Int), .pointer (some ⟨b, 0, none⟩), .int .i64 (8 * (s.size : Int) - (p : Int)), .bool f, .bool f, .bool f]
    (Once 22 (Eqv w) (Eqv w1)) rfl (by kernel_rfl) (fin := ?finC) ?hfinC (Once.start (Eqv.drew w)) ?eachC ?hendC
  case hfinC => simp [seqA, dstOf, Act.put]; rfl
  case eachC =>
    refine ⟨?_, ?_, ?_, ?_, ?_, ?_, ?_, ?_, ?_, ?_, ?_, ?_, ?_, ?_, ?_, ?_, ?_, ?_, ?_, ?_, ?_, ?_, ?_, ?_, trivial⟩
    all_goals intro L w7 h0 hd hs hw
    all_goals try simp only [Nat.zero_add, Nat.reduceAdd] at h0
    all_goals first | rw [if_pos (by rfl)] | rw [if_neg (by decide)] | skip
    all_goals first | exact ⟨fun _ => rfl, fun L' k => hw.same (by decide) k⟩ | skip
    all_goals unfold Does
    all_goals try (go_simp; exact fun L' k => hw.same (by decide) k)
    · have h22 := hs.no (j := 22) (by kernel_rfl) (hs.no (j := 14) (by kernel_rfl) (hs.no (j := 13) (by kernel_rfl) h0))
      go_simp
      refine (H1.out w7 (hw.1 h22)).mono ?_
      rintro r w6 ⟨rfl, he⟩
      exact ⟨_, rfl, rfl, fun L' k => ⟨fun _ => he, fun hx => by rw [same_at k (by decide), h22] at hx; cases hx⟩⟩
    · have h22 := hs.no (j := 22) (by kernel_rfl) (hs.no (j := 21) (by kernel_rfl) h0)
      go_simp
      refine (H3.out w7 (hw.1 h22)).mono ?_
      rintro r w6 ⟨rfl, he⟩
      exact ⟨_, rfl, rfl, fun L' k => ⟨fun _ => he, fun hx => by rw [same_at k (by decide), h22] at hx; cases hx⟩⟩
    · go_simp
      refine (H2.out w7 (hw.1 h0)).mono ?_
      rintro r w6 ⟨rfl, he⟩
      exact ⟨_, rfl, rfl, fun L' k => Once.done k he⟩
  case hendC =>
    intro L w7 hL hw
    have hC := hw.2 (hL 22 (by simp))
    have HW := Lib.hid (HI.out.eqv hC)
    have HP := Lib.hid (HO.out.trans (Only.eqv hC))
    have HFF := Lib.hid hf
    clear hfr hf hw hL
    cases f
    · have HM := Lib.hid (number_any HW.out N hs (by have := of_decide_eq_false HFF.out; omega) hN)
      go_wp2_with (go_at_call 60; refine HM.out.mono ?_; rintro x w9 ⟨rfl, h1, h2⟩)
      go_ret
      exact ⟨rfl, h1, HP.out.trans h2⟩
    · go_wp2
      go_ret
      exact ⟨rfl, HW.out, HP.out⟩
/-- The number of the next N bits. -/
theorem get_ok {b : Nat} {s : ByteArray} {p : Nat} {w : World} (h : InAt b 0 s p w) (N : Nat) (hN : N ≤ 64) (hs : s.size ≤ 1000000) (hp : p + N ≤ 8 * s.size) :
    Calls Try.prog 43 #[.pointer (some ⟨b, 0, none⟩), .int .i64 (N : Int)] w fun x w' => x = .returned (.int .u64 (un (num (((ob (ls s)).drop p).take N)))) ∧ InAt b 0 s (p + N) w' ∧ Only b w w' :=
  get_next h N hN hs (by omega) false (decide_eq_false (by omega))
theorem get_short {b : Nat} {s : ByteArray} {p : Nat} {w : World} (h : InAt b 0 s p w) (N : Nat) (hN : N ≤ 64) (hs : s.size ≤ 1000000) (hp : p ≤ 8 * s.size) (hx : 8 * s.size < p + N) :
    Calls Try.prog 43 #[.pointer (some ⟨b, 0, none⟩), .int .i64 (N : Int)] w fun x w' => x = .returned (.int .u64 0) ∧ InAt b 10 s p w' ∧ Only b w w' :=
  get_next h N hN hs hp true (decide_eq_true (by omega))
theorem get_arg {b : Nat} {s : ByteArray} {p : Nat} {w : World} (h : InAt b 0 s p w) (n : Int) (hn : n < 0 ∨ n > 64) :
    Calls Try.prog 43 #[.pointer (some ⟨b, 0, none⟩), .int .i64 n] w fun x w' => x = .returned (.int .u64 0) ∧ InAt b 1 s p w' ∧ Only b w w' :=
  get_first h n true (by rcases hn with hn | hn <;> simp [hn]) (by decide)
theorem get_bad {b : Nat} {e : Int} {s : ByteArray} {p : Nat} {w : World} (h : InAt b e s p w) (n : Int) (he : e ≠ 0) :
    Calls Try.prog 43 #[.pointer (some ⟨b, 0, none⟩), .int .i64 n] w fun x w' => x = .returned (.int .u64 0) ∧ InAt b e s p w' ∧ Only b w w' := by
  have e1 : ferr e (decide (n < 0) || decide (n > 64)) 1 = e := by unfold ferr; rw [if_neg fun k => he k.1]
  have := get_first h n _ rfl (by rw [e1]; exact he)
  rwa [e1] at this
end Go.Proofs.Ytofnokikjfmfgaa
