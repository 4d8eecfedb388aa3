/-
  What the document's functions on polynomials answer: Coef, Trim, Add, Mul, At, Slope, Roots, for texts of up to a billion bytes; the memory that was there stays.
-/
import Derived.Test.YtdlcloenihkkgaaStr
namespace Go.Proofs.Ytdlcloenihkkgaa
open Go.RowKit Gf
set_option maxRecDepth 100000

set_option maxHeartbeats 400000 in
theorem coef_any (p : ByteArray) (n : Int) (w : World) (h : 0 ≤ n) :
    Calls Try.prog 43 #[.string p, .int .i64 n] w fun e w' => e = .returned (.int .u8 ((cf (ls p) n.toNat).toNat : Int)) ∧ w = w' := by
  obtain ⟨k, rfl⟩ := Int.eq_ofNat_of_zero_le h
  rw [Int.toNat_natCast]
  by_cases hk : k < p.size
  · have hg := ls_get p k hk
    have HG := Lib.hid hg
    clear hg
    go_enter Try.func43, Try.ntmps43
    go_wp2
    go_ret
    rw [← HG.out]
    exact ⟨rfl, rfl⟩
  · have HZ := Lib.hid (show cf (ls p) k = 0 from cf_big (by rw [← ls_size]; omega))
    have hk2 : (p.size : Int) ≤ (k : Int) := by omega
    go_enter Try.func43, Try.ntmps43
    go_wp2
    go_ret
    rw [HZ.out]
    exact ⟨rfl, rfl⟩

def lenOf : Value → Nat | .string s => s.size | _ => 0
def tRel (p : List UInt8) (v : Value) : Prop := ∃ q : ByteArray, v = .string q ∧ trim (ls q) = trim p ∧ q.size ≤ p.length
theorem u8_zero {x : UInt8} (h : (x.toNat : Int) = 0) : x = 0 := u8_ext (by show x.toNat = 0; omega)
theorem ls_extract (q : ByteArray) (n : Nat) : ls (q.extract 0 n) = (ls q).take n := by
  cases q with
  | mk a =>
    obtain ⟨l⟩ := a
    rw [ByteArray.extract_mk]
    simp [ls]
theorem cf_take (p : List UInt8) (n i : Nat) : cf (p.take n) i = if i < n then cf p i else 0 := by
  unfold cf
  rw [List.getD_eq_getElem?_getD, List.getD_eq_getElem?_getD, List.getElem?_take]
  split <;> rfl
theorem trim_cut {q : ByteArray} (h0 : 0 < q.size) (h : ((q[q.size - 1].toNat : Int) == 0) = true) : trim (ls (q.extract 0 (q.size - 1))) = trim (ls q) := by
  rw [ls_extract]
  refine trim_ext fun n => ?_
  rw [cf_take]
  split
  · rfl
  · by_cases e : n = q.size - 1
    · subst e
      rw [ls_get q (q.size - 1) (by omega)] at h
      exact (u8_zero (by simpa using h)).symm
    · exact (cf_big (by rw [← ls_size]; omega)).symm
theorem trim_keep {q : ByteArray} (h0 : 0 < q.size) (h : ((q[q.size - 1].toNat : Int) == 0) = false) : trim (ls q) = ls q := by
  refine trim_self fun _ e => ?_
  rw [← ls_size] at e
  rw [ls_get q (q.size - 1) (by omega), e] at h
  simp at h
theorem size_cut {q : ByteArray} (h0 : 0 < q.size) : (q.extract 0 (q.size - 1)).size = q.size - 1 := by
  rw [ls_size, ls_extract, List.length_take, ← ls_size]; omega
theorem ls_empty {q : ByteArray} (h0 : q.size = 0) : ls q = [] := List.length_eq_zero_iff.1 (by rw [← ls_size]; exact h0)
theorem ret_st {q : ByteArray} {l : List UInt8} (h : ls q = l) : Ending.returned (.string q) = .returned (.string (st l)) := by rw [← h, st_ls]
set_option maxHeartbeats 800000 in
theorem rtrim_any (p : ByteArray) (w : World) (hp : p.size ≤ 1000000000) :
    Calls Try.prog 44 #[.string p] w fun e w' => e = .returned (.string (st (trim (ls p)))) ∧ w = w' := by
  go_enter Try.func44, Try.ntmps44
  go_wp2
  go_loop [0] (fun v => tRel (ls p) v) (fun v => lenOf v)
  case atStart => exact ⟨p, rfl, rfl, by rw [ls_size]; exact Nat.le_refl _⟩
  case round =>
    obtain ⟨q, rfl, ht, hs⟩ := hrel
    rw [← ls_size] at hs
    have HT := Lib.hid ht
    clear ht
    by_cases h0 : q.size = 0
    · have H0 := Lib.hid h0
      have hd : decide (0 < q.size) = false := by simp [h0]
      clear h0
      go_wp2
      go_ret
      exact ⟨ret_st (by rw [← HT.out, ls_empty H0.out]; rfl), rfl⟩
    · have h1 : 0 < q.size := by omega
      clear h0
      go_wp2
      · go_round
        case rel => exact ⟨_, rfl, by rw [trim_cut h1 (by assumption)]; exact HT.out, by rw [size_cut h1, ← ls_size]; omega⟩
        case measure => simp only [lenOf, size_cut h1]; omega
      · go_ret
        exact ⟨ret_st (by rw [← HT.out, trim_keep h1 (by assumption)]), rfl⟩

/-- The relation of a loop that makes a row byte by byte: behind k rounds the row is that of f. -/
def bRel (w : World) (n : Nat) (f : Nat → UInt8) (v i : Value) (wr : World) : Prop := ∃ k : Nat, k ≤ n ∧ i = .int .i64 k ∧ Own wr w.heap.size v (row k f) ∧ Keeps w wr
theorem bRel.next {w w2 : World} {n k : Nat} {f : Nat → UInt8} {v' : Value} {x : UInt8} (hk : k < n) (hx : f k = x) (ho : Own w2 w.heap.size v' (row k f ++ [x])) (hkp : Keeps w w2) :
    bRel w n f v' (.int .i64 ((k : Int) + 1)) w2 := by
  refine ⟨k + 1, by omega, by go_num, ?_, hkp⟩
  rw [row_succ, hx]; exact ho
theorem Keeps.over {w0 w w' : World} (h : Keeps w0 w) (k : Keeps w w') : Keeps w0 w' := h.trans k
def cRel (h : Nat → UInt8) (n : Nat) (x i : Value) : Prop := ∃ j : Nat, j ≤ n ∧ x = .int .u8 ((sm j h).toNat : Int) ∧ i = .int .i64 j
theorem cRel.next {h : Nat → UInt8} {n j : Nat} (hj : j < n) {y : UInt8} (hy : sm j h ^^^ h j = y) : cRel h n (.int .u8 (y.toNat : Int)) (.int .i64 ((j : Int) + 1)) :=
  ⟨j + 1, by omega, by rw [← hy]; rfl, by go_num⟩
set_option maxHeartbeats 3200000 in
theorem rpmul_any (w0 : World) (a b : ByteArray) (w : World) (ha : a.size ≤ 100000000) (hb : b.size ≤ 100000000) (hk : Keeps w0 w) :
    Calls Try.prog 28 #[.string a, .string b] w fun e w' => e = .returned (.string (st (pmul (ls a) (ls b)))) ∧ Keeps w0 w' := by
  have HK := Lib.hid hk
  clear hk
  generalize hN : a.size + b.size = N
  have hN0 : N ≤ 200000000 := by omega
  have HP := Lib.hid (show pmul (ls a) (ls b) = trim (row N (conv (cf (ls a)) (cf (ls b)))) by rw [← hN, ls_size, ls_size]; rfl)
  have HN := Lib.hid hN
  clear hN
  go_enter Try.func28, Try.ntmps28
  go_wp2
  go_loopw [5, 6] (fun v i wr => bRel w N (conv (cf (ls a)) (cf (ls b))) v i wr) (fun _ i _ => N - (intOf i).toNat)
  case atStart => exact ⟨0, by omega, rfl, Own.nil _ _, Keeps.refl w⟩
  case round =>
    obtain ⟨k, hk, rfl, hown, hkp⟩ := hrel
    have hsum : ((a.size : Int) + (b.size : Int)) = (N : Int) := by have := HN.out; omega
    by_cases hlt : k < N
    · have hlt2 : decide ((k : Int) < (a.size : Int) + (b.size : Int)) = true := by simp; omega
      have HSUM := Lib.hid hsum
      clear hsum
      generalize hx : conv (cf (ls a)) (cf (ls b)) k = x
      have HX := Lib.hid (show sm (k + 1) (fun i => fm (cf (ls a) i) (cf (ls b) (k - i))) = x from hx)
      have hrl : (row k (conv (cf (ls a)) (cf (ls b)))).length ≤ 1000000000 := by rw [row_length]; omega
      have HO := Lib.hid (fun v2 w2 => bRel.next (w := w) (w2 := w2) (n := N) (k := k) (f := conv (cf (ls a)) (cf (ls b))) (v' := v2) (x := x) hlt hx)
      clear hx
      generalize row k (conv (cf (ls a)) (cf (ls b))) = l at *
      have HOWN := Lib.hid hown
      clear hown
      go_wp2
      go_loop [7, 8] (fun x i => cRel (fun i => fm (cf (ls a) i) (cf (ls b) (k - i))) (k + 1) x i) (fun _ i => k + 1 - (intOf i).toNat)
      case atStart => exact ⟨0, by omega, rfl, rfl⟩
      case round =>
        obtain ⟨j, hj, rfl, rfl⟩ := hrel
        by_cases hjk : j < k + 1
        · generalize hy : sm j (fun i => fm (cf (ls a) i) (cf (ls b) (k - i))) ^^^ fm (cf (ls a) j) (cf (ls b) (k - j)) = y
          have HY := Lib.hid hy
          have HC := Lib.hid (cRel.next (h := fun i => fm (cf (ls a) i) (cf (ls b) (k - i))) hjk hy)
          clear hy
          generalize sm j (fun i => fm (cf (ls a) i) (cf (ls b) (k - i))) = s at *
          go_wp2_with fail
          refine (coef_any _ _ _ (by omega)).mono ?_
          rintro e wz ⟨rfl, rfl⟩
          rw [Int.toNat_natCast]
          go_wp2_with fail
          refine (coef_any _ _ _ (by omega)).mono ?_
          rintro e wz ⟨rfl, rfl⟩
          rw [show ((k : Int) - (j : Int)).toNat = k - j by omega]
          go_wp2_with fail
          refine (rmul8 _ _ _).mono ?_
          rintro e wz ⟨rfl, rfl⟩
          go_wp2_with fail
          refine (radd8 _ _ _).mono ?_
          rintro e wz ⟨rfl, rfl⟩
          rw [HY.out]
          go_wp2
          go_round
          case rel => exact HC.out
          case measure => simp [intOf]; omega
        · have HE := Lib.hid (show sm j (fun i => fm (cf (ls a) i) (cf (ls b) (k - i))) = x by rw [← HX.out, show j = k + 1 by omega])
          rw [HE.out]
          have hown := HOWN.out
          go_wp2_with (at_builtin; refine wp_push8 rfl _ _ rfl x hown rfl rfl hrl hkp ?_; intro v2 w2 hown2 hkp2)
          go_roundw
          case rel => exact HO.out _ _ hown2 hkp2
          case measure => simp [intOf]; omega
    · have HE := Lib.hid (show k = N by omega)
      have hlt2 : decide ((k : Int) < (a.size : Int) + (b.size : Int)) = false := by simp; omega
      have hcv := hown.text
      have hrl : (st (row k (conv (cf (ls a)) (cf (ls b))))).size ≤ 1000000000 := by rw [st_size, row_length]; omega
      have HL := Lib.hid (show trim (ls (st (row k (conv (cf (ls a)) (cf (ls b)))))) = pmul (ls a) (ls b) by rw [ls_st, HP.out, HE.out])
      generalize st (row k (conv (cf (ls a)) (cf (ls b)))) = q at *
      clear hlt hk hsum
      go_wp2_with fail
      refine (rtrim_any _ _ hrl).mono ?_
      rintro e wz ⟨rfl, rfl⟩
      rw [HL.out]
      go_wp2
      go_ret
      exact ⟨rfl, HK.out.over hkp⟩
end Go.Proofs.Ytdlcloenihkkgaa
