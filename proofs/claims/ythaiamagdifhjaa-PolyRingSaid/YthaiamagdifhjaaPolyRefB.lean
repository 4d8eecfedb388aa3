/-
  What the document's At, Slope and Roots answer, for texts of up to a billion bytes; the memory that was there stays.
-/
import Derived.Test.YthaiamagdifhjaaPolyRef
namespace Go.Proofs.Ythaiamagdifhjaa
open Go.RowKit Gf

def aRel (p : List UInt8) (x : UInt8) (out power i : Value) : Prop := ∃ k : Nat, k ≤ p.length ∧ out = .int .u8 ((ev k (cf p) x).toNat : Int) ∧ power = .int .u8 ((fpow x k).toNat : Int) ∧ i = .int .i64 k
set_option maxHeartbeats 1600000 in
theorem rat_any (p : ByteArray) (x : UInt8) (w : World) (hp : p.size ≤ 1000000000) :
    Calls Try.prog 20 #[.string p, .int .u8 (x.toNat : Int)] w fun e w' => e = .returned (.int .u8 ((pat (ls p) x).toNat : Int)) ∧ w = w' := by
  have HP := Lib.hid (show pat (ls p) x = ev p.size (cf (ls p)) x by rw [ls_size]; rfl)
  go_enter Try.func20, Try.ntmps20
  go_wp2
  go_loop [5, 6, 7] (fun o q i => aRel (ls p) x o q i) (fun _ _ i => p.size - (intOf i).toNat)
  case atStart => exact ⟨0, by omega, rfl, rfl, rfl⟩
  case round =>
    obtain ⟨k, hk, rfl, rfl, rfl⟩ := hrel
    rw [← ls_size] at hk
    by_cases hlt : k < p.size
    · have hgt := ls_get p k hlt
      have HG := Lib.hid hgt
      clear hgt
      have HN := Lib.hid (show ev k (cf (ls p)) x ^^^ fm (cf (ls p) k) (fpow x k) = ev (k + 1) (cf (ls p)) x from rfl)
      have HQ := Lib.hid (show fm (fpow x k) x = fpow x (k + 1) from rfl)
      generalize ev k (cf (ls p)) x = s at *
      generalize fpow x k = q at *
      go_wp2_with fail
      rw [HG.out]
      refine (rmul8 _ _ _).mono ?_
      rintro e wz ⟨rfl, rfl⟩
      go_wp2_with fail
      refine (radd8 _ _ _).mono ?_
      rintro e wz ⟨rfl, rfl⟩
      rw [HN.out]
      generalize hs2 : ev (k + 1) (cf (ls p)) x = s2 at *
      have HS2 := Lib.hid hs2
      clear hs2
      go_wp2_with fail
      refine (rmul8 _ _ _).mono ?_
      rintro e wz ⟨rfl, rfl⟩
      rw [HQ.out]
      go_wp2
      go_round
      case rel => exact ⟨k + 1, by rw [← ls_size]; omega, by rw [HS2.out], rfl, by go_num⟩
      case measure => simp [intOf]; omega
    · have HE := Lib.hid (show k = p.size by omega)
      go_wp2
      go_ret
      rw [HP.out, ← HE.out]
      exact ⟨rfl, rfl⟩

/-- A loop that counts from 1 on. -/
def b1Rel (w : World) (n : Nat) (f : Nat → UInt8) (v i : Value) (wr : World) : Prop := ∃ k : Nat, k ≤ n ∧ i = .int .i64 ((k : Int) + 1) ∧ Own wr w.heap.size v (row k f) ∧ Keeps w wr
theorem b1Rel.next {w w2 : World} {n k : Nat} {f : Nat → UInt8} {v' : Value} {x : UInt8} (hk : k < n) (hx : f k = x) (ho : Own w2 w.heap.size v' (row k f ++ [x])) (hkp : Keeps w w2) :
    b1Rel w n f v' (.int .i64 ((k : Int) + 1 + 1)) w2 := by
  refine ⟨k + 1, by omega, by go_num, ?_, hkp⟩
  rw [row_succ, hx]; exact ho
def sRel8 (c : UInt8) (n : Nat) (x i : Value) : Prop := ∃ j : Nat, j ≤ n ∧ x = .int .u8 ((sc j c).toNat : Int) ∧ i = .int .i64 j
theorem sc_succ (j : Nat) (c : UInt8) : sc j c ^^^ c = sc (j + 1) c := by rw [sc_add]; rfl
set_option maxHeartbeats 3200000 in
theorem rslope_any (w0 : World) (p : ByteArray) (w : World) (hp : p.size ≤ 100000000) (hk : Keeps w0 w) :
    Calls Try.prog 22 #[.string p] w fun e w' => e = .returned (.string (st (pslope (ls p)))) ∧ Keeps w0 w' := by
  have HK := Lib.hid hk
  clear hk
  have HP := Lib.hid (show pslope (ls p) = trim (row (p.size - 1) (slope (cf (ls p)))) by rw [ls_size]; rfl)
  go_enter Try.func22, Try.ntmps22
  go_wp2
  go_loopw [3, 4] (fun v i wr => b1Rel w (p.size - 1) (slope (cf (ls p))) v i wr) (fun _ i _ => p.size - (intOf i).toNat)
  case atStart => exact ⟨0, by omega, rfl, Own.nil _ _, Keeps.refl w⟩
  case round =>
    obtain ⟨k, hk, rfl, hown, hkp⟩ := hrel
    by_cases hlt : k + 1 < p.size
    · have hlt2 : decide ((k : Int) + 1 < (p.size : Int)) = true := by simp; omega
      have hgt := ls_get p (k + 1) hlt
      have HG := Lib.hid hgt
      clear hgt
      generalize hx : slope (cf (ls p)) k = x
      have HX := Lib.hid (show sc (k + 1) (cf (ls p) (k + 1)) = x from hx)
      have hrl : (row k (slope (cf (ls p)))).length ≤ 1000000000 := by rw [row_length]; omega
      have HO := Lib.hid (fun v2 w2 => b1Rel.next (w := w) (w2 := w2) (n := p.size - 1) (k := k) (f := slope (cf (ls p))) (v' := v2) (x := x) (by omega) hx)
      clear hx
      generalize row k (slope (cf (ls p))) = l at *
      have HOWN := Lib.hid hown
      clear hown
      generalize cf (ls p) (k + 1) = c at *
      go_wp2
      go_loop [5, 6] (fun x i => sRel8 c (k + 1) x i) (fun _ i => k + 1 - (intOf i).toNat)
      case atStart => exact ⟨0, by omega, rfl, rfl⟩
      case round =>
        obtain ⟨j, hj, rfl, rfl⟩ := hrel
        by_cases hjk : j < k + 1
        · have HS := Lib.hid (sc_succ j c)
          generalize sc j c = s at *
          go_wp2_with fail
          rw [HG.out]
          refine (radd8 _ _ _).mono ?_
          rintro e wz ⟨rfl, rfl⟩
          rw [HS.out]
          go_wp2
          go_round
          case rel => exact ⟨j + 1, by omega, rfl, by go_num⟩
          case measure => simp [intOf]; omega
        · have HE := Lib.hid (show sc j c = x by rw [← HX.out, show j = k + 1 by omega])
          rw [HE.out]
          have hown := HOWN.out
          go_wp2_with (at_builtin; refine wp_push8 rfl _ _ rfl x hown rfl rfl hrl hkp ?_; intro v2 w2 hown2 hkp2)
          go_roundw
          case rel => exact HO.out _ _ hown2 hkp2
          case measure => simp [intOf]; omega
    · have HE := Lib.hid (show k = p.size - 1 by omega)
      have hlt2 : decide ((k : Int) + 1 < (p.size : Int)) = false := by simp; omega
      have hcv := hown.text
      have hrl : (st (row k (slope (cf (ls p))))).size ≤ 1000000000 := by rw [st_size, row_length]; omega
      have HL := Lib.hid (show trim (ls (st (row k (slope (cf (ls p)))))) = pslope (ls p) by rw [ls_st, HP.out, HE.out])
      generalize st (row k (slope (cf (ls p)))) = q at *
      clear hlt
      go_wp2_with fail
      refine (rtrim_any _ _ hrl).mono ?_
      rintro e wz ⟨rfl, rfl⟩
      rw [HL.out]
      go_wp2
      go_ret
      exact ⟨rfl, HK.out.over hkp⟩

/-- string([]byte{c, 1}), in new memory. -/
theorem text2 (w : World) (c d : UInt8) :
    (convert 35 9 (.slice (some ⟨w.heap.size, 0, none⟩) 2 2)).run Try.prog (w.alloc (.cells #[.int .u8 (c.toNat : Int), .int .u8 (d.toNat : Int)] 5)) =
      .ok (.string (st [c, d])) (w.alloc (.cells #[.int .u8 (c.toNat : Int), .int .u8 (d.toNat : Int)] 5)) := by
  have e := run_convert_bytes_arg (P := Try.prog) (w.alloc (.cells #[.int .u8 (c.toNat : Int), .int .u8 (d.toNat : Int)] 5)) 35 5 Try.underlying35 Try.underlying5 w.heap.size 0 2 2 [(c.toNat : Int), (d.toNat : Int)] rfl (fun i hi => by
    rw [World.cell?_alloc_new, Nat.zero_add]
    have : i = 0 ∨ i = 1 := by omega
    rcases this with rfl | rfl <;> rfl) 9 Try.underlying9
  rw [e]
  congr 2
  simp [strOfNums, st]
theorem text1 (w : World) (c : UInt8) :
    (convert 35 9 (.slice (some ⟨w.heap.size, 0, none⟩) 1 1)).run Try.prog (w.alloc (.cells #[.int .u8 (c.toNat : Int)] 5)) =
      .ok (.string (st [c])) (w.alloc (.cells #[.int .u8 (c.toNat : Int)] 5)) := by
  have e := run_convert_bytes_arg (P := Try.prog) (w.alloc (.cells #[.int .u8 (c.toNat : Int)] 5)) 35 5 Try.underlying35 Try.underlying5 w.heap.size 0 1 1 [(c.toNat : Int)] rfl (fun i hi => by
    rw [World.cell?_alloc_new, Nat.zero_add]
    have : i = 0 := by omega
    subst this; rfl) 9 Try.underlying9
  rw [e]
  congr 2
  simp [strOfNums, st]
def oRel (w : World) (l : List UInt8) (p i : Value) (wr : World) : Prop := ∃ (k : Nat) (q : ByteArray), k ≤ l.length ∧ i = .int .i64 k ∧ p = .string q ∧ ls q = proots (l.take k) ∧ Keeps w wr
theorem proots_next {l : List UInt8} {k : Nat} (h : k < l.length) : proots (l.take (k + 1)) = pmul (proots (l.take k)) [cf l k, 1] := by
  rw [List.take_succ_eq_append_getElem h, proots, List.foldl_append, cf_lt h]; rfl
set_option maxHeartbeats 3200000 in
theorem rroots_any (w0 : World) (l : ByteArray) (w : World) (hl : l.size ≤ 10000000) (hk : Keeps w0 w) :
    Calls Try.prog 24 #[.string l] w fun e w' => e = .returned (.string (st (proots (ls l)))) ∧ Keeps w0 w' := by
  have HK := Lib.hid hk
  clear hk
  go_enter Try.func24, Try.ntmps24
  go_wp2
  go_loopw [3, 4] (fun p i wr => oRel w (ls l) p i wr) (fun _ i _ => l.size - (intOf i).toNat)
  case atStart => exact ⟨0, _, by omega, rfl, rfl, rfl, Keeps.refl w⟩
  case round =>
    obtain ⟨k, q, hk, rfl, rfl, hq, hkp⟩ := hrel
    rw [← ls_size] at hk
    have hqs : q.size ≤ 100000000 := by rw [ls_size, hq, proots_length, List.length_take, ← ls_size]; omega
    by_cases hlt : k < l.size
    · have hgt := ls_get l k hlt
      have HG := Lib.hid hgt
      clear hgt
      have HN := Lib.hid (show pmul (ls q) (ls (st [cf (ls l) k, 1])) = proots ((ls l).take (k + 1)) by rw [ls_st, hq, proots_next (by rw [← ls_size]; exact hlt)])
      clear hq
      generalize hs : st [cf (ls l) k, 1] = s at *
      have hcv : (convert 35 9 (.slice (some ⟨wr.heap.size, 0, none⟩) 2 2)).run Try.prog (wr.alloc (.cells #[.int .u8 (l[k].toNat : Int), .int .u8 1] 5)) =
          .ok (.string s) (wr.alloc (.cells #[.int .u8 (l[k].toNat : Int), .int .u8 1] 5)) := by
        rw [← hs, ← HG.out]; exact text2 wr l[k] 1
      have h2 : s.size ≤ 100000000 := by rw [← hs, st_size]; simp
      clear hs
      go_wp2_with fail
      refine (rpmul_any w _ _ _ hqs h2 (hkp.alloc _)).mono ?_
      rintro e w2 ⟨rfl, hkp2⟩
      rw [HN.out]
      go_wp2
      go_roundw
      case rel => exact ⟨k + 1, _, by rw [← ls_size]; omega, by go_num, rfl, ls_st _, hkp2⟩
      case measure => simp [intOf]; omega
    · have HQ := Lib.hid (show ls q = proots (ls l) by rw [hq, List.take_of_length_le (by rw [← ls_size]; omega)])
      clear hq
      go_wp2
      go_ret
      exact ⟨ret_st HQ.out, HK.out.over hkp⟩
end Go.Proofs.Ythaiamagdifhjaa
