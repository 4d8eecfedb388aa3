/-
  What the document's At, Slope and Roots answer, for texts of up to a billion bytes; the memory that was there stays.
-/
import Derived.Test.YtachbccoehlcjaaPolyRef
namespace Go.Proofs.Ytachbccoehlcjaa
open Go.RowKit Gf

def aRel (p : List UInt8) (x : UInt8) (out power i : Value) : Prop := ∃ k : Nat, k ≤ p.length ∧ out = .int .u8 ((ev k (cf p) x).toNat : Int) ∧ power = .int .u8 ((fpow x k).toNat : Int) ∧ i = .int .i64 k
/-- A loop that counts from 1 on. -/
def b1Rel (w : World) (n : Nat) (f : Nat → UInt8) (v i : Value) (wr : World) : Prop := ∃ k : Nat, k ≤ n ∧ i = .int .i64 ((k : Int) + 1) ∧ Own wr w.heap.size v (row k f) ∧ Keeps w wr
theorem b1Rel.next {w w2 : World} {n k : Nat} {f : Nat → UInt8} {v' : Value} {x : UInt8} (hk : k < n) (hx : f k = x) (ho : Own w2 w.heap.size v' (row k f ++ [x])) (hkp : Keeps w w2) :
    b1Rel w n f v' (.int .i64 ((k : Int) + 1 + 1)) w2 := by
  refine ⟨k + 1, by omega, by go_num, ?_, hkp⟩
  rw [row_succ, hx]; exact ho
def sRel8 (c : UInt8) (n : Nat) (x i : Value) : Prop := ∃ j : Nat, j ≤ n ∧ x = .int .u8 ((sc j c).toNat : Int) ∧ i = .int .i64 j
theorem sc_succ (j : Nat) (c : UInt8) : sc j c ^^^ c = sc (j + 1) c := by rw [sc_add]; rfl
/-- string([]byte{c, 1}), in new memory. -/
theorem text2 (w : World) (c d : UInt8) :
    (convert 31 9 (.slice (some ⟨w.heap.size, 0, none⟩) 2 2)).run Try.prog (w.alloc (.cells #[.int .u8 (c.toNat : Int), .int .u8 (d.toNat : Int)] 5)) =
      .ok (.string (st [c, d])) (w.alloc (.cells #[.int .u8 (c.toNat : Int), .int .u8 (d.toNat : Int)] 5)) := by
  have e := run_convert_bytes_arg (P := Try.prog) (w.alloc (.cells #[.int .u8 (c.toNat : Int), .int .u8 (d.toNat : Int)] 5)) 31 5 Try.underlying31 Try.underlying5 w.heap.size 0 2 2 [(c.toNat : Int), (d.toNat : Int)] rfl (fun i hi => by
    rw [World.cell?_alloc_new, Nat.zero_add]
    have : i = 0 ∨ i = 1 := by omega
    rcases this with rfl | rfl <;> rfl) 9 Try.underlying9
  rw [e]
  congr 2
  simp [strOfNums, st]
theorem text1 (w : World) (c : UInt8) :
    (convert 31 9 (.slice (some ⟨w.heap.size, 0, none⟩) 1 1)).run Try.prog (w.alloc (.cells #[.int .u8 (c.toNat : Int)] 5)) =
      .ok (.string (st [c])) (w.alloc (.cells #[.int .u8 (c.toNat : Int)] 5)) := by
  have e := run_convert_bytes_arg (P := Try.prog) (w.alloc (.cells #[.int .u8 (c.toNat : Int)] 5)) 31 5 Try.underlying31 Try.underlying5 w.heap.size 0 1 1 [(c.toNat : Int)] rfl (fun i hi => by
    rw [World.cell?_alloc_new, Nat.zero_add]
    have : i = 0 := by omega
    subst this; rfl) 9 Try.underlying9
  rw [e]
  congr 2
  simp [strOfNums, st]
def oRel (w : World) (l : List UInt8) (p i : Value) (wr : World) : Prop := ∃ (k : Nat) (q : ByteArray), k ≤ l.length ∧ i = .int .i64 k ∧ p = .string q ∧ ls q = proots (l.take k) ∧ Keeps w wr
theorem proots_next {l : List UInt8} {k : Nat} (h : k < l.length) : proots (l.take (k + 1)) = pmul (proots (l.take k)) [cf l k, 1] := by
  rw [List.take_succ_eq_append_getElem h, proots, List.foldl_append, cf_lt h]; rfl
set_option maxHeartbeats 3200000 in
theorem rroots_any (w0 : World) (l : ByteArray) (w : World) (hl : l.size ≤ 10000000) (hk : Keeps w0 w) :
    Calls Try.prog 25 #[.string l] w fun e w' => e = .returned (.string (st (proots (ls l)))) ∧ Keeps w0 w' := by
  have HK := Lib.hid hk
  clear hk
  go_enter Try.func25, Try.ntmps25
  go_wp2
  go_loopw [3, 4] (fun p i wr => oRel w (ls l) p i wr) (fun _ i _ => l.size - (intOf i).toNat)
  case atStart => exact ⟨0, _, by omega, rfl, rfl, rfl, Keeps.refl w⟩
  case round =>
    obtain ⟨k, q, hk, rfl, rfl, hq, hkp⟩ := hrel
    rw [← ls_size] at hk
    have hqs : q.size ≤ 100000000 := by rw [ls_size, hq, proots_length, List.length_take, ← ls_size]; omega
    by_cases hlt : k < l.size
    · have hgt := ls_get l k hlt
      have HG := Lib.hid hgt
      clear hgt
      have HN := Lib.hid (show pmul (ls q) (ls (st [cf (ls l) k, 1])) = proots ((ls l).take (k + 1)) by rw [ls_st, hq, proots_next (by rw [← ls_size]; exact hlt)])
      clear hq
      generalize hs : st [cf (ls l) k, 1] = s at *
      have hcv : (convert 31 9 (.slice (some ⟨wr.heap.size, 0, none⟩) 2 2)).run Try.prog (wr.alloc (.cells #[.int .u8 (l[k].toNat : Int), .int .u8 1] 5)) =
          .ok (.string s) (wr.alloc (.cells #[.int .u8 (l[k].toNat : Int), .int .u8 1] 5)) := by
        rw [← hs, ← HG.out]; exact text2 wr l[k] 1
      have h2 : s.size ≤ 100000000 := by rw [← hs, st_size]; simp
      clear hs
      go_wp2_with fail
      refine (rpmul_any w _ _ _ hqs h2 (hkp.alloc _)).mono ?_
      rintro e w2 ⟨rfl, hkp2⟩
      rw [HN.out]
      go_wp2
      go_roundw
      case rel => exact ⟨k + 1, _, by rw [← ls_size]; omega, by go_num, rfl, ls_st _, hkp2⟩
      case measure => simp [intOf]; omega
    · have HQ := Lib.hid (show ls q = proots (ls l) by rw [hq, List.take_of_length_le (by rw [← ls_size]; omega)])
      clear hq
      go_wp2
      go_ret
      exact ⟨ret_st HQ.out, HK.out.over hkp⟩
end Go.Proofs.Ytachbccoehlcjaa
