/-
  What Mul and Slope of package poly answer: for texts of up to a hundred thousand bytes; the memory that was there stays.
-/
import Derived.Test.YtdlcloenihkkgaaPolyImpD
namespace Go.Proofs.Ytdlcloenihkkgaa
open Go.RowKit Go.Shelf Gf
set_option maxRecDepth 100000

/-- What lies there behind n rounds of Mul. -/
def mulRow (N : Nat) (a b : List UInt8) (n : Nat) : List UInt8 := row N (fun i => sm n (fun m => if m ≤ i then fm (cf a m) (cf b (i - m)) else 0))
theorem mulRow_length (N : Nat) (a b : List UInt8) (n : Nat) : (mulRow N a b n).length = N := row_length _ _
theorem mulRow_zero (N : Nat) (a b : List UInt8) : mulRow N a b 0 = z8 N := by
  have hz : (z8 N).length = N := List.length_replicate
  refine list_ext_cf (by rw [mulRow_length, hz]) fun i hi => ?_
  rw [mulRow_length] at hi
  rw [mulRow, cf_row, if_pos hi, cf_lt (by rw [hz]; exact hi)]
  unfold z8; rw [List.getElem_replicate]; rfl
theorem mulRow_succ {N : Nat} {a b : List UInt8} {n k : Nat} (hk : k = b.length) : atRow (mulRow N a b n) n (cf a n) b k = mulRow N a b (n + 1) := by
  refine list_ext_cf (by rw [atRow_length, mulRow_length, mulRow_length]) fun i hi => ?_
  rw [atRow_length, mulRow_length] at hi
  rw [cf_atRow (by rw [mulRow_length]; exact hi), mulRow, cf_row, if_pos hi, mulRow, cf_row, if_pos hi]
  show _ = sm n _ ^^^ (if n ≤ i then fm (cf a n) (cf b (i - n)) else 0)
  congr 1
  by_cases h : n ≤ i
  · rw [if_pos h]
    by_cases h2 : i < n + k
    · rw [if_pos ⟨h, h2⟩]
    · rw [if_neg (by omega), cf_big (p := b) (by omega), fm_zero]
  · rw [if_neg (by omega), if_neg h]
theorem mulRow_full (a b : List UInt8) : trim (mulRow (a.length + b.length) a b a.length) = pmul a b := by
  have : mulRow (a.length + b.length) a b a.length = row (a.length + b.length) (conv (cf a) (cf b)) := by
    refine list_ext_cf (by rw [mulRow_length, row_length]) fun i hi => ?_
    rw [mulRow_length] at hi
    rw [mulRow, cf_row, if_pos hi, cf_row, if_pos hi]
    generalize hM : max a.length (i + 1) = M
    rw [← sm_more (n := a.length) (m := M) (by omega) (fun m h _ => by by_cases e : m ≤ i <;> simp [e, cf_big h, zero_fm]), conv]
    rw [sm_congr (f := fun m => fm (cf a m) (cf b (i - m))) (g := fun m => if m ≤ i then fm (cf a m) (cf b (i - m)) else 0) (fun m hm => by rw [if_pos (by omega)])]
    exact sm_more (n := i + 1) (m := M) (by omega) (fun m h _ => by rw [if_neg (by omega)])
  rw [this]; rfl
def mulRel (b : Nat) (N : Nat) (x y : List UInt8) (w : World) (i : Value) (wr : World) : Prop :=
  ∃ k : Nat, k ≤ x.length ∧ i = .int .i64 (k : Int) ∧ Blk b (mulRow N x y k) wr ∧ Only b w wr
set_option maxRecDepth 100000 in
set_option maxHeartbeats 4000000 in
theorem pmul_big (w0 : World) (x y : ByteArray) (w : World) (hx : x.size ≤ 200000) (hy : y.size ≤ 200000) (hk : Keeps w0 w) :
    Calls Try.prog 53 #[.string x, .string y] w fun e w' => e = .returned (.string (st (pmul (ls x) (ls y)))) ∧ Keeps w0 w' := by
  have HK := Lib.hid hk
  clear hk
  generalize hN : x.size + y.size = N
  have hN1 : N ≤ 400000 := by omega
  have hS : (x.size : Int) + (y.size : Int) = (N : Int) := by omega
  have HP := Lib.hid (show trim (mulRow N (ls x) (ls y) x.size) = pmul (ls x) (ls y) by rw [← hN, ls_size, ls_size]; exact mulRow_full _ _)
  have HN := Lib.hid hN
  have hmk : ∀ W : World, _ := make8 N (by omega)
  clear hN
  go_enter Try.func53, Try.ntmps53
  go_wp2_with fail
  refine (new_any w).mono ?_
  rintro e w1 ⟨rfl, hf, hbel⟩
  have HKw := Lib.hid (Keeps.alloc (HK.out.trans hbel) (.cells (zr N) 5))
  have hsz : w.heap.size < w1.heap.size := hf.old
  have hle0 := Below.size HK.out
  have HF := Lib.hid (hf.below hf.old ((Below.refl _ w1).alloc (Nat.le_refl _) (.cells (zr N) 5)))
  have HB := Lib.hid (Blk.make w1 N)
  clear hf hbel
  generalize hfb : w.heap.size = fb at *
  have HFB := Lib.hid hfb
  clear hfb
  go_wp2
  generalize hw2 : w1.alloc (.cells (zr N) 5) = w2 at *
  generalize hb : w1.heap.size = b at *
  have HWB := Lib.hid (And.intro hw2 hb)
  clear hw2 hb hmk
  go_loopw [17] (fun i wr => mulRel b N (ls x) (ls y) w2 i wr) (fun i _ => x.size - (intOf i).toNat)
  case atStart => exact ⟨0, by omega, rfl, by rw [mulRow_zero]; exact HB.out, Only.refl _ _⟩
  case round =>
    obtain ⟨k, hk, rfl, hblk, hon⟩ := hrel
    rw [← ls_size] at hk
    have hne : fb ≠ b := by omega
    by_cases hlt : k < x.size
    · have hgt := ls_get x k hlt
      have hxy : x.size ≤ N := by have := HN.out; omega
      have hky : k + y.size ≤ N := by have := HN.out; omega
      have hcall : ∀ W, Eqv wr W → Calls Try.prog 73 #[.pointer (some ⟨fb, 0, none⟩), .slice (some ⟨b, k, none⟩) (N - k) (N - k), .int .u8 ((cf (ls x) k).toNat : Int), .string y] W fun e w' =>
          e = .returned (.tuple #[]) ∧ Blk b (mulRow N (ls x) (ls y) (k + 1)) w' ∧ Only b wr w' := fun W he => by
        have h := addTimes_any fb b k (N - k) (cf (ls x) k) y (mulRow N (ls x) (ls y) k) W ((HF.out.only hne hon).only hne (Only.eqv he)) (hblk.eqv he) hne (by rw [mulRow_length]; exact hky) (by rw [mulRow_length]; omega)
        rw [mulRow_length, mulRow_succ (ls_size y)] at h
        exact h.mono fun e w' ⟨h1, h2, h3⟩ => ⟨h1, h2, (Only.eqv he).trans h3⟩
      have HC := Lib.hid hcall
      clear hcall
      generalize cf (ls x) k = c at *
      have kI : (k : Int) ≤ (N : Int) := by omega
      have kP : (k : Int) < (x.size : Int) := by omega
      have hkN : k < N := by omega
      go_wp2
      refine wp_draw (by kernel_rfl)
        [.pointer (some ⟨fb, 0, none⟩), .slice (some ⟨b, 0, none⟩) N N, .int .i64 (k : Int), .slice (some ⟨b, k, none⟩) (N - k) (N - k), .string x, .int .i64 (k : Int), .int .u8 (c.toNat : Int), .string y, .tuple #[]]
        (Once 8 (Eqv wr) (fun w' => Blk b (mulRow N (ls x) (ls y) (k + 1)) w' ∧ Only b wr w'))
        rfl (by kernel_rfl) (fin := ?fin) ?hfin (Once.start (Eqv.drew wr)) ?each ?hend
      case hfin => simp [seqA, dstOf, Act.put]; rfl
      case each =>
        refine ⟨?_, ?_, ?_, ?_, ?_, ?_, ?_, ?_, ?_, trivial⟩
        all_goals intro L w3 h0 hd hs hw
        all_goals unfold Does
        all_goals try simp only [Nat.zero_add, Nat.reduceAdd] at h0
        · go_simp; exact fun L' k => hw.same (by decide) k
        · go_simp; exact fun L' k => hw.same (by decide) k
        · go_simp; exact fun L' k => hw.same (by decide) k
        · go_simp
          exact ⟨(fun e => by omega), fun L' k => hw.same (by decide) k⟩
        · go_simp; exact fun L' k => hw.same (by decide) k
        · go_simp; exact fun L' k => hw.same (by decide) k
        · go_simp; exact fun L' k => hw.same (by decide) k
        · go_simp; exact fun L' k => hw.same (by decide) k
        · go_simp
          refine (HC.out w3 (hw.1 h0)).mono ?_
          rintro e w4 ⟨rfl, h2, h3⟩
          exact ⟨_, rfl, rfl, fun L' k => Once.done k ⟨h2, h3⟩⟩
      case hend =>
        intro L w3 hL hw
        have hC := hw.2 (hL 8 (by simp))
        clear hw hL
        go_wp2
        go_roundw
        case rel => exact ⟨k + 1, by rw [← ls_size]; omega, by go_num, hC.1, hon.trans hC.2⟩
        case measure => simp [intOf]; omega
    · have hjl : (x.size : Int) ≤ (k : Int) := by omega
      have HE := Lib.hid (show k = x.size by omega)
      have hcv := hblk.whole N (n := N) (mulRow_length _ _ _ _).symm
      have hq : (st (mulRow N (ls x) (ls y) k)).size ≤ 1000000 := by rw [st_size, mulRow_length]; omega
      have HL := Lib.hid (show trim (ls (st (mulRow N (ls x) (ls y) k))) = pmul (ls x) (ls y) by rw [ls_st, HE.out, HP.out])
      have HKk := Lib.hid (hon.keeps (w0 := w0) (HWB.out.1 ▸ HKw.out) (by omega))
      generalize st (mulRow N (ls x) (ls y) k) = q at *
      go_wp2_with fail
      refine (ptrim_big w0 _ _ hq HKk.out).mono ?_
      rintro e wz ⟨rfl, hkz⟩
      rw [HL.out]
      go_wp2
      go_ret
      exact ⟨rfl, hkz⟩
/-- What lies there behind m rounds of Slope. -/
def slRow (p : List UInt8) (m : Nat) : List UInt8 := row p.length (fun i => if i < 2 * m then slope (cf p) i else 0)
theorem slRow_length (p : List UInt8) (m : Nat) : (slRow p m).length = p.length := row_length _ _
theorem slRow_zero (p : List UInt8) : slRow p 0 = z8 p.length := by
  have hz : (z8 p.length).length = p.length := List.length_replicate
  refine list_ext_cf (by rw [slRow_length, hz]) fun i hi => ?_
  rw [slRow_length] at hi
  rw [slRow, cf_row, if_pos hi, if_neg (by omega), cf_lt (by rw [hz]; exact hi)]
  unfold z8; rw [List.getElem_replicate]
theorem slRow_succ {p : List UInt8} {m : Nat} (h : 1 + 2 * m < p.length) : (slRow p m).set (2 * m) (cf p (1 + 2 * m)) = slRow p (m + 1) := by
  refine list_ext_cf (by rw [List.length_set, slRow_length, slRow_length]) fun i hi => ?_
  rw [List.length_set, slRow_length] at hi
  rw [cf_set _ _ _ (by rw [slRow_length]; omega), slRow, cf_row, if_pos hi, slRow, cf_row, if_pos hi]
  by_cases e : i = 2 * m
  · subst e
    rw [if_pos rfl, if_pos (by omega), slope, sc, if_pos (by omega), Nat.add_comm]
  · rw [if_neg e]
    by_cases e2 : i < 2 * m
    · rw [if_pos e2, if_pos (by omega)]
    · rw [if_neg e2]
      by_cases e3 : i < 2 * (m + 1)
      · rw [if_pos e3, slope, sc, if_neg (by omega)]
      · rw [if_neg e3]
theorem slRow_full {p : List UInt8} {m : Nat} (h : p.length ≤ 1 + 2 * m) : trim (slRow p m) = pslope p := by
  refine (trim_ext fun i => ?_).trans (pslope_trim p)
  rw [cf_pslope, slRow, cf_row]
  by_cases e : i < p.length
  · rw [if_pos e]
    by_cases e2 : i < 2 * m
    · rw [if_pos e2]
    · rw [if_neg e2, slope, cf_big (by omega)]; unfold sc; split <;> rfl
  · rw [if_neg e, slope, cf_big (by omega)]; unfold sc; split <;> rfl
def slRel (b : Nat) (p : List UInt8) (w : World) (i : Value) (wr : World) : Prop :=
  ∃ m : Nat, 2 * m ≤ p.length ∧ i = .int .i64 (1 + 2 * (m : Int)) ∧ Blk b (slRow p m) wr ∧ Only b w wr
set_option maxRecDepth 100000 in
set_option maxHeartbeats 4000000 in
theorem pslope_big (w0 : World) (p : ByteArray) (w : World) (hp : p.size ≤ 1000000) (hk : Keeps w0 w) :
    Calls Try.prog 57 #[.string p] w fun e w' => e = .returned (.string (st (pslope (ls p)))) ∧ Keeps w0 w' := by
  have HK := Lib.hid hk
  have hle0 := Below.size hk
  clear hk
  have hmk := make8 p.size (by omega) w
  have HKw := Lib.hid (HK.out.alloc (.cells (zr p.size) 5))
  have HB := Lib.hid (Blk.make w p.size)
  go_enter Try.func57, Try.ntmps57
  go_wp2
  generalize hw2 : w.alloc (.cells (zr p.size) 5) = w2 at *
  generalize hb : w.heap.size = b at *
  clear hmk
  go_loopw [4] (fun i wr => slRel b (ls p) w2 i wr) (fun i _ => p.size + 2 - (intOf i).toNat)
  case atStart => exact ⟨0, by omega, rfl, by rw [slRow_zero, ← ls_size]; exact HB.out, Only.refl _ _⟩
  case round =>
    obtain ⟨m, hm, rfl, hblk, hon⟩ := hrel
    rw [← ls_size] at hm
    by_cases hlt : 1 + 2 * m < p.size
    · have hgt := ls_get p (1 + 2 * m) hlt
      have hr1 : 2 * m < (slRow (ls p) m).length := by rw [slRow_length, ← ls_size]; omega
      have hc0 := hblk.cell (2 * m) hr1
      have hz0 := hblk.free (2 * m) hr1
      have HN := Lib.hid (slRow_succ (p := ls p) (m := m) (by rw [← ls_size]; omega))
      generalize cf (ls p) (1 + 2 * m) = c at *
      generalize hkk : 2 * m = k at *
      have hmk : 2 * (m : Int) = (k : Int) := by omega
      have e1 : (1 + (k : Int)) = ((1 + k : Nat) : Int) := by omega
      have HMK := Lib.hid hmk
      have HKK := Lib.hid hkk
      have HE1 := Lib.hid e1
      rw [hmk]
      clear hmk hkk e1
      have kI : (1 + (k : Int)) < (p.size : Int) := by omega
      go_wp2
      have hkk := HKK.out
      refine ⟨⟨m + 1, by rw [← ls_size]; omega, by congr 1; omega, ?_, ?_⟩, by simp [intOf]; omega⟩
      · rw [← HN.out]; exact hblk.set hr1 c
      · exact hon.trans (Only.setCell wr ⟨b, k, none⟩ _)
    · have HE := Lib.hid (show (ls p).length ≤ 1 + 2 * m by rw [← ls_size]; omega)
      have hjl : (p.size : Int) ≤ 1 + 2 * (m : Int) := by omega
      have hcv := hblk.whole p.size (n := p.size) (by rw [slRow_length, ← ls_size])
      have hq : (st (slRow (ls p) m)).size ≤ 1000000 := by rw [st_size, slRow_length, ← ls_size]; omega
      have HL := Lib.hid (show trim (ls (st (slRow (ls p) m))) = pslope (ls p) by rw [ls_st, slRow_full HE.out])
      have HKk := Lib.hid (hon.keeps (w0 := w0) HKw.out (by omega))
      generalize st (slRow (ls p) m) = q at *
      go_wp2_with fail
      refine (ptrim_big w0 _ _ hq HKk.out).mono ?_
      rintro e wz ⟨rfl, hkz⟩
      rw [HL.out]
      go_wp2
      go_ret
      exact ⟨rfl, hkz⟩
end Go.Proofs.Ytdlcloenihkkgaa
