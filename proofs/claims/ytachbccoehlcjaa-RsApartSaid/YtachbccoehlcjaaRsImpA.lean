/-
  What strings.Repeat and slices.Reverse (over bytes) answer: so many copies of a text; the bytes of a row, back to front. The memory that was there stays, but for that row.
-/
import Derived.Shelf.Strings.Repeat
import Derived.Shelf.SlicesE.Reverse
import Derived.Test.YtachbccoehlcjaaPolyImp
import Derived.Test.YtachbccoehlcjaaRsIs
namespace Go.Proofs.Ytachbccoehlcjaa
open Go.RowKit Go.Shelf Gf
def renRep : Ren where
  f := fun n => if n = 99 then 35 else if n = 105 then 21 else if n = 165 then 36 else if n = 166 then 37 else if n = 169 then 39 else if n = 170 then 38 else if n = 206 then 50 else if n = 212 then 34 else if n = 240 then 51 else if n = 241 then 52 else if n = 263 then 48 else if n = 264 then 49 else if n = 276 then 57 else if n = 277 then 58 else 0
  t := fun n => if n = 0 then 0 else if n = 3 then 3 else if n = 4 then 4 else if n = 5 then 5 else if n = 9 then 9 else if n = 20 then 20 else if n = 37 then 31 else if n = 46 then 45 else if n = 51 then 69 else if n = 53 then 72 else if n = 70 then 48 else if n = 72 then 50 else if n = 75 then 53 else if n = 76 then 54 else if n = 80 then 28 else if n = 109 then 46 else if n = 127 then 75 else if n = 146 then 70 else if n = 148 then 73 else if n = 164 then 79 else 0
  g := fun _ => 0
theorem laysRep : Lays.n105 Try.prog renRep where
  mixed := by kernel_rfl
  f99 := by kernel_rfl
  f105 := by kernel_rfl
  f165 := by kernel_rfl
  f166 := by kernel_rfl
  f169 := by kernel_rfl
  f170 := by kernel_rfl
  f206 := by kernel_rfl
  f212 := by kernel_rfl
  f240 := by kernel_rfl
  f241 := by kernel_rfl
  f263 := by kernel_rfl
  f264 := by kernel_rfl
  f276 := by kernel_rfl
  f277 := by kernel_rfl
  t0 := by kernel_rfl
  a0 := fun w => by exact Try.isAgg0 w
  z0 := fun w => by exact Try.sizeOf0 w
  v0 := fun w => by exact Try.zeroValue0 w
  t3 := by kernel_rfl
  a3 := fun w => by exact Try.isAgg3 w
  z3 := fun w => by exact Try.sizeOf3 w
  v3 := fun w => by exact Try.zeroValue3 w
  t4 := by kernel_rfl
  a4 := fun w => by exact Try.isAgg4 w
  z4 := fun w => by exact Try.sizeOf4 w
  v4 := fun w => by exact Try.zeroValue4 w
  t5 := by kernel_rfl
  a5 := fun w => by exact Try.isAgg5 w
  z5 := fun w => by exact Try.sizeOf5 w
  v5 := fun w => by exact Try.zeroValue5 w
  t9 := by kernel_rfl
  a9 := fun w => by exact Try.isAgg9 w
  z9 := fun w => by exact Try.sizeOf9 w
  v9 := fun w => by exact Try.zeroValue9 w
  t20 := by kernel_rfl
  a20 := fun w => by exact Try.isAgg20 w
  z20 := fun w => by exact Try.sizeOf20 w
  v20 := fun w => by exact Try.zeroValue20 w
  t37 := by kernel_rfl
  a37 := fun w => by exact Try.isAgg31 w
  z37 := fun w => by exact Try.sizeOf31 w
  v37 := fun w => by exact Try.zeroValue31 w
  t46 := by kernel_rfl
  a46 := fun w => by exact Try.isAgg45 w
  z46 := fun w => by exact Try.sizeOf45 w
  v46 := fun w => by exact Try.zeroValue45 w
  t51 := by kernel_rfl
  a51 := fun w => by exact Try.isAgg69 w
  z51 := fun w => by exact Try.sizeOf69 w
  v51 := fun w => by exact Try.zeroValue69 w
  t53 := by kernel_rfl
  a53 := fun w => by exact Try.isAgg72 w
  z53 := fun w => by exact Try.sizeOf72 w
  v53 := fun w => by exact Try.zeroValue72 w
  t70 := by kernel_rfl
  a70 := fun w => by exact Try.isAgg48 w
  z70 := fun w => by exact Try.sizeOf48 w
  v70 := fun w => by exact Try.zeroValue48 w
  t72 := by kernel_rfl
  a72 := fun w => by exact Try.isAgg50 w
  z72 := fun w => by exact Try.sizeOf50 w
  v72 := fun w => by exact Try.zeroValue50 w
  t75 := by kernel_rfl
  a75 := fun w => by exact Try.isAgg53 w
  z75 := fun w => by exact Try.sizeOf53 w
  v75 := fun w => by exact Try.zeroValue53 w
  t76 := by kernel_rfl
  a76 := fun w => by exact Try.isAgg54 w
  z76 := fun w => by exact Try.sizeOf54 w
  v76 := fun w => by exact Try.zeroValue54 w
  t109 := by kernel_rfl
  a109 := fun w => by exact Try.isAgg46 w
  z109 := fun w => by exact Try.sizeOf46 w
  v109 := fun w => by exact Try.zeroValue46 w
  t127 := by kernel_rfl
  a127 := fun w => by exact Try.isAgg75 w
  z127 := fun w => by exact Try.sizeOf75 w
  v127 := fun w => by exact Try.zeroValue75 w
  t146 := by kernel_rfl
  a146 := fun w => by exact Try.isAgg70 w
  z146 := fun w => by exact Try.sizeOf70 w
  v146 := fun w => by exact Try.zeroValue70 w
  t148 := by kernel_rfl
  a148 := fun w => by exact Try.isAgg73 w
  z148 := fun w => by exact Try.sizeOf73 w
  v148 := fun w => by exact Try.zeroValue73 w
  t164 := by kernel_rfl
  a164 := fun w => by exact Try.isAgg79 w
  z164 := fun w => by exact Try.sizeOf79 w
  v164 := fun w => by exact Try.zeroValue79 w
theorem extraRep : Builder.Extra Try.prog renRep where
  sizeBuilder := by kernel_rfl
  liesBuilder := by kernel_rfl
  t5 := by kernel_rfl
  a5 := fun w => by exact Try.isAgg5 w
  z5 := fun w => by exact Try.sizeOf5 w
  v5 := fun w => by exact Try.zeroValue5 w
  infoByte := by kernel_rfl
  cellsByte := by kernel_rfl
  sizeByte := by kernel_rfl
  neB5 := by decide
def renRev : Ren where
  f := fun n => if n = 35 then 44 else 0
  t := fun n => if n = 0 then 0 else if n = 3 then 3 else if n = 4 then 4 else if n = 22 then 31 else if n = 23 then 5 else 0
  g := fun _ => 0
theorem laysRev : SlLaysE.n35 Try.prog renRev where
  mixed := by kernel_rfl
  f35 := Exists.intro "slices.Reverse[[]byte,byte]" ⟨by kernel_rfl, by kernel_rfl⟩
  t0 := by kernel_rfl
  a0 := fun w => by exact Try.isAgg0 w
  z0 := fun w => by exact Try.sizeOf0 w
  v0 := fun w => by exact Try.zeroValue0 w
  t3 := by kernel_rfl
  a3 := fun w => by exact Try.isAgg3 w
  z3 := fun w => by exact Try.sizeOf3 w
  v3 := fun w => by exact Try.zeroValue3 w
  t4 := by kernel_rfl
  a4 := fun w => by exact Try.isAgg4 w
  z4 := fun w => by exact Try.sizeOf4 w
  v4 := fun w => by exact Try.zeroValue4 w
  t22 := by kernel_rfl
  a22 := fun w => by exact Try.isAgg31 w
  z22 := fun w => by exact Try.sizeOf31 w
  v22 := fun w => by exact Try.zeroValue31 w
  a23 := fun w => by exact Try.isAgg5 w
  z23 := fun w => by exact Try.sizeOf5 w
theorem repeat_any (s : ByteArray) (c : Nat) (w : World) (hc : c ≤ 1000000000) (hs : s.size ≤ 1000) :
    Calls Try.prog 21 #[.string s, .int .i64 (c : Int)] w fun e w' => e = .returned (.string ⟨(Lib.repeatL s.data.toList c).toArray⟩) ∧ Below w.heap.size w w' :=
  Any.strings_Repeat laysRep extraRep s c w (by omega) (Nat.le_trans (Nat.mul_le_mul hs hc) (by omega))
def eB (x : UInt8) : Value := .int .u8 (x.toNat : Int)
theorem Blk.holds {b : Nat} {l : List UInt8} {w : World} (h : Blk b l w) : Sort.Holds eB w b 0 l.toArray := fun j hj => by
  have hj' : j < l.length := by simpa using hj
  rw [Nat.zero_add, h.cell j hj', getElem!_pos _ j hj, List.getElem_toArray, cf_lt hj']
  exact ⟨rfl, h.free j hj'⟩
theorem Blk.of_holds {b : Nat} {l : List UInt8} {w : World} (h : Sort.Holds eB w b 0 l.toArray) (hb : b < w.heap.size) : Blk b l w := by
  refine ⟨hb, fun i hi => ?_, fun i hi => ?_⟩
  · have := (h i (by simpa using hi)).1
    rw [Nat.zero_add, getElem!_pos _ i (by simpa using hi), List.getElem_toArray, ← cf_lt hi] at this
    exact this
  · have := (h i (by simpa using hi)).2
    rwa [Nat.zero_add] at this
theorem putRow_block (w : World) (b k : Nat) (d : Array UInt8) (hn : k ≠ b) : (Sort.putRow eB w b 0 d).heap[k]? = w.heap[k]? := by
  simp only [Sort.putRow, Sort.mapBlock, Array.getElem?_modify]
  rw [if_neg fun e => hn e.symm]
theorem reverse_any (b n cap : Nat) (l : List UInt8) (w : World) (hb : Blk b l w) (hn : n = l.length) (hl : l.length ≤ 1000000000) :
    Calls Try.prog 44 #[.slice (some ⟨b, 0, none⟩) n cap] w fun e w' => e = .returned (.tuple #[]) ∧ Blk b l.reverse w' ∧ Only b w w' := by
  subst hn
  refine (AnyE.slices_Reverse laysRev eB (fun _ => rfl) b 0 cap l w hb.holds (by omega)).mono ?_
  rintro e w' ⟨rfl, n, rfl⟩
  refine ⟨rfl, Blk.of_holds (Sort.holds_putRow eB _ b 0 l.toArray _ (Sort.holds_ahead eB w n b 0 _ hb.holds) (by simp)) (by simpa using hb.old), rfl, rfl, rfl, by simp, fun k _ hk => ?_⟩
  rw [putRow_block _ _ _ _ hk]; rfl
set_option maxHeartbeats 800000 in
theorem reversed_any (w0 : World) (s : ByteArray) (w : World) (hs : s.size ≤ 1000000) (hk : Keeps w0 w) :
    Calls Try.prog 26 #[.string s] w fun e w' => e = .returned (.string (st (ls s).reverse)) ∧ Keeps w0 w' := by
  have hcb : ∀ W : World, _ := fun W => Lib.run_convert_string_bytes (P := Try.prog) W 9 31 5 s Try.underlying9 Try.underlying31 Try.underlying5
  have HB := Lib.hid (Blk.bytes w s)
  have HK := Lib.hid (hk.trans (Lib.bytesWorld_below w 5 s))
  have HS := Lib.hid (Below.size hk)
  clear hk
  go_enter Try.func26, Try.ntmps26
  go_wp2_with fail
  refine (reverse_any _ _ _ (ls s) _ HB.out (ls_size s) (by rw [← ls_size]; omega)).mono ?_
  rintro e w1 ⟨rfl, hb, ho⟩
  have hcv := hb.whole (grownCap w s.size 0 5) (n := s.size) (by rw [List.length_reverse, ls_size])
  clear hcb
  go_wp2
  go_ret
  exact ⟨rfl, ho.keeps HK.out HS.out⟩
theorem ge_pw (n : Nat) : ge (n : Int) = ((pw n).toNat : Int) := by
  unfold ge; rw [pw_toNat]; congr 2
/-- The first k powers of 2, and bytes 0. -/
def pws (k : Nat) : List UInt8 := row 64 (fun n => if n < k then pw n else 0)
theorem pws_length (k : Nat) : (pws k).length = 64 := row_length _ _
theorem pws_zero : pws 0 = z8 64 := list_ext_cf (by rw [pws_length, z8_len]) fun i hi => by
  rw [pws_length] at hi
  rw [pws, cf_row, if_pos hi, if_neg (by omega), cf_z8]
theorem pws_set {k : Nat} (h : k < 64) : (pws k).set k (pw k) = pws (k + 1) := by
  refine list_ext_cf (by rw [List.length_set, pws_length, pws_length]) fun i hi => ?_
  rw [List.length_set, pws_length] at hi
  rw [cf_set _ _ _ (by rw [pws_length]; exact h), pws, pws, cf_row, cf_row, if_pos hi, if_pos hi]
  by_cases e : i = k
  · subst e; rw [if_pos rfl, if_pos (by omega)]
  · rw [if_neg e]
    by_cases e2 : i < k
    · rw [if_pos e2, if_pos (by omega)]
    · rw [if_neg e2, if_neg (by omega)]
theorem pws_all : pws 64 = row 64 pw := list_ext_cf (by rw [pws_length, row_length]) fun i hi => by
  rw [pws_length] at hi
  rw [pws, cf_row, cf_row, if_pos hi, if_pos hi]
def zeroRel (w : World) (b : Nat) (i : Value) (wr : World) : Prop := ∃ k : Nat, k ≤ 64 ∧ i = .int .i64 k ∧ Blk b (pws k) wr ∧ Only b w wr
set_option maxHeartbeats 1600000 in
theorem zeros_any (w0 : World) (w : World) (hk : Keeps w0 w) :
    Calls Try.prog 23 #[] w fun e w' => e = .returned (.string (st (row 64 pw))) ∧ Keeps w0 w' := by
  have hmk : ∀ W : World, (Instr.makeSlice 31 (.int .i64 64) (.int .i64 64)).run Try.prog W = .ok (.slice (some ⟨W.heap.size, 0, none⟩) 64 64) (W.alloc (.cells (zr 64) 5)) := fun W => make8 64 (by omega) W
  go_enter Try.func23, Try.ntmps23
  go_wp2_with fail
  refine (new_any w).mono ?_
  rintro e w1 ⟨rfl, hf, hbel⟩
  have hne : w.heap.size ≠ w1.heap.size := by have := hf.old; omega
  have HF := Lib.hid (hf.below hf.old ((Below.refl _ w1).alloc (Nat.le_refl _) (.cells (zr 64) 5)))
  have HK := Lib.hid ((hk.trans hbel).alloc (.cells (zr 64) 5))
  have HS := Lib.hid (Below.size (hk.trans hbel))
  have HB := Lib.hid (Blk.make w1 64)
  clear hk hf hbel
  obtain ⟨fb, hfb⟩ : ∃ fb, w.heap.size = fb := ⟨_, rfl⟩
  rw [hfb] at HF hne
  rw [hfb]
  go_wp2
  clear hmk
  obtain ⟨b, hb⟩ : ∃ b, w1.heap.size = b := ⟨_, rfl⟩
  obtain ⟨wm, hwm⟩ : ∃ wm, w1.alloc (.cells (zr 64) 5) = wm := ⟨_, rfl⟩
  rw [hb, hwm] at HB
  rw [hwm] at HF HK
  rw [hb] at HS hne
  rw [hb, hwm]
  clear hb hwm
  go_loopw [8] (fun i wr => zeroRel wm b i wr) (fun i _ => 64 - (intOf i).toNat)
  case atStart => exact ⟨0, by omega, rfl, by rw [pws_zero]; exact HB.out, Only.refl _ _⟩
  case round =>
    obtain ⟨k, hk, rfl, hblk, hon⟩ := hrel
    by_cases hlt : k < 64
    · have hl := pws_length k
      have hff := HF.out.only hne hon
      have hbo := hblk.old
      go_wp2_with fail
      refine (fexp_any fb _ wr hff).mono ?_
      rintro e w2 ⟨rfl, hb2⟩
      have hblk2 := hblk.below hb2
      have hc := hblk2.cell k (by omega)
      have hz := hblk2.free k (by omega)
      rw [ge_pw]
      go_wp2
      go_roundw
      case rel => exact ⟨k + 1, by omega, by go_num, by rw [← pws_set hlt]; exact hblk2.set (by omega) _, (hon.trans (Only.below hb2)).trans (Only.setCell w2 ⟨b, k, none⟩ _)⟩
      case measure => simp [intOf]; omega
    · have HE := Lib.hid (show k = 64 by omega)
      have hcv := hblk.whole 64 (n := 64) (pws_length k).symm
      rw [HE.out, pws_all] at hcv
      have hge : 64 ≤ (k : Int) := by omega
      go_wp2
      go_ret
      exact ⟨rfl, hon.keeps HK.out HS.out⟩
set_option maxHeartbeats 800000 in
theorem rsgen_any (w0 : World) (w : World) (hk : Keeps w0 w) :
    Calls Try.prog 14 #[] w fun e w' => e = .returned (.string (st gen)) ∧ Keeps w0 w' := by
  go_enter Try.func14, Try.ntmps14
  go_wp2_with fail
  refine (zeros_any w0 w hk).mono ?_
  rintro e w1 ⟨rfl, hk1⟩
  go_wp2_with fail
  refine (proots_big w0 _ w1 (by rw [st_size, row_length]; omega) hk1).mono ?_
  rintro e w2 ⟨rfl, hk2⟩
  rw [ls_st]
  go_wp2
  go_ret
  exact ⟨rfl, hk2⟩
theorem repeat_zero (c : Nat) : Lib.repeatL [0] c = z8 c := by
  induction c with
  | zero => rfl
  | succ c ih => unfold z8 at *; rw [List.replicate_succ, ← ih]; rfl
theorem repeat0 (c : Nat) (w : World) (hc : c ≤ 1000000) :
    Calls Try.prog 21 #[.string ⟨#[0]⟩, .int .i64 (c : Int)] w fun e w' => e = .returned (.string (st (z8 c))) ∧ Below w.heap.size w w' := by
  have h := repeat_any ⟨#[0]⟩ c w (by omega) (by decide)
  rw [show (⟨#[0]⟩ : ByteArray).data.toList = [0] from rfl, repeat_zero] at h
  exact h
/-- The first k values of a text, and bytes 0. -/
def vls (s : List UInt8) (k : Nat) : List UInt8 := row 64 (fun n => if n < k then hv s (pw n) else 0)
theorem vls_length (s : List UInt8) (k : Nat) : (vls s k).length = 64 := row_length _ _
theorem vls_zero (s : List UInt8) : vls s 0 = z8 64 := list_ext_cf (by rw [vls_length, z8_len]) fun i hi => by
  rw [vls_length] at hi
  rw [vls, cf_row, if_pos hi, if_neg (by omega), cf_z8]
theorem vls_set (s : List UInt8) {k : Nat} (h : k < 64) : (vls s k).set k (hv s (pw k)) = vls s (k + 1) := by
  refine list_ext_cf (by rw [List.length_set, vls_length, vls_length]) fun i hi => ?_
  rw [List.length_set, vls_length] at hi
  rw [cf_set _ _ _ (by rw [vls_length]; exact h), vls, vls, cf_row, cf_row, if_pos hi, if_pos hi]
  by_cases e : i = k
  · subst e; rw [if_pos rfl, if_pos (by omega)]
  · rw [if_neg e]
    by_cases e2 : i < k
    · rw [if_pos e2, if_pos (by omega)]
    · rw [if_neg e2, if_neg (by omega)]
theorem vls_all (s : List UInt8) : vls s 64 = synd s := list_ext_cf (by rw [vls_length, synd, row_length]) fun i hi => by
  rw [vls_length] at hi
  rw [vls, synd, cf_row, cf_row, if_pos hi, if_pos hi]
def valRel (w : World) (s : List UInt8) (b : Nat) (i : Value) (wr : World) : Prop := ∃ k : Nat, k ≤ 64 ∧ i = .int .i64 k ∧ Blk b (vls s k) wr ∧ Only b w wr
set_option maxHeartbeats 400000 in
theorem rssynd_arg (w0 : World) (s : ByteArray) (w : World) (hs : ¬ s.size = 255) (_hl : s.size ≤ 100000) (hk : Keeps w0 w) :
    Calls Try.prog 16 #[.string s] w fun e w' => e = .returned (.tuple #[.string (st []), .int .i64 1]) ∧ Keeps w0 w' := by
  have hb : (((s.size : Nat) : Int) == 255) = false := by rw [beq_eq_false_iff_ne]; omega
  go_enter Try.func16, Try.ntmps16
  go_wp2
  go_ret2
  exact ⟨rfl, hk⟩
set_option maxHeartbeats 1600000 in
theorem rssynd_any (w0 : World) (s : ByteArray) (w : World) (hs : s.size = 255) (hk : Keeps w0 w) :
    Calls Try.prog 16 #[.string s] w fun e w' => e = .returned (.tuple #[.string (st (synd (ls s))), .int .i64 0]) ∧ Keeps w0 w' := by
  have hmk : ∀ W : World, (Instr.makeSlice 31 (.int .i64 64) (.int .i64 64)).run Try.prog W = .ok (.slice (some ⟨W.heap.size, 0, none⟩) 64 64) (W.alloc (.cells (zr 64) 5)) := fun W => make8 64 (by omega) W
  have hb : (((s.size : Nat) : Int) == 255) = true := by rw [beq_iff_eq]; omega
  have HP := Lib.hid (hv_rev (ls s).reverse)
  rw [List.reverse_reverse] at HP
  have HL := Lib.hid (show (st (ls s).reverse).size ≤ 1000000 by rw [st_size, List.length_reverse, ← ls_size]; omega)
  have HSZ := Lib.hid (show s.size ≤ 1000000 by omega)
  have hz : (st (row 64 pw)).size = 64 := by rw [st_size, row_length]
  have HGT := Lib.hid (fun (k : Nat) (h : k < (st (row 64 pw)).size) => (ls_get (st (row 64 pw)) k h).trans (show cf (ls (st (row 64 pw))) k = pw k by rw [ls_st, cf_row, if_pos (by omega)]))
  clear hs
  go_enter Try.func16, Try.ntmps16
  go_wp2_with fail
  refine (reversed_any w0 s w HSZ.out hk).mono ?_
  rintro e w1 ⟨rfl, hk1⟩
  clear hk
  go_wp2_with fail
  refine (zeros_any w0 w1 hk1).mono ?_
  rintro e w2 ⟨rfl, hk2⟩
  clear hk1
  generalize hP : (ls s).reverse = P at *
  generalize hZ : st (row 64 pw) = Z at *
  have HK := Lib.hid (hk2.alloc (.cells (zr 64) 5))
  have HS := Lib.hid (Below.size hk2)
  have HB := Lib.hid (Blk.make w2 64)
  clear hP hZ hk2
  go_wp2
  clear hmk
  obtain ⟨b, hb⟩ : ∃ b, w2.heap.size = b := ⟨_, rfl⟩
  obtain ⟨wm, hwm⟩ : ∃ wm, w2.alloc (.cells (zr 64) 5) = wm := ⟨_, rfl⟩
  rw [hb, hwm] at HB
  rw [hwm] at HK
  rw [hb] at HS
  rw [hb, hwm]
  clear hb hwm
  go_loopw [19] (fun i wr => valRel wm (ls s) b i wr) (fun i _ => 64 - (intOf i).toNat)
  case atStart => exact ⟨0, by omega, rfl, by rw [vls_zero]; exact HB.out, Only.refl _ _⟩
  case round =>
    obtain ⟨k, hk, rfl, hblk, hon⟩ := hrel
    by_cases hlt : k < 64
    · have hl := vls_length (ls s) k
      have hgt := HGT.out k (by omega)
      have hbo := hblk.old
      have hkz : (k : Int) < (Z.size : Int) := by omega
      go_wp2_with fail
      refine (pat_big wr _ (pw k) wr HL.out (Keeps.refl _)).mono ?_
      rintro e w3 ⟨rfl, hb3⟩
      rw [ls_st, ← HP.out]
      have hblk3 := hblk.below hb3
      have hc := hblk3.cell k (by omega)
      have hf := hblk3.free k (by omega)
      go_wp2
      go_roundw
      case rel => exact ⟨k + 1, by omega, by go_num, by rw [← vls_set _ hlt]; exact hblk3.set (by omega) _, (hon.trans (Only.below hb3)).trans (Only.setCell w3 ⟨b, k, none⟩ _)⟩
      case measure => simp [intOf]; omega
    · have HE := Lib.hid (show k = 64 by omega)
      have hcv := hblk.whole 64 (n := 64) (vls_length _ k).symm
      rw [HE.out, vls_all] at hcv
      have hge : 64 ≤ (k : Int) := by omega
      go_wp2
      go_ret2
      exact ⟨rfl, hon.keeps HK.out HS.out⟩
set_option maxHeartbeats 1600000 in
theorem rsis_any (w0 : World) (s : ByteArray) (w : World) (hl : s.size ≤ 100000) (hk : Keeps w0 w) :
    Calls Try.prog 17 #[.string s] w fun e w' => e = .returned (.bool (isB (ls s))) ∧ Keeps w0 w' := by
  by_cases hs : s.size = 255
  · have HB := Lib.hid (show isB (ls s) = (synd (ls s) == z8 64) by simp [isB, ← ls_size, hs])
    have hst := st_toList
    have HS := Lib.hid hs
    clear hs
    go_enter Try.func17, Try.ntmps17
    go_wp2_with fail
    refine (rssynd_any w0 s w HS.out hk).mono ?_
    rintro e w1 ⟨rfl, hk1⟩
    go_wp2_with fail
    refine (repeat0 64 w1 (by omega)).mono ?_
    rintro e w2 ⟨rfl, hb2⟩
    go_wp2
    go_ret
    rw [HB.out]
    exact ⟨rfl, hk1.trans hb2⟩
  · have HB := Lib.hid (show isB (ls s) = false by simp [isB, ← ls_size, hs])
    go_enter Try.func17, Try.ntmps17
    go_wp2_with fail
    refine (rssynd_arg w0 s w hs hl hk).mono ?_
    rintro e w1 ⟨rfl, hk1⟩
    go_wp2
    go_ret
    rw [HB.out]
    exact ⟨rfl, hk1⟩
end Go.Proofs.Ytachbccoehlcjaa
