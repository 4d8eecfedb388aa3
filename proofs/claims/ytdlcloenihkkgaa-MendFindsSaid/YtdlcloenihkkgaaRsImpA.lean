/-
  What strings.Repeat and slices.Reverse (over bytes) answer: so many copies of a text; the bytes of a row, back to front. The memory that was there stays, but for that row.
-/
import Derived.Shelf.Strings.Repeat
import Derived.Shelf.SlicesE.Reverse
import Derived.Test.YtdlcloenihkkgaaPolyImp
import Derived.Test.YtdlcloenihkkgaaRsIs
namespace Go.Proofs.Ytdlcloenihkkgaa
open Go.RowKit Go.Shelf Gf
set_option maxRecDepth 100000
def renRep : Ren where
  f := fun n => if n = 99 then 68 else if n = 105 then 51 else if n = 165 then 69 else if n = 166 then 70 else if n = 169 then 72 else if n = 170 then 71 else if n = 206 then 79 else if n = 212 then 67 else if n = 240 then 80 else if n = 241 then 81 else if n = 263 then 77 else if n = 264 then 78 else if n = 276 then 83 else if n = 277 then 84 else 0
  t := fun n => if n = 0 then 0 else if n = 3 then 3 else if n = 4 then 4 else if n = 5 then 5 else if n = 9 then 9 else if n = 20 then 20 else if n = 37 then 34 else if n = 46 then 76 else if n = 51 then 100 else if n = 53 then 103 else if n = 70 then 87 else if n = 72 then 89 else if n = 75 then 92 else if n = 76 then 93 else if n = 80 then 67 else if n = 109 then 84 else if n = 127 then 106 else if n = 146 then 101 else if n = 148 then 104 else if n = 164 then 107 else 0
  g := fun _ => 0
theorem laysRep : Lays.n105 Try.prog renRep where
  mixed := by kernel_rfl
  f99 := by kernel_rfl
  f105 := by kernel_rfl
  f165 := by kernel_rfl
  f166 := by kernel_rfl
  f169 := by kernel_rfl
  f170 := by kernel_rfl
  f206 := by kernel_rfl
  f212 := by kernel_rfl
  f240 := by kernel_rfl
  f241 := by kernel_rfl
  f263 := by kernel_rfl
  f264 := by kernel_rfl
  f276 := by kernel_rfl
  f277 := by kernel_rfl
  t0 := by kernel_rfl
  a0 := fun w => by exact Try.isAgg0 w
  z0 := fun w => by exact Try.sizeOf0 w
  v0 := fun w => by exact Try.zeroValue0 w
  t3 := by kernel_rfl
  a3 := fun w => by exact Try.isAgg3 w
  z3 := fun w => by exact Try.sizeOf3 w
  v3 := fun w => by exact Try.zeroValue3 w
  t4 := by kernel_rfl
  a4 := fun w => by exact Try.isAgg4 w
  z4 := fun w => by exact Try.sizeOf4 w
  v4 := fun w => by exact Try.zeroValue4 w
  t5 := by kernel_rfl
  a5 := fun w => by exact Try.isAgg5 w
  z5 := fun w => by exact Try.sizeOf5 w
  v5 := fun w => by exact Try.zeroValue5 w
  t9 := by kernel_rfl
  a9 := fun w => by exact Try.isAgg9 w
  z9 := fun w => by exact Try.sizeOf9 w
  v9 := fun w => by exact Try.zeroValue9 w
  t20 := by kernel_rfl
  a20 := fun w => by exact Try.isAgg20 w
  z20 := fun w => by exact Try.sizeOf20 w
  v20 := fun w => by exact Try.zeroValue20 w
  t37 := by kernel_rfl
  a37 := fun w => by exact Try.isAgg34 w
  z37 := fun w => by exact Try.sizeOf34 w
  v37 := fun w => by exact Try.zeroValue34 w
  t46 := by kernel_rfl
  a46 := fun w => by exact Try.isAgg76 w
  z46 := fun w => by exact Try.sizeOf76 w
  v46 := fun w => by exact Try.zeroValue76 w
  t51 := by kernel_rfl
  a51 := fun w => by exact Try.isAgg100 w
  z51 := fun w => by exact Try.sizeOf100 w
  v51 := fun w => by exact Try.zeroValue100 w
  t53 := by kernel_rfl
  a53 := fun w => by exact Try.isAgg103 w
  z53 := fun w => by exact Try.sizeOf103 w
  v53 := fun w => by exact Try.zeroValue103 w
  t70 := by kernel_rfl
  a70 := fun w => by exact Try.isAgg87 w
  z70 := fun w => by exact Try.sizeOf87 w
  v70 := fun w => by exact Try.zeroValue87 w
  t72 := by kernel_rfl
  a72 := fun w => by exact Try.isAgg89 w
  z72 := fun w => by exact Try.sizeOf89 w
  v72 := fun w => by exact Try.zeroValue89 w
  t75 := by kernel_rfl
  a75 := fun w => by exact Try.isAgg92 w
  z75 := fun w => by exact Try.sizeOf92 w
  v75 := fun w => by exact Try.zeroValue92 w
  t76 := by kernel_rfl
  a76 := fun w => by exact Try.isAgg93 w
  z76 := fun w => by exact Try.sizeOf93 w
  v76 := fun w => by exact Try.zeroValue93 w
  t109 := by kernel_rfl
  a109 := fun w => by exact Try.isAgg84 w
  z109 := fun w => by exact Try.sizeOf84 w
  v109 := fun w => by exact Try.zeroValue84 w
  t127 := by kernel_rfl
  a127 := fun w => by exact Try.isAgg106 w
  z127 := fun w => by exact Try.sizeOf106 w
  v127 := fun w => by exact Try.zeroValue106 w
  t146 := by kernel_rfl
  a146 := fun w => by exact Try.isAgg101 w
  z146 := fun w => by exact Try.sizeOf101 w
  v146 := fun w => by exact Try.zeroValue101 w
  t148 := by kernel_rfl
  a148 := fun w => by exact Try.isAgg104 w
  z148 := fun w => by exact Try.sizeOf104 w
  v148 := fun w => by exact Try.zeroValue104 w
  t164 := by kernel_rfl
  a164 := fun w => by exact Try.isAgg107 w
  z164 := fun w => by exact Try.sizeOf107 w
  v164 := fun w => by exact Try.zeroValue107 w
theorem extraRep : Builder.Extra Try.prog renRep where
  sizeBuilder := by kernel_rfl
  liesBuilder := by kernel_rfl
  t5 := by kernel_rfl
  a5 := fun w => by exact Try.isAgg5 w
  z5 := fun w => by exact Try.sizeOf5 w
  v5 := fun w => by exact Try.zeroValue5 w
  infoByte := by kernel_rfl
  cellsByte := by kernel_rfl
  sizeByte := by kernel_rfl
  neB5 := by decide
def renRev : Ren where
  f := fun n => if n = 35 then 27 else 0
  t := fun n => if n = 0 then 0 else if n = 3 then 3 else if n = 4 then 4 else if n = 22 then 34 else if n = 23 then 5 else 0
  g := fun _ => 0
theorem laysRev : SlLaysE.n35 Try.prog renRev where
  mixed := by kernel_rfl
  f35 := Exists.intro "slices.Reverse[[]byte,byte]" ⟨by kernel_rfl, by kernel_rfl⟩
  t0 := by kernel_rfl
  a0 := fun w => by exact Try.isAgg0 w
  z0 := fun w => by exact Try.sizeOf0 w
  v0 := fun w => by exact Try.zeroValue0 w
  t3 := by kernel_rfl
  a3 := fun w => by exact Try.isAgg3 w
  z3 := fun w => by exact Try.sizeOf3 w
  v3 := fun w => by exact Try.zeroValue3 w
  t4 := by kernel_rfl
  a4 := fun w => by exact Try.isAgg4 w
  z4 := fun w => by exact Try.sizeOf4 w
  v4 := fun w => by exact Try.zeroValue4 w
  t22 := by kernel_rfl
  a22 := fun w => by exact Try.isAgg34 w
  z22 := fun w => by exact Try.sizeOf34 w
  v22 := fun w => by exact Try.zeroValue34 w
  a23 := fun w => by exact Try.isAgg5 w
  z23 := fun w => by exact Try.sizeOf5 w
theorem repeat_any (s : ByteArray) (c : Nat) (w : World) (hc : c ≤ 1000000000) (hs : s.size ≤ 1000) :
    Calls Try.prog 51 #[.string s, .int .i64 (c : Int)] w fun e w' => e = .returned (.string ⟨(Lib.repeatL s.data.toList c).toArray⟩) ∧ Below w.heap.size w w' :=
  Any.strings_Repeat laysRep extraRep s c w (by omega) (Nat.le_trans (Nat.mul_le_mul hs hc) (by omega))
def eB (x : UInt8) : Value := .int .u8 (x.toNat : Int)
theorem Blk.holds {b : Nat} {l : List UInt8} {w : World} (h : Blk b l w) : Sort.Holds eB w b 0 l.toArray := fun j hj => by
  have hj' : j < l.length := by simpa using hj
  rw [Nat.zero_add, h.cell j hj', getElem!_pos _ j hj, List.getElem_toArray, cf_lt hj']
  exact ⟨rfl, h.free j hj'⟩
theorem Blk.of_holds {b : Nat} {l : List UInt8} {w : World} (h : Sort.Holds eB w b 0 l.toArray) (hb : b < w.heap.size) : Blk b l w := by
  refine ⟨hb, fun i hi => ?_, fun i hi => ?_⟩
  · have := (h i (by simpa using hi)).1
    rw [Nat.zero_add, getElem!_pos _ i (by simpa using hi), List.getElem_toArray, ← cf_lt hi] at this
    exact this
  · have := (h i (by simpa using hi)).2
    rwa [Nat.zero_add] at this
theorem putRow_block (w : World) (b k : Nat) (d : Array UInt8) (hn : k ≠ b) : (Sort.putRow eB w b 0 d).heap[k]? = w.heap[k]? := by
  simp only [Sort.putRow, Sort.mapBlock, Array.getElem?_modify]
  rw [if_neg fun e => hn e.symm]
theorem reverse_any (b n cap : Nat) (l : List UInt8) (w : World) (hb : Blk b l w) (hn : n = l.length) (hl : l.length ≤ 1000000000) :
    Calls Try.prog 27 #[.slice (some ⟨b, 0, none⟩) n cap] w fun e w' => e = .returned (.tuple #[]) ∧ Blk b l.reverse w' ∧ Only b w w' := by
  subst hn
  refine (AnyE.slices_Reverse laysRev eB (fun _ => rfl) b 0 cap l w hb.holds (by omega)).mono ?_
  rintro e w' ⟨rfl, n, rfl⟩
  refine ⟨rfl, Blk.of_holds (Sort.holds_putRow eB _ b 0 l.toArray _ (Sort.holds_ahead eB w n b 0 _ hb.holds) (by simp)) (by simpa using hb.old), rfl, rfl, rfl, by simp, fun k _ hk => ?_⟩
  rw [putRow_block _ _ _ _ hk]; rfl
set_option maxRecDepth 100000 in
set_option maxHeartbeats 800000 in
theorem reversed_any (w0 : World) (s : ByteArray) (w : World) (hs : s.size ≤ 1000000) (hk : Keeps w0 w) :
    Calls Try.prog 46 #[.string s] w fun e w' => e = .returned (.string (st (ls s).reverse)) ∧ Keeps w0 w' := by
  have hcb : ∀ W : World, _ := fun W => Lib.run_convert_string_bytes (P := Try.prog) W 9 34 5 s Try.underlying9 Try.underlying34 Try.underlying5
  have HB := Lib.hid (Blk.bytes w s)
  have HK := Lib.hid (hk.trans (Lib.bytesWorld_below w 5 s))
  have HS := Lib.hid (Below.size hk)
  clear hk
  go_enter Try.func46, Try.ntmps46
  go_wp2_with fail
  refine (reverse_any _ _ _ (ls s) _ HB.out (ls_size s) (by rw [← ls_size]; omega)).mono ?_
  rintro e w1 ⟨rfl, hb, ho⟩
  have hcv := hb.whole (grownCap w s.size 0 5) (n := s.size) (by rw [List.length_reverse, ls_size])
  clear hcb
  go_wp2
  go_ret
  exact ⟨rfl, ho.keeps HK.out HS.out⟩
theorem ge_pw (n : Nat) : ge (n : Int) = ((pw n).toNat : Int) := by
  unfold ge; rw [pw_toNat]; congr 2
/-- The first k powers of 2, and bytes 0. -/
def pws (k : Nat) : List UInt8 := row 64 (fun n => if n < k then pw n else 0)
theorem pws_length (k : Nat) : (pws k).length = 64 := row_length _ _
theorem pws_zero : pws 0 = z8 64 := list_ext_cf (by rw [pws_length, z8_len]) fun i hi => by
  rw [pws_length] at hi
  rw [pws, cf_row, if_pos hi, if_neg (by omega), cf_z8]
theorem pws_set {k : Nat} (h : k < 64) : (pws k).set k (pw k) = pws (k + 1) := by
  refine list_ext_cf (by rw [List.length_set, pws_length, pws_length]) fun i hi => ?_
  rw [List.length_set, pws_length] at hi
  rw [cf_set _ _ _ (by rw [pws_length]; exact h), pws, pws, cf_row, cf_row, if_pos hi, if_pos hi]
  by_cases e : i = k
  · subst e; rw [if_pos rfl, if_pos (by omega)]
  · rw [if_neg e]
    by_cases e2 : i < k
    · rw [if_pos e2, if_pos (by omega)]
    · rw [if_neg e2, if_neg (by omega)]
theorem pws_all : pws 64 = row 64 pw := list_ext_cf (by rw [pws_length, row_length]) fun i hi => by
  rw [pws_length] at hi
  rw [pws, cf_row, cf_row, if_pos hi, if_pos hi]
def zeroRel (w : World) (b : Nat) (i : Value) (wr : World) : Prop := ∃ k : Nat, k ≤ 64 ∧ i = .int .i64 k ∧ Blk b (pws k) wr ∧ Only b w wr
set_option maxRecDepth 100000 in
set_option maxHeartbeats 1600000 in
theorem zeros_any (w0 : World) (w : World) (hk : Keeps w0 w) :
    Calls Try.prog 47 #[] w fun e w' => e = .returned (.string (st (row 64 pw))) ∧ Keeps w0 w' := by
  have hmk : ∀ W : World, (Instr.makeSlice 34 (.int .i64 64) (.int .i64 64)).run Try.prog W = .ok (.slice (some ⟨W.heap.size, 0, none⟩) 64 64) (W.alloc (.cells (zr 64) 5)) := fun W => make8 64 (by omega) W
  go_enter Try.func47, Try.ntmps47
  go_wp2_with fail
  refine (new_any w).mono ?_
  rintro e w1 ⟨rfl, hf, hbel⟩
  have hne : w.heap.size ≠ w1.heap.size := by have := hf.old; omega
  have HF := Lib.hid (hf.below hf.old ((Below.refl _ w1).alloc (Nat.le_refl _) (.cells (zr 64) 5)))
  have HK := Lib.hid ((hk.trans hbel).alloc (.cells (zr 64) 5))
  have HS := Lib.hid (Below.size (hk.trans hbel))
  have HB := Lib.hid (Blk.make w1 64)
  clear hk hf hbel
  obtain ⟨fb, hfb⟩ : ∃ fb, w.heap.size = fb := ⟨_, rfl⟩
  rw [hfb] at HF hne
  rw [hfb]
  go_wp2
  clear hmk
  obtain ⟨b, hb⟩ : ∃ b, w1.heap.size = b := ⟨_, rfl⟩
  obtain ⟨wm, hwm⟩ : ∃ wm, w1.alloc (.cells (zr 64) 5) = wm := ⟨_, rfl⟩
  rw [hb, hwm] at HB
  rw [hwm] at HF HK
  rw [hb] at HS hne
  rw [hb, hwm]
  clear hb hwm
  go_loopw [8] (fun i wr => zeroRel wm b i wr) (fun i _ => 64 - (intOf i).toNat)
  case atStart => exact ⟨0, by omega, rfl, by rw [pws_zero]; exact HB.out, Only.refl _ _⟩
  case round =>
    obtain ⟨k, hk, rfl, hblk, hon⟩ := hrel
    by_cases hlt : k < 64
    · have hl := pws_length k
      have hff := HF.out.only hne hon
      have hbo := hblk.old
      go_wp2_with fail
      refine (fexp_any fb _ wr hff).mono ?_
      rintro e w2 ⟨rfl, hb2⟩
      have hblk2 := hblk.below hb2
      have hc := hblk2.cell k (by omega)
      have hz := hblk2.free k (by omega)
      rw [ge_pw]
      go_wp2
      go_roundw
      case rel => exact ⟨k + 1, by omega, by go_num, by rw [← pws_set hlt]; exact hblk2.set (by omega) _, (hon.trans (Only.below hb2)).trans (Only.setCell w2 ⟨b, k, none⟩ _)⟩
      case measure => simp [intOf]; omega
    · have HE := Lib.hid (show k = 64 by omega)
      have hcv := hblk.whole 64 (n := 64) (pws_length k).symm
      rw [HE.out, pws_all] at hcv
      have hge : 64 ≤ (k : Int) := by omega
      go_wp2
      go_ret
      exact ⟨rfl, hon.keeps HK.out HS.out⟩
set_option maxRecDepth 100000 in
set_option maxHeartbeats 800000 in
theorem rsgen_any (w0 : World) (w : World) (hk : Keeps w0 w) :
    Calls Try.prog 65 #[] w fun e w' => e = .returned (.string (st gen)) ∧ Keeps w0 w' := by
  go_enter Try.func65, Try.ntmps65
  go_wp2_with fail
  refine (zeros_any w0 w hk).mono ?_
  rintro e w1 ⟨rfl, hk1⟩
  go_wp2_with fail
  refine (proots_big w0 _ w1 (by rw [st_size, row_length]; omega) hk1).mono ?_
  rintro e w2 ⟨rfl, hk2⟩
  rw [ls_st]
  go_wp2
  go_ret
  exact ⟨rfl, hk2⟩
theorem repeat_zero (c : Nat) : Lib.repeatL [0] c = z8 c := by
  induction c with
  | zero => rfl
  | succ c ih => unfold z8 at *; rw [List.replicate_succ, ← ih]; rfl
theorem repeat0 (c : Nat) (w : World) (hc : c ≤ 1000000) :
    Calls Try.prog 51 #[.string ⟨#[0]⟩, .int .i64 (c : Int)] w fun e w' => e = .returned (.string (st (z8 c))) ∧ Below w.heap.size w w' := by
  have h := repeat_any ⟨#[0]⟩ c w (by omega) (by decide)
  rw [show (⟨#[0]⟩ : ByteArray).data.toList = [0] from rfl, repeat_zero] at h
  exact h
/-- The first k values of a text, and bytes 0. -/
def vls (s : List UInt8) (k : Nat) : List UInt8 := row 64 (fun n => if n < k then hv s (pw n) else 0)
theorem vls_length (s : List UInt8) (k : Nat) : (vls s k).length = 64 := row_length _ _
theorem vls_zero (s : List UInt8) : vls s 0 = z8 64 := list_ext_cf (by rw [vls_length, z8_len]) fun i hi => by
  rw [vls_length] at hi
  rw [vls, cf_row, if_pos hi, if_neg (by omega), cf_z8]
theorem vls_set (s : List UInt8) {k : Nat} (h : k < 64) : (vls s k).set k (hv s (pw k)) = vls s (k + 1) := by
  refine list_ext_cf (by rw [List.length_set, vls_length, vls_length]) fun i hi => ?_
  rw [List.length_set, vls_length] at hi
  rw [cf_set _ _ _ (by rw [vls_length]; exact h), vls, vls, cf_row, cf_row, if_pos hi, if_pos hi]
  by_cases e : i = k
  · subst e; rw [if_pos rfl, if_pos (by omega)]
  · rw [if_neg e]
    by_cases e2 : i < k
    · rw [if_pos e2, if_pos (by omega)]
    · rw [if_neg e2, if_neg (by omega)]
theorem vls_all (s : List UInt8) : vls s 64 = synd s := list_ext_cf (by rw [vls_length, synd, row_length]) fun i hi => by
  rw [vls_length] at hi
  rw [vls, synd, cf_row, cf_row, if_pos hi, if_pos hi]
def valRel (w : World) (s : List UInt8) (b : Nat) (i : Value) (wr : World) : Prop := ∃ k : Nat, k ≤ 64 ∧ i = .int .i64 k ∧ Blk b (vls s k) wr ∧ Only b w wr
set_option maxRecDepth 100000 in
set_option maxHeartbeats 400000 in
theorem rssynd_arg (w0 : World) (s : ByteArray) (w : World) (hs : ¬ s.size = 255) (_hl : s.size ≤ 100000) (hk : Keeps w0 w) :
    Calls Try.prog 31 #[.string s] w fun e w' => e = .returned (.tuple #[.string (st []), .int .i64 1]) ∧ Keeps w0 w' := by
  have hb : (((s.size : Nat) : Int) == 255) = false := by rw [beq_eq_false_iff_ne]; omega
  go_enter Try.func31, Try.ntmps31
  go_wp2
  go_ret2
  exact ⟨rfl, hk⟩
set_option maxRecDepth 100000 in
set_option maxHeartbeats 1600000 in
theorem rssynd_any (w0 : World) (s : ByteArray) (w : World) (hs : s.size = 255) (hk : Keeps w0 w) :
    Calls Try.prog 31 #[.string s] w fun e w' => e = .returned (.tuple #[.string (st (synd (ls s))), .int .i64 0]) ∧ Keeps w0 w' := by
  have hmk : ∀ W : World, (Instr.makeSlice 34 (.int .i64 64) (.int .i64 64)).run Try.prog W = .ok (.slice (some ⟨W.heap.size, 0, none⟩) 64 64) (W.alloc (.cells (zr 64) 5)) := fun W => make8 64 (by omega) W
  have hb : (((s.size : Nat) : Int) == 255) = true := by rw [beq_iff_eq]; omega
  have HP := Lib.hid (hv_rev (ls s).reverse)
  rw [List.reverse_reverse] at HP
  have HL := Lib.hid (show (st (ls s).reverse).size ≤ 1000000 by rw [st_size, List.length_reverse, ← ls_size]; omega)
  have HSZ := Lib.hid (show s.size ≤ 1000000 by omega)
  have hz : (st (row 64 pw)).size = 64 := by rw [st_size, row_length]
  have HGT := Lib.hid (fun (k : Nat) (h : k < (st (row 64 pw)).size) => (ls_get (st (row 64 pw)) k h).trans (show cf (ls (st (row 64 pw))) k = pw k by rw [ls_st, cf_row, if_pos (by omega)]))
  clear hs
  go_enter Try.func31, Try.ntmps31
  go_wp2_with fail
  refine (reversed_any w0 s w HSZ.out hk).mono ?_
  rintro e w1 ⟨rfl, hk1⟩
  clear hk
  go_wp2_with fail
  refine (zeros_any w0 w1 hk1).mono ?_
  rintro e w2 ⟨rfl, hk2⟩
  clear hk1
  generalize hP : (ls s).reverse = P at *
  generalize hZ : st (row 64 pw) = Z at *
  have HK := Lib.hid (hk2.alloc (.cells (zr 64) 5))
  have HS := Lib.hid (Below.size hk2)
  have HB := Lib.hid (Blk.make w2 64)
  clear hP hZ hk2
  go_wp2
  clear hmk
  obtain ⟨b, hb⟩ : ∃ b, w2.heap.size = b := ⟨_, rfl⟩
  obtain ⟨wm, hwm⟩ : ∃ wm, w2.alloc (.cells (zr 64) 5) = wm := ⟨_, rfl⟩
  rw [hb, hwm] at HB
  rw [hwm] at HK
  rw [hb] at HS
  rw [hb, hwm]
  clear hb hwm
  go_loopw [19] (fun i wr => valRel wm (ls s) b i wr) (fun i _ => 64 - (intOf i).toNat)
  case atStart => exact ⟨0, by omega, rfl, by rw [vls_zero]; exact HB.out, Only.refl _ _⟩
  case round =>
    obtain ⟨k, hk, rfl, hblk, hon⟩ := hrel
    by_cases hlt : k < 64
    · have hl := vls_length (ls s) k
      have hgt := HGT.out k (by omega)
      have hbo := hblk.old
      have hkz : (k : Int) < (Z.size : Int) := by omega
      go_wp2_with fail
      refine (pat_big wr _ (pw k) wr HL.out (Keeps.refl _)).mono ?_
      rintro e w3 ⟨rfl, hb3⟩
      rw [ls_st, ← HP.out]
      have hblk3 := hblk.below hb3
      have hc := hblk3.cell k (by omega)
      have hf := hblk3.free k (by omega)
      go_wp2
      go_roundw
      case rel => exact ⟨k + 1, by omega, by go_num, by rw [← vls_set _ hlt]; exact hblk3.set (by omega) _, (hon.trans (Only.below hb3)).trans (Only.setCell w3 ⟨b, k, none⟩ _)⟩
      case measure => simp [intOf]; omega
    · have HE := Lib.hid (show k = 64 by omega)
      have hcv := hblk.whole 64 (n := 64) (vls_length _ k).symm
      rw [HE.out, vls_all] at hcv
      have hge : 64 ≤ (k : Int) := by omega
      go_wp2
      go_ret2
      exact ⟨rfl, hon.keeps HK.out HS.out⟩
set_option maxRecDepth 100000 in
set_option maxHeartbeats 1600000 in
theorem rsis_any (w0 : World) (s : ByteArray) (w : World) (hl : s.size ≤ 100000) (hk : Keeps w0 w) :
    Calls Try.prog 36 #[.string s] w fun e w' => e = .returned (.bool (isB (ls s))) ∧ Keeps w0 w' := by
  by_cases hs : s.size = 255
  · have HB := Lib.hid (show isB (ls s) = (synd (ls s) == z8 64) by simp [isB, ← ls_size, hs])
    have hst := st_toList
    have HS := Lib.hid hs
    clear hs
    go_enter Try.func36, Try.ntmps36
    go_wp2_with fail
    refine (rssynd_any w0 s w HS.out hk).mono ?_
    rintro e w1 ⟨rfl, hk1⟩
    go_wp2_with fail
    refine (repeat0 64 w1 (by omega)).mono ?_
    rintro e w2 ⟨rfl, hb2⟩
    go_wp2
    go_ret
    rw [HB.out]
    exact ⟨rfl, hk1.trans hb2⟩
  · have HB := Lib.hid (show isB (ls s) = false by simp [isB, ← ls_size, hs])
    go_enter Try.func36, Try.ntmps36
    go_wp2_with fail
    refine (rssynd_arg w0 s w hs hl hk).mono ?_
    rintro e w1 ⟨rfl, hk1⟩
    go_wp2
    go_ret
    rw [HB.out]
    exact ⟨rfl, hk1⟩
end Go.Proofs.Ytdlcloenihkkgaa
