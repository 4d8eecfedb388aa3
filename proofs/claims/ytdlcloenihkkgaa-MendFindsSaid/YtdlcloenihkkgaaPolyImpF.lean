/-
  What Divide of package poly answers: for texts of up to a hundred thousand bytes; the memory that was there stays.
-/
import Derived.Lib.AtoiErrMem
import Derived.WalkMore
import Derived.ScopeJumps
import Derived.Test.YtdlcloenihkkgaaPolyImpE
namespace Go.Proofs.Ytdlcloenihkkgaa
open Go.RowKit Go.Shelf Gf
set_option maxRecDepth 100000

/-- A text is the product of what was found and the divisor, and what is left, together. -/
def DivInv (A B T L : List UInt8) : Prop := ∀ i, cf A i = conv (cf T) (cf B) i ^^^ cf L i
theorem conv_single (j : Nat) (q : UInt8) (g : Nat → UInt8) (i : Nat) : conv (fun k => if k = j then q else 0) g i = if j ≤ i then fm q (g (i - j)) else 0 := by
  by_cases h : j ≤ i
  · rw [if_pos h, conv, sm_one (k := j) (by omega) (fun k _ hne => by rw [if_neg hne, zero_fm]), if_pos rfl]
  · rw [if_neg h, conv, sm_zero fun k hk => by rw [if_neg (by omega), zero_fm]]
theorem conv_set {T : List UInt8} {j : Nat} {q : UInt8} (hj : j < T.length) (hz : cf T j = 0) (g : Nat → UInt8) (i : Nat) :
    conv (cf (T.set j q)) g i = conv (cf T) g i ^^^ (if j ≤ i then fm q (g (i - j)) else 0) := by
  rw [← conv_single j q g i, ← add_conv]
  refine conv_congr (fun k _ => ?_) (fun _ _ => rfl)
  rw [cf_set _ _ _ hj]
  by_cases e : k = j
  · subst e; rw [if_pos rfl, if_pos rfl, hz, z_xor]
  · rw [if_neg e, if_neg e, xor_z]
theorem div_step {A B T L : List UInt8} {j : Nat} {q : UInt8} (hm : 1 ≤ B.length) (hj : j + B.length = L.length) (hT : j < T.length) (hz : cf T j = 0) (hq : fm q (cf B (B.length - 1)) = cf L (L.length - 1)) (h : DivInv A B T L) :
    DivInv A B (T.set j q) ((atRow L j q B B.length).take (L.length - 1)) := by
  intro i
  rw [conv_set hT hz, h i, xor_a]
  congr 1
  rw [cf_take]
  by_cases hi : i < L.length - 1
  · rw [if_pos hi, cf_atRow (by omega)]
    by_cases hji : j ≤ i
    · rw [if_pos hji, if_pos (by omega), xor_c (cf L i), xor_back]
    · rw [if_neg hji, if_neg (by omega), xor_z, z_xor]
  · rw [if_neg hi, xor_z]
    by_cases he : i = L.length - 1
    · subst he; rw [if_pos (by omega), show L.length - 1 - j = B.length - 1 by omega, hq]
    · rw [cf_big (p := L) (by omega)]
      by_cases hji : j ≤ i
      · rw [if_pos hji, cf_big (p := B) (by omega), fm_zero]
      · rw [if_neg hji]
theorem div_end {A b B T L : List UInt8} (hB : B = trim b) (h : DivInv A B T L) : padd (pmul (trim T) b) (trim L) = trim A := by
  refine trim_one (padd_trim _ _) (trim_trim _) fun i => ?_
  rw [cf_padd, cf_pmul, cf_trim, cf_trim, h i]
  congr 1
  refine conv_congr (fun k _ => cf_trim _ _) (fun k _ => ?_)
  rw [hB, cf_trim]
theorem Blk.take {b : Nat} {l : List UInt8} {w : World} (h : Blk b l w) (n : Nat) : Blk b (l.take n) w := by
  have hl : (l.take n).length ≤ l.length := by rw [List.length_take]; omega
  refine ⟨h.old, fun i hi => ?_, fun i hi => h.free i (by omega)⟩
  have hn : i < n := by rw [List.length_take] at hi; omega
  rw [cf_take, if_pos hn]; exact h.cell i (by omega)
def sliceLen : Value → Nat | .slice _ n _ => n | _ => 0
theorem list_eta (l : List Value) : l = (List.range l.length).map (fun i => l.getD i undef) := by
  refine List.ext_getElem (by simp) fun i h1 h2 => ?_
  simp [List.getElem?_eq_getElem h1]
/-- A frame of 69 slots of which the first eleven are known. -/
theorem frame69 {a : Act} {v0 v1 v2 v3 v4 v5 v6 v7 v8 v9 v10 : Value} (hs : a.tmps.size = 69) (hd : a.defers = []) (ht : a.tmps.toList.take 11 = [v0, v1, v2, v3, v4, v5, v6, v7, v8, v9, v10]) :
    ∃ us : Nat → Value, a = { tmps := List.toArray (v0 :: v1 :: v2 :: v3 :: v4 :: v5 :: v6 :: v7 :: v8 :: v9 :: v10 :: us 11 :: us 12 :: us 13 :: us 14 :: us 15 :: us 16 :: us 17 :: us 18 :: us 19 :: us 20 :: us 21 :: us 22 :: us 23 :: us 24 :: us 25 :: us 26 :: us 27 :: us 28 :: us 29 :: us 30 :: us 31 :: us 32 :: us 33 :: us 34 :: us 35 :: us 36 :: us 37 :: us 38 :: us 39 :: us 40 :: us 41 :: us 42 :: us 43 :: us 44 :: us 45 :: us 46 :: us 47 :: us 48 :: us 49 :: us 50 :: us 51 :: us 52 :: us 53 :: us 54 :: us 55 :: us 56 :: us 57 :: us 58 :: us 59 :: us 60 :: us 61 :: us 62 :: us 63 :: us 64 :: us 65 :: us 66 :: us 67 :: us 68 :: []), defers := [] } := by
  obtain ⟨⟨l⟩, d⟩ := a
  simp only at hd ht
  subst hd
  have hl : l.length = 69 := by simpa using hs
  refine ⟨fun i => (l.drop 11).getD (i - 11) undef, ?_⟩
  have e1 : l = [v0, v1, v2, v3, v4, v5, v6, v7, v8, v9, v10] ++ l.drop 11 := by rw [← ht, List.take_append_drop]
  have e2 := list_eta (l.drop 11)
  rw [List.length_drop, hl] at e2
  generalize hf : (fun i => (l.drop 11).getD i undef) = f at e2
  have e3 : ∀ k, (l.drop 11).getD k undef = f k := fun k => by rw [← hf]
  simp only [e3]
  rw [e2] at e1
  rw [e1]
  rfl
/-- What holds at every jump. -/
def DivJ (w0 : World) (x y : ByteArray) (iv : UInt8) (a : Act) (w : World) : Prop :=
  ∃ (fb bl bt cl t : Nat) (L T : List UInt8), (bl ≠ bt ∧ bl ≠ fb ∧ bt ≠ fb ∧ w0.heap.size ≤ bl ∧ w0.heap.size ≤ bt ∧ t ≤ cl) ∧ (L.length = t ∧ T.length = x.size ∧ t ≤ x.size ∧ DivInv (ls x) (ls y) T L ∧ ∀ k, k + y.size ≤ t → cf T k = 0) ∧
    (Blk bl L w ∧ Blk bt T w ∧ FieldAt fb w ∧ Keeps w0 w) ∧ a.tmps.size = 69 ∧ a.defers = [] ∧ a.tmps.toList.take 11 = [.string x, .string y, undef, undef, .string ⟨#[]⟩, .string ⟨#[]⟩, .int .i64 0, .pointer (some ⟨fb, 0, none⟩), .int .u8 (iv.toNat : Int), .slice (some ⟨bl, 0, none⟩) t cl, .slice (some ⟨bt, 0, none⟩) x.size x.size]
theorem cf_z8 (n i : Nat) : cf (z8 n) i = 0 := by
  by_cases h : i < n
  · rw [cf_lt (by rw [z8, List.length_replicate]; exact h)]; unfold z8; rw [List.getElem_replicate]
  · exact cf_big (by rw [z8, List.length_replicate]; omega)
theorem div_start (x B : List UInt8) (n : Nat) : DivInv x B (z8 n) x := fun i => by
  rw [conv_comm, conv_congr (g' := fun _ => 0) (fun _ _ => rfl) (fun k _ => cf_z8 n k), conv_zero, z_xor]
theorem scope_loop {P : Program} {a : Act} {w : World} {Q : Exit → Act → World → Prop} {c rest : Code} (l : Nat) (J : Act → World → Prop) (μ : Act → World → Nat) (hf : findLabel c l = some (Code.skip.seq rest))
    (pass : ∀ a w, J a w → rest.wp P (Exit.jump l (fun a' w' => J a' w' ∧ μ a' w' < μ a w) Q) a w)
    (first : (∀ a w, J a w → rest.wp P (Exit.jump l J Q) a w) → c.wp P (Exit.jump l J Q) a w) : (Code.scope c).wp P Q a w :=
  wp_scope_jumps l J μ hf (first fun a w h => Code.wp_mono (fun e a' w' k => by
    cases e <;> first | exact k | exact ⟨k.1, k.2.1⟩) (pass a w h)) (fun a w h => wp_seq (wp_skip (pass a w h)))
def DivPost (w0 : World) (a b : List UInt8) (e : Ending) (w' : World) : Prop :=
  ∃ q r : List UInt8, e = .returned (.tuple #[.string (st q), .string (st r), .int .i64 0]) ∧ trim q = q ∧ trim r = r ∧ r.length < (trim b).length ∧ padd (pmul q b) r = trim a ∧ Keeps w0 w'
def CorePost (w0 : World) (x y : ByteArray) (e : Ending) (w' : World) : Prop :=
  ∃ T L : List UInt8, e = .returned (.tuple #[.string (st (trim T)), .string (st (trim L)), .int .i64 0]) ∧ L.length < y.size ∧ DivInv (ls x) (ls y) T L ∧ Keeps w0 w'
set_option maxRecDepth 100000 in
set_option maxHeartbeats 4000000 in
theorem pdiv_core (w0 : World) (x y0 y : ByteArray) (m : Nat) (la iv : UInt8) (w : World) (hx : x.size ≤ 200000) (hm1 : 1 ≤ m) (hm2 : m ≤ 200000) (hyl : y.size = m) (hem : y.toList.isEmpty = false) (hla : cf (ls y) (m - 1) = la) (hl0 : la ≠ 0) (hiv : fi la = iv)
    (htr : Calls Try.prog 74 #[.string y0] w fun e w' => e = .returned (.string y) ∧ Keeps w0 w') :
    Calls Try.prog 54 #[.string x, .string y0] w (CorePost w0 x y) := by
  have HTR := Lib.hid htr
  have hgy := ls_get y (m - 1) (by omega)
  have hinv8 : ∀ (b : Nat) (W : World), FieldAt b W → Calls Try.prog 58 #[.pointer (some ⟨b, 0, none⟩), .int .u8 (la.toNat : Int)] W fun e w' => e = .returned (.int .u8 (iv.toNat : Int)) ∧ Below W.heap.size W w' := fun b W h => by rw [← hiv]; exact finv8 b la W h hl0
  have HINV8 := Lib.hid hinv8
  have HONE := Lib.hid (show fm la iv = 1 by rw [← hiv]; exact fm_fi hl0)
  have HLA := Lib.hid hla
  rw [hla] at hgy
  clear htr hinv8 hla hiv hl0
  go_enter Try.func54, Try.ntmps54
  go_wp2
  refine scope_loop (rest := ?rest) 0 (DivJ w0 x y iv) (fun a _ => sliceLen (a.tmps.getD 9 undef)) ?hf ?pass ?first
  case hf => rfl
  case first =>
    intro hrest
    have HREST := Lib.hid hrest
    clear hrest
    have hmk : ∀ W : World, _ := make8 x.size (by omega)
    have hcb : ∀ W : World, _ := fun W => Lib.run_convert_string_bytes (P := Try.prog) W 9 34 5 x Try.underlying9 Try.underlying34 Try.underlying5
    go_wp2_with fail
    have htr := HTR.out
    refine Calls.mono htr ?_
    rintro e w1 ⟨rfl, hk1⟩
    clear htr
    go_wp2_with fail
    refine (new_any w1).mono ?_
    rintro e w2 ⟨rfl, hf, hbel⟩
    have e1 : ((m : Int) - 1).toNat = m - 1 := by omega
    go_wp2_with fail
    refine (HINV8.out w1.heap.size w2 hf).mono ?_
    rintro e w3 ⟨rfl, hb3⟩
    have HF3 := Lib.hid (hf.below hf.old hb3)
    have HK3 := Lib.hid ((hk1.trans hbel).trans hb3)
    have HS3 := Lib.hid (Nat.lt_of_lt_of_le hf.old hb3.size)
    have HS0 := Lib.hid (Below.size hk1)
    clear hf hb3 hbel hk1
    go_wp2
    go_region
    · have b1 : Below w3.heap.size w3 (Lib.bytesWorld w3.drew 5 x) := ((Below.refl _ w3).drew).trans (Lib.bytesWorld_below w3.drew 5 x)
      have b2 : Below w3.heap.size w3 ((Lib.bytesWorld w3.drew 5 x).alloc (.cells (zr x.size) 5)) := b1.alloc b1.size _
      have hsz := Lib.bytesWorld_size w3.drew 5 x
      have hs2 : w3.drew.heap.size = w3.heap.size := rfl
      have h3 := HS3.out
      have h0 := HS0.out
      go_wp2
      go_step3
      rename_i hK
      refine hK _ _ (HREST.out _ _ ⟨w1.heap.size, w3.heap.size, (Lib.bytesWorld w3.drew 5 x).heap.size, grownCap w3.drew x.size 0 5, x.size, ls x, z8 x.size, ⟨by omega, by omega, by omega, by omega, by omega, grownCap_ge _ _ _ _⟩, ⟨(ls_size x).symm, by rw [z8, List.length_replicate], Nat.le_refl _, div_start _ _ _, fun k _ => cf_z8 _ _⟩, ⟨?_, Blk.make _ _, ?_, ?_⟩, rfl, rfl, rfl⟩)
      · exact (Blk.bytes w3.drew x).below ((Below.refl _ _).alloc (Nat.le_refl _) _)
      · exact HF3.out.below h3 b2
      · exact HK3.out.trans b2
    · have b0 : Below w3.heap.size w3 (w3.alloc (.cells (zr x.size) 5)).drew := ((Below.refl _ w3).alloc (Nat.le_refl _) _).drew
      have b1 := Lib.bytesWorld_below (w3.alloc (.cells (zr x.size) 5)).drew 5 x
      have b2 : Below w3.heap.size w3 (Lib.bytesWorld (w3.alloc (.cells (zr x.size) 5)).drew 5 x) := b0.trans (b1.mono b0.size)
      have h3 := HS3.out
      have h0 := HS0.out
      go_wp2
      go_step3
      rename_i hK
      refine hK _ _ (HREST.out _ _ ⟨w1.heap.size, w3.heap.size + 1, w3.heap.size, grownCap (w3.alloc (.cells (zr x.size) 5)).drew x.size 0 5, x.size, ls x, z8 x.size, ⟨by omega, by omega, by omega, by omega, by omega, grownCap_ge _ _ _ _⟩, ⟨(ls_size x).symm, by rw [z8, List.length_replicate], Nat.le_refl _, div_start _ _ _, fun k _ => cf_z8 _ _⟩, ⟨?_, ?_, ?_, ?_⟩, rfl, rfl, rfl⟩)
      · have h := Blk.bytes (w3.alloc (.cells (zr x.size) 5)).drew x
        have e : (w3.alloc (.cells (zr x.size) 5)).drew.heap.size = w3.heap.size + 1 := World.size_alloc _ _
        rw [e] at h; exact h
      · exact ((Blk.make w3 x.size).eqv (Eqv.drew _)).below b1
      · exact HF3.out.below h3 b2
      · exact HK3.out.trans b2
  case pass =>
    rintro a w' ⟨fb, bl, bt, cl, t, L, T, ⟨n1, n2, n3, n4, n5, hLc⟩, ⟨hLt, hT, hLx, hinv, hzr⟩, ⟨hbl, hbt, hf, hkw⟩, hfs, hfd, hft⟩
    obtain ⟨us, rfl⟩ := frame69 hfs hfd hft
    clear hfs hfd hft
    rw [hyl] at hzr
    have HINV := Lib.hid hinv
    have HZR := Lib.hid hzr
    have HTT := Lib.hid hLt
    have HTL := Lib.hid hT
    clear hinv hzr hLt hT
    by_cases hge : m ≤ t
    · obtain ⟨j, hj⟩ : ∃ j, j + m = t := ⟨t - m, by omega⟩
      have hjI : (t : Int) - (m : Int) = (j : Int) := by omega
      have hcl := hbl.cell (t - 1) (by rw [HTT.out]; omega)
      have htI : ((t : Int) - 1).toNat = t - 1 := by omega
      have hTj : j < T.length := by rw [HTL.out]; omega
      have hct := hbt.cell j hTj
      have hft := hbt.free j hTj
      obtain ⟨l0, hl0⟩ : ∃ l0, cf L (t - 1) = l0 := ⟨_, rfl⟩
      rw [hl0] at hcl
      have HL0 := Lib.hid hl0
      clear hl0
      have HBL := Lib.hid hbl
      have HBT := Lib.hid hbt
      have HF := Lib.hid hf
      have HKW := Lib.hid hkw
      clear hbl hbt hf hkw
      go_wp2_with fail
      refine (fmul8 fb l0 iv w' HF.out).mono ?_
      rintro e w2 ⟨rfl, he⟩
      obtain ⟨q, hq⟩ : ∃ q, fm l0 iv = q := ⟨_, rfl⟩
      rw [hq]
      have HQ := Lib.hid hq
      clear hq
      have hct2 := (he.cell ⟨bt, j, none⟩).trans hct
      have hft2 := (he.frozen ⟨bt, j, none⟩).trans hft
      have HB1 := Lib.hid ((HBT.out.eqv he).set hTj q)
      have HB2 := Lib.hid ((HBL.out.eqv he).only n1 (Only.setCell w2 ⟨bt, j, none⟩ (.int .u8 (q.toNat : Int))))
      have HF2 := Lib.hid ((HF.out.only (b := bt) (Ne.symm n3) (Only.eqv he)).only (Ne.symm n3) (Only.setCell w2 ⟨bt, j, none⟩ (.int .u8 (q.toNat : Int))))
      have HK2 := Lib.hid ((Only.setCell w2 ⟨bt, j, none⟩ (.int .u8 (q.toNat : Int))).keeps ((Only.eqv (b := bt) he).keeps HKW.out n5) n5)
      have HCQ := Lib.hid (World.cell?_setCell_same w2 ⟨bt, j, none⟩ (.int .u8 (q.toNat : Int)) hct2)
      clear hct hft hcl he
      have kX : (j : Int) < (x.size : Int) := by omega
      go_wp2
      clear hct2 hft2
      obtain ⟨w3, hw3⟩ : ∃ w3, w2.setCell ⟨bt, j, none⟩ (.int .u8 (q.toNat : Int)) = w3 := ⟨_, rfl⟩
      rw [hw3]
      rw [hw3] at HB1 HB2 HF2 HK2 HCQ
      clear hw3
      have hcall : ∀ W, Eqv w3 W → Calls Try.prog 73 #[.pointer (some ⟨fb, 0, none⟩), .slice (some ⟨bl, j, none⟩) (t - j) (cl - j), .int .u8 (q.toNat : Int), .string y] W fun e w' =>
          e = .returned (.tuple #[]) ∧ Blk bl (atRow L j q (ls y) m) w' ∧ Only bl w3 w' := fun W he => by
        have h := addTimes_any fb bl j (cl - j) q y L W (HF2.out.only (b := bl) (Ne.symm n2) (Only.eqv he)) (HB2.out.eqv he) (Ne.symm n2) (by rw [HTT.out]; omega) (by rw [HTT.out]; omega)
        rw [HTT.out, hyl] at h
        exact h.mono fun e w' ⟨h1, h2, h3⟩ => ⟨h1, h2, (Only.eqv he).trans h3⟩
      have HC := Lib.hid hcall
      clear hcall
      have kI : (j : Int) ≤ (t : Int) := by omega
      have kC : (t : Int) ≤ (cl : Int) := by omega
      have hjc : j < cl := by omega
      refine wp_draw (by kernel_rfl)
        [.pointer (some ⟨fb, 0, none⟩), .slice (some ⟨bl, 0, none⟩) t cl, .int .i64 (j : Int), .slice (some ⟨bl, j, none⟩) (t - j) (cl - j), .slice (some ⟨bt, 0, none⟩) x.size x.size, .int .i64 (j : Int), .pointer (some ⟨bt, j, none⟩), .int .u8 (q.toNat : Int), .string y, .tuple #[]]
        (Once 9 (Eqv w3) (fun W => Blk bl (atRow L j q (ls y) m) W ∧ Only bl w3 W))
        rfl (by kernel_rfl) (fin := ?fin) ?hfin (Once.start (Eqv.drew w3)) ?each ?hend
      case hfin => simp [seqA, dstOf, Act.put]; rfl
      case each =>
        refine ⟨?_, ?_, ?_, ?_, ?_, ?_, ?_, ?_, ?_, ?_, trivial⟩
        all_goals intro LL w4 h0 hd hs hw
        all_goals unfold Does
        all_goals try simp only [Nat.zero_add, Nat.reduceAdd] at h0
        · go_simp; exact fun L' k => hw.same (by decide) k
        · go_simp; exact fun L' k => hw.same (by decide) k
        · go_simp; exact fun L' k => hw.same (by decide) k
        · go_simp
          first
            | exact ⟨(fun e => by omega), fun L' k => hw.same (by decide) k⟩
            | exact fun L' k => hw.same (by decide) k
        · go_simp; exact fun L' k => hw.same (by decide) k
        · go_simp; exact fun L' k => hw.same (by decide) k
        · go_simp; exact fun L' k => hw.same (by decide) k
        · have hA := hw.1 (hs.no (by kernel_rfl) h0)
          have hc1 := (hA.cell ⟨bt, j, none⟩).trans HCQ.out
          go_simp; exact fun L' k => hw.same (by decide) k
        · go_simp; exact fun L' k => hw.same (by decide) k
        · go_simp
          refine (HC.out w4 (hw.1 h0)).mono ?_
          rintro e w5 ⟨rfl, h2, h3⟩
          exact ⟨_, rfl, rfl, fun L' k => Once.done k ⟨h2, h3⟩⟩
      case hend =>
        intro LL w4 hL hw
        obtain ⟨hC1, hC2⟩ := hw.2 (hL 9 (by simp))
        clear hw hL
        have HC1 := Lib.hid hC1
        have HC2 := Lib.hid hC2
        clear hC1 hC2
        obtain ⟨L', hL'⟩ : ∃ L', L' = (atRow L j q (ls y) m).take (t - 1) := ⟨_, rfl⟩
        have HLEN := Lib.hid (show L'.length = t - 1 by rw [hL', List.length_take, atRow_length, HTT.out]; omega)
        have HL' := Lib.hid hL'
        clear hL'
        have t1 : (t : Int) - 1 ≤ (cl : Int) := by omega
        have t2 : (0 : Int) ≤ (t : Int) - 1 := by omega
        go_wp2
        go_step3
        have hyB : (ls y).length = m := by rw [← ls_size]; exact hyl
        refine ⟨rfl, ⟨fb, bl, bt, cl, t - 1, L', T.set j q, ⟨n1, n2, n3, n4, n5, by omega⟩, ⟨HLEN.out, by rw [List.length_set]; exact HTL.out, by omega, ?_, fun k hk => ?_⟩, ⟨?_, ?_, ?_, ?_⟩, rfl, rfl, rfl⟩, ?_⟩
        · have h := div_step (A := ls x) (B := ls y) (T := T) (L := L) (j := j) (q := q) (by omega) (by rw [hyB, HTT.out]; omega) hTj (HZR.out j (by omega)) (by
            rw [hyB, HTT.out, HL0.out, HLA.out, ← HQ.out, fm_assoc, fm_comm iv, HONE.out, fm_one]) HINV.out
          rw [hyB, HTT.out] at h
          rw [HL'.out]; exact h
        · rw [cf_set _ _ _ hTj, if_neg (by omega)]
          exact HZR.out k (by omega)
        · rw [HL'.out]; exact HC1.out.take _
        · exact HB1.out.only (Ne.symm n1) HC2.out
        · exact HF2.out.only (Ne.symm n2) HC2.out
        · exact HC2.out.keeps HK2.out n4
        · show t - 1 < t
          omega
    · have hng : ((t : Int) - (m : Int)) < 0 := by omega
      have HS := Lib.hid (And.intro hbl (And.intro hbt hkw))
      clear hbl hbt hf hkw
      go_wp2
      refine wp_draw (by kernel_rfl)
        [.slice (some ⟨bt, 0, none⟩) x.size x.size, .string (st T), .string (st (trim T)), .slice (some ⟨bl, 0, none⟩) t cl, .string (st L), .string (st (trim L)), .string (st (trim T)), .string (st (trim L)), .int .i64 0]
        (fun _ W => Keeps w' W)
        rfl (by kernel_rfl) (fin := ?finb) ?hfinb ((Keeps.refl w').trans (Below.refl _ w').drew) ?eachb ?hendb
      case hfinb => simp [seqA, dstOf, Act.put]; rfl
      case eachb =>
        refine ⟨?_, ?_, ?_, ?_, ?_, ?_, ?_, ?_, ?_, trivial⟩
        all_goals intro LL w4 h0 hd hs hw
        all_goals unfold Does
        · go_simp
        · have hcv := (HS.out.2.1.below hw).whole x.size (n := x.size) HTL.out.symm
          go_simp
        · go_simp
          refine (ptrim_big w' _ w4 (by rw [st_size, HTL.out]; omega) hw).mono ?_
          rintro e w5 ⟨rfl, h2⟩
          exact ⟨_, rfl, by rw [ls_st], fun _ _ => h2⟩
        · go_simp
        · have hcv := (HS.out.1.below hw).whole cl (n := t) HTT.out.symm
          go_simp
        · go_simp
          refine (ptrim_big w' _ w4 (by rw [st_size, HTT.out]; omega) hw).mono ?_
          rintro e w5 ⟨rfl, h2⟩
          exact ⟨_, rfl, by rw [ls_st], fun _ _ => h2⟩
        · go_simp
        · go_simp
        · go_simp
      case hendb =>
        intro LL w4 hL hw
        clear hL
        go_wp2
        show bodyPost Try.prog Try.f54 (CorePost w0 x y) Exit.ret _ _
        go_ret3
        exact ⟨T, L, rfl, by rw [HTT.out, hyl]; omega, HINV.out, HS.out.2.2.over hw⟩
theorem pdiv_big (w0 : World) (x y0 : ByteArray) (w : World) (hx : x.size ≤ 200000) (hy : y0.size ≤ 200000) (hz : trim (ls y0) ≠ []) (hk : Keeps w0 w) :
    Calls Try.prog 54 #[.string x, .string y0] w (DivPost w0 (ls x) (ls y0)) := by
  have hle := trim_le (ls y0)
  rw [← ls_size] at hle
  have h1 : 1 ≤ (trim (ls y0)).length := by cases h : trim (ls y0) with | nil => exact absurd h hz | cons _ _ => simp
  have hl := trim_last hz
  rw [← cf_trim] at hl
  refine (pdiv_core w0 x y0 (st (trim (ls y0))) (trim (ls y0)).length _ _ w hx h1 (by omega) (st_size _) (by rw [st_toList]; simpa using hz) rfl (by rw [ls_st]; exact hl) rfl (ptrim_big w0 y0 w (by omega) hk)).mono ?_
  rintro e w' ⟨T, L, he, hlt, hinv, hk'⟩
  rw [ls_st] at hinv
  rw [st_size] at hlt
  refine ⟨trim T, trim L, he, trim_trim _, trim_trim _, ?_, div_end rfl hinv, hk'⟩
  have := trim_le L
  omega
set_option maxRecDepth 100000 in
set_option maxHeartbeats 1600000 in
theorem pdivz_big (w0 : World) (x y0 : ByteArray) (w : World) (hy : y0.size ≤ 1000000) (hz : trim (ls y0) = []) (hk : Keeps w0 w) :
    Calls Try.prog 54 #[.string x, .string y0] w fun e w' => e = .returned (.tuple #[.string (st []), .string (st []), .int .i64 16]) ∧ Keeps w0 w' := by
  have HT := Lib.hid (ptrim_big w0 y0 w hy hk)
  rw [hz] at HT
  have hem : (st []).toList.isEmpty = true := by rw [st_toList]; rfl
  go_enter Try.func54, Try.ntmps54
  go_wp2
  go_step3
  go_wp2_with fail
  have ht := HT.out
  refine Calls.mono ht ?_
  rintro e w1 ⟨rfl, hk1⟩
  clear ht
  go_wp2
  rw [Exit.noGoto_ret]
  go_ret3
  exact ⟨rfl, hk1⟩
end Go.Proofs.Ytdlcloenihkkgaa
