/-
  For any two strings and any two registers CrcXors returns true: the register behind two texts of one length, xor-ed, is both's, xor-ed; nothing that was there is changed. No condition.
-/
import Derived.Test.YtpfncikfjjpgmaaRows
import Derived.Test.YtpfncikfjjpgmaaCrcLaw
namespace Go.Proofs.Ytpfncikfjjpgmaa.crcXors
open Go.ChangeShapes Go.WideShapes Go.ChangeAt Go.RowKit Gf Crc
set_option maxRecDepth 100000
open Go.ChangeMaps (open_string shut_string)
set_option linter.unusedVariables false
theorem min_if (s t : ByteArray) (n : Nat) (hn : n = min s.size t.size) : (if t.size < s.size then (t.size : Int) else (s.size : Int)) = (n : Int) := by
  rw [hn, Nat.min_def]
  by_cases h : t.size < s.size
  · rw [if_pos h, if_neg (by omega)]
  · rw [if_neg h, if_pos (by omega)]
/-- The first k bytes are xor-ed. -/
def xRel (wA : World) (rb n : Nat) (a b : List UInt8) (i : Value) (wr : World) : Prop := ∃ (k : Nat) (l : List UInt8), k ≤ n ∧ i = .int .i64 k ∧ l.length = n ∧ (∀ i, i < k → cf l i = cf a i ^^^ cf b i) ∧ Blk rb l wr ∧ Only rb wA wr
theorem xor_full {n : Nat} {a b l : List UInt8} (ha : n ≤ a.length) (hb : n ≤ b.length) (hl : l.length = n) (h : ∀ i, i < n → cf l i = cf a i ^^^ cf b i) : l = bx (a.take n) (b.take n) := by
  refine list_ext_cf (by rw [bx_length, List.length_take, List.length_take]; omega) fun i hi => ?_
  rw [h i (by omega), cf_lt (p := bx (a.take n) (b.take n)) (by rw [bx_length, List.length_take, List.length_take]; omega), cf_lt (show i < a.length by omega), cf_lt (show i < b.length by omega)]
  unfold bx
  rw [List.getElem_zipWith, List.getElem_take, List.getElem_take]
theorem drew_keeps (w : World) : Keeps w w.drew := (Below.refl _ w).drew
set_option maxHeartbeats 1600000 in
theorem core (s t : ByteArray) (p q : Reg) (w : World) (n : Nat) (hn : n = min s.size t.size) (h : n ≤ 600) :
    Calls Try.prog 6 #[.string s, .string t, .agg #[.int .u32 (ru p), .int .u32 (ru q)]] w fun e w' => e = .returned (.bool true) ∧ Below w.heap.size w w' := by
  have hmin := min_if s t n hn
  have hns : n ≤ s.size := by omega
  have hnt : n ≤ t.size := by omega
  clear hn
  have hmk := make8 n (by omega) (w.alloc (.cells #[.int .u32 (ru p), .int .u32 (ru q)] 39))
  have hR := Blk.make (w.alloc (.cells #[.int .u32 (ru p), .int .u32 (ru q)] 39)) n
  have hkA := ((Keeps.refl w).alloc (.cells #[.int .u32 (ru p), .int .u32 (ru q)] 39)).alloc (.cells (zr n) 5)
  have hp0 : ((w.alloc (.cells #[.int .u32 (ru p), .int .u32 (ru q)] 39)).alloc (.cells (zr n) 5)).cell? ⟨w.heap.size, 0, none⟩ = some (.int .u32 (ru p)) := by
    rw [World.cell?_alloc_old _ _ _ (by simp), World.cell?_alloc_new]; rfl
  have hp1 : ((w.alloc (.cells #[.int .u32 (ru p), .int .u32 (ru q)] 39)).alloc (.cells (zr n) 5)).cell? ⟨w.heap.size, 1, none⟩ = some (.int .u32 (ru q)) := by
    rw [World.cell?_alloc_old _ _ _ (by simp), World.cell?_alloc_new]; rfl
  rw [World.size_alloc] at hmk hR
  go_enter Try.func6, Try.ntmps6
  go_wp2_with fail
  clear hmk hmin
  obtain ⟨xb, hxb⟩ : ∃ xb, w.heap.size = xb := ⟨_, rfl⟩
  obtain ⟨rb, hrb⟩ : ∃ rb, xb + 1 = rb := ⟨_, rfl⟩
  obtain ⟨wA, hwA⟩ : ∃ wA, (w.alloc (.cells #[.int .u32 (ru p), .int .u32 (ru q)] 39)).alloc (.cells (zr n) 5) = wA := ⟨_, rfl⟩
  rw [hwA] at hR hkA hp0 hp1
  rw [hxb] at hR hp0 hp1
  rw [hrb] at hR
  rw [hwA, hxb, hrb]
  have HXB := Lib.hid hxb
  have HRB := Lib.hid hrb
  have HK := Lib.hid hkA
  have HP0 := Lib.hid hp0
  have HP1 := Lib.hid hp1
  clear hwA hxb hrb hkA hp0 hp1
  go_loopw [9] (fun i wr => xRel wA rb n (ls s) (ls t) i wr) (fun i _ => n - (intOf i).toNat)
  case atStart => exact ⟨0, z8 n, by omega, rfl, List.length_replicate, by omega, hR, Only.refl _ _⟩
  case round =>
    obtain ⟨k, l, hk, rfl, hl, hlx, hb, ho⟩ := hrel
    clear hR
    by_cases hlt : k < n
    · have hls : k < s.size := by omega
      have hlt2 : k < t.size := by omega
      have HA := Lib.hid (ls_get s k hls)
      have HB := Lib.hid (ls_get t k hlt2)
      have hx := u8_xor8 s[k] t[k]
      have hcl := hb.cell k (by omega)
      have hfr := hb.free k (by omega)
      have HBL := Lib.hid (hb.set (k := k) (by omega) (s[k] ^^^ t[k]))
      have HO := Lib.hid (ho.trans (Only.setCell wr ⟨rb, k, none⟩ (.int .u8 ((s[k] ^^^ t[k]).toNat : Int))))
      clear hb ho
      go_wp2
      refine wp_draw (by kernel_rfl)
        [.slice (some ⟨rb, 0, none⟩) n n, .int .i64 (k : Int), .string s, .int .i64 (k : Int), .int .u8 (s[k].toNat : Int), .string t, .int .i64 (k : Int), .int .u8 (t[k].toNat : Int), .int .u8 ((s[k] ^^^ t[k]).toNat : Int), .pointer (some ⟨rb, k, none⟩), undef]
        (Once 10 (Eqv wr) (Eqv (wr.setCell ⟨rb, k, none⟩ (.int .u8 ((s[k] ^^^ t[k]).toNat : Int)))))
        rfl (by kernel_rfl) (fin := ?fin) ?hfin (Once.start (Eqv.drew wr)) ?each ?hend
      case hfin => simp [seqA, dstOf, Act.put]; rfl
      case each =>
        refine ⟨?_, ?_, ?_, ?_, ?_, ?_, ?_, ?_, ?_, ?_, ?_, trivial⟩
        all_goals intro L w5 h0 hd hs hw
        all_goals unfold Does
        all_goals try simp only [Nat.zero_add, Nat.reduceAdd] at h0
        · go_simp; exact fun L' k => hw.same (by decide) k
        · go_simp; exact fun L' k => hw.same (by decide) k
        · go_simp; exact fun L' k => hw.same (by decide) k
        · go_simp; exact fun L' k => hw.same (by decide) k
        · go_simp; exact fun L' k => hw.same (by decide) k
        · go_simp; exact fun L' k => hw.same (by decide) k
        · go_simp; exact fun L' k => hw.same (by decide) k
        · go_simp; exact fun L' k => hw.same (by decide) k
        · go_simp; exact fun L' k => hw.same (by decide) k
        · go_simp; exact fun L' k => hw.same (by decide) k
        · have hA := hw.1 h0
          have hc5 := (hA.cell ⟨rb, k, none⟩).trans hcl
          have hf5 := (hA.frozen ⟨rb, k, none⟩).trans hfr
          go_simp
          exact fun L' k => Once.done k (hA.setCell _ _)
      case hend =>
        intro L w5 hL hw
        have he := hw.2 (hL 10 (by simp))
        clear hL hw
        go_wp2
        go_roundw
        case rel =>
          refine ⟨k + 1, _, by omega, by go_num, by rw [List.length_set]; exact hl, fun i hi => ?_, HBL.out.eqv he, HO.out.trans (Only.eqv he)⟩
          rw [cf_set l k _ (by omega)]
          by_cases e : i = k
          · subst e; rw [if_pos rfl, HA.out, HB.out]
          · rw [if_neg e]; exact hlx i (by omega)
        case measure => simp [intOf]; omega
    · obtain rfl : k = n := by omega
      have hX := xor_full (by rw [← ls_size]; exact hns) (by rw [← ls_size]; exact hnt) hl hlx
      have HL := Lib.hid (mo_lin ((ls s).take k) ((ls t).take k) p q (by rw [List.length_take, List.length_take, ← ls_size, ← ls_size]; omega))
      rw [← hX] at HL
      have HES := Lib.hid (show ls (s.extract 0 k) = (ls s).take k by rw [ls_extract]; simp)
      have HET := Lib.hid (show ls (t.extract 0 k) = (ls t).take k by rw [ls_extract]; simp)
      rw [← HES.out, ← HET.out] at HL
      have hz1 : (s.extract 0 k).size ≤ 1000 := by rw [ls_size, HES.out, List.length_take]; omega
      have hz2 : (t.extract 0 k).size ≤ 1000 := by rw [ls_size, HET.out, List.length_take]; omega
      have hz3 : (st l).size ≤ 1000 := by rw [st_size]; omega
      have HKW := Lib.hid (ho.keeps HK.out (by have := HXB.out; have := HRB.out; omega))
      have hq0 := (ho.cell (p := ⟨xb, 0, none⟩) (cell_there HP0.out) (by have := HRB.out; show xb ≠ rb; omega)).trans HP0.out
      have hq1 := (ho.cell (p := ⟨xb, 1, none⟩) (cell_there HP1.out) (by have := HRB.out; show xb ≠ rb; omega)).trans HP1.out
      have hbx := cell_there hq0
      have HQ0 := Lib.hid hq0
      have HQ1 := Lib.hid hq1
      have HBK := Lib.hid hb
      have HLL := Lib.hid hl
      obtain ⟨m1, hm1⟩ : ∃ m1, mo p (ls (s.extract 0 k)) = m1 := ⟨_, rfl⟩
      obtain ⟨m2, hm2⟩ : ∃ m2, mo q (ls (t.extract 0 k)) = m2 := ⟨_, rfl⟩
      rw [hm1, hm2] at HL
      have HM1 := Lib.hid hm1
      have HM2 := Lib.hid hm2
      have x1 := ru_xor p q
      have x2 := ru_xor m1 m2
      clear hX hlx hb ho hq0 hq1 hm1 hm2 hlt hk hl
      obtain ⟨S1, hS1⟩ : ∃ S1, s.extract 0 k = S1 := ⟨_, rfl⟩
      obtain ⟨S2, hS2⟩ : ∃ S2, t.extract 0 k = S2 := ⟨_, rfl⟩
      rw [hS1] at hz1 HM1
      rw [hS2] at hz2 HM2
      clear HES HET
      go_wp2
      refine wp_draw (by kernel_rfl)
        [.pointer (some ⟨xb, 0, none⟩), .int .u32 (ru p), .pointer (some ⟨xb, 1, none⟩), .int .u32 (ru q), .int .u32 (ru (p ^^^ q)), .slice (some ⟨rb, 0, none⟩) k k, .string (st l), .int .u32 (ru (m1 ^^^ m2)),
          .pointer (some ⟨xb, 0, none⟩), .int .u32 (ru p), .string s, .int .i64 (k : Int), .string S1, .int .u32 (ru m1), .pointer (some ⟨xb, 1, none⟩), .int .u32 (ru q), .string t, .int .i64 (k : Int), .string S2, .int .u32 (ru m2), .int .u32 (ru (m1 ^^^ m2)), .bool true, .bool true, .bool true, .bool true, .bool true]
        (fun _ W => Keeps wr W)
        rfl (by kernel_rfl) (fin := ?finc) ?hfinc (drew_keeps wr) ?eachc ?hendc
      case hfinc => simp [seqA, dstOf, Act.put]; rfl
      case eachc =>
        refine ⟨?_, ?_, ?_, ?_, ?_, ?_, ?_, ?_, ?_, ?_, ?_, ?_, ?_, ?_, ?_, ?_, ?_, ?_, ?_, ?_, ?_, ?_, ?_, ?_, ?_, ?_, trivial⟩
        all_goals intro L w5 hq0 hd hs hw
        all_goals try rw [if_pos (by rfl)]
        all_goals unfold Does
        · go_simp
        · have hc := (Below.cell hw (p := ⟨xb, 0, none⟩) hbx).trans HQ0.out
          go_simp
        · go_simp
        · have hc := (Below.cell hw (p := ⟨xb, 1, none⟩) hbx).trans HQ1.out
          go_simp
        · go_simp
        · go_simp
        · have hcv := (HBK.out.below hw).whole k (n := k) HLL.out.symm
          go_simp
        · go_simp
          refine (more_any wr _ _ w5 (by omega) hw).mono ?_
          rintro e w6 ⟨rfl, h6⟩
          exact ⟨_, rfl, by rw [ls_st, HL.out], fun _ _ => h6⟩
        · go_simp
        · have hc := (Below.cell hw (p := ⟨xb, 0, none⟩) hbx).trans HQ0.out
          go_simp
        · go_simp
        · go_simp
        · go_simp
        · go_simp
          refine (more_any wr _ _ w5 (by omega) hw).mono ?_
          rintro e w6 ⟨rfl, h6⟩
          exact ⟨_, rfl, by rw [HM1.out], fun _ _ => h6⟩
        · go_simp
        · have hc := (Below.cell hw (p := ⟨xb, 1, none⟩) hbx).trans HQ1.out
          go_simp
        · go_simp
        · go_simp
        · go_simp
        · go_simp
          refine (more_any wr _ _ w5 (by omega) hw).mono ?_
          rintro e w6 ⟨rfl, h6⟩
          exact ⟨_, rfl, by rw [HM2.out], fun _ _ => h6⟩
        · go_simp
        · go_simp
        · go_simp
        · go_simp
          refine (awake5_any wr w5 hw).mono ?_
          rintro e w6 ⟨rfl, h6⟩
          exact ⟨_, rfl, rfl, fun _ _ => h6⟩
        · go_simp
        · go_simp
      case hendc =>
        intro L w5 hL hw
        clear hL
        go_wp2
        go_ret
        exact ⟨rfl, HKW.out.trans hw⟩
set_option maxHeartbeats 1600000 in
theorem off (s t : ByteArray) (p q : Reg) (w : World) (n : Nat) (hn : n = min s.size t.size) (h : ¬ n ≤ 600) :
    Calls Try.prog 6 #[.string s, .string t, .agg #[.int .u32 (ru p), .int .u32 (ru q)]] w fun e w' => e = .returned (.bool true) ∧ Below w.heap.size w w' := by
  have hmin := min_if s t n hn
  clear hn
  go_enter Try.func6, Try.ntmps6
  go_wp2_with fail
  refine (awake5_any w _ ((Keeps.refl w).alloc _)).mono ?_
  rintro e w9 ⟨rfl, hk9⟩
  go_wp2
  go_ret
  exact ⟨rfl, hk9⟩
theorem walk (s : ByteArray) (hw : s.size ≤ maxLen) (t : ByteArray) (hw2 : t.size ≤ maxLen) (xs : List Int) (hx : xs.length = 2) (hxw : ∀ x ∈ xs, (Lit.int .u32 x).wf = true) (w : World) :
    Calls Try.prog 6 #[.string s, .string t, .agg (xs.map (.int .u32)).toArray] w fun e w' => e = .returned (.bool true) ∧ Below w.heap.size w w' := by
  match xs, hx with
  | [x, y], _ =>
    obtain ⟨p, rfl⟩ := ru_of (bounds_u32 (hxw x (by simp)))
    obtain ⟨q, rfl⟩ := ru_of (bounds_u32 (hxw y (by simp)))
    by_cases h : min s.size t.size ≤ 600
    · exact core s t p q w _ rfl h
    · exact off s t p q w _ rfl h

theorem own : ownKnob Try.prog.godebug = none := by kernel_rfl
theorem laidOut : laidOutB Try.prog = true := by kernel_rfl
set_option maxRecDepth 100000 in
theorem lifted (os : Os) (started : os.Started) (H : Type) (enc : TypeId × Value → H) :
    ReturnsInHanded {} Try.checked os 6 .any (Rows.crcXorsSpec.pre6 enc Try.prog Try.f6 Rows.crcXorsRow.domain false) (Rows.crcXorsSpec.post enc Try.prog Try.f6 false true false false) := by
  refine returnsInHanded_of_change (C := Try.checked) own started (by kernel_rfl) Try.func6
    (ChangeSpec.witness6 (enc := enc) (C := Try.checked) false ⟨#[], #[.string ByteArray.empty, .string ByteArray.empty, .agg #[.int .u32 0, .int .u32 0]], []⟩ 8 (by kernel_rfl) (by kernel_rfl) (by kernel_rfl) (by kernel_rfl)) ?_
  intro W base args ds gs before hval0 hW hcnd _
  have hval : ∀ (j : Nat) t v, Try.f6.params[j]? = some t → args[j]? = some v → Value.okWide Try.prog W .any base t v := hval0
  have hW' := hW
  obtain ⟨p, q, hA0, hV, rfl, hfz, hnd⟩ := hW
  have hA : DataW.TrodAll enc Try.prog W 0 (fun _ => true) true Try.f6.params.toList args.toList ds p := hA0
  rw [Try.params6] at hA hval
  obtain ⟨v0, vs0, d0, ds0, p0, q0, hargs, rfl, rfl, h0, r0⟩ := trodAll_cons hA
  obtain ⟨v1, vs1, d1, ds1, p1, q1, rfl, rfl, rfl, h1, r1⟩ := trodAll_cons r0
  obtain ⟨v2, vs2, d2, ds2, p2, q2, rfl, rfl, rfl, h2, r2⟩ := trodAll_cons r1
  obtain ⟨rfl, rfl, rfl⟩ := trodAll_nil r2
  obtain rfl : args = #[v0, v1, v2] := by cases args; simp_all
  obtain ⟨rfl, rfl⟩ := trodVars_none hV
  obtain ⟨a0, rfl, rfl, rfl, w0⟩ := open_string Try.underlying9 (hval 0 9 v0 rfl rfl) h0
  obtain ⟨a1, rfl, rfl, rfl, w1⟩ := open_string Try.underlying9 (hval 1 9 v1 rfl rfl) h1
  have k2 := h2
  have lt2 : ∀ x ∈ p2, x.block < W.heap.size := by obtain ⟨m, hm⟩ := k2; exact DataW.trod_lt m _ _ _ hm
  obtain ⟨x2, n2, rfl, wx2⟩ := open_arr Try.underlying39 Try.underlying23 (by kernel_rfl) (by kernel_rfl) (hval 2 39 v2 rfl rfl) h2
  clear hA0 hval0
  refine (walk a0 w0 a1 w1 x2 n2 wx2 W).mono fun e W' ⟨he, bel⟩ => ?_
  subst he
  exact ⟨_, rfl, _, _, _, [], _, [], hW', trodAll_mk1 (shut_bool Try.underlying4 _), (trodAll_cons_mk (shut_string Try.underlying9 w0) (trodAll_cons_mk (shut_string Try.underlying9 w1) (trodAll_cons_mk (Below.trod laidOut (by kernel_rfl) (of_decide_eq_true (by kernel_rfl)) k2 bel lt2) trodAll_mk0))), rfl, bel.frame _, fun h => by cases h⟩

theorem over : Rows.crcXorsRow.holds Try.pinned (OpenSpec.ofChange Rows.crcXorsSpec) :=
  OpenClaim.holds_of_wide 6 Try.f6 rfl rfl rfl rfl rfl rfl rfl ⟨rfl, rfl, rfl, rfl, rfl⟩ rfl rfl rfl rfl rfl (by kernel_rfl) Try.func6 (by kernel_rfl)
    (of_decide_eq_true (by kernel_rfl)) (by unfold Func.isWrapper; first | (rw [if_pos (by decide +kernel)]; kernel_rfl) | (rw [if_neg (by decide +kernel)]; exact ⟨rfl, rfl⟩))
    (fun os started H enc _ => lifted os started H enc)

theorem proved : Rows.CrcXorsSaid := over
#print axioms proved
end Go.Proofs.Ytpfncikfjjpgmaa.crcXors
