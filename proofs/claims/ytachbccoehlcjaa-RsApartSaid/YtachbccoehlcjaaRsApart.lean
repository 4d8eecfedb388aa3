/-
  For any strings and any list of places RsApart returns true: a text that differs from a word in one to 64 bytes is none; nothing that was there is changed. No condition.
-/
import Derived.Test.YtachbccoehlcjaaRows
import Derived.Test.YtachbccoehlcjaaRsLaw
import Derived.Lib.AtoiErrMem
import Derived.ChangeSlices
import Derived.OpenShut
import Derived.ShutString
import Derived.ChangeOld
import Derived.Carry
import Derived.WalkLawsBesides
namespace Go.Proofs.Ytachbccoehlcjaa.rsApart
open Go.ChangeShapes Go.WideShapes Go.ChangeAt Go.RowKit Gf
open Go.ChangeMaps (open_string shut_string)
set_option linter.unusedVariables false
/-- A slice of numbers that came in. -/
def IsInts (W : World) (a : Option Addr) (len : Nat) (l : List Int) : Prop :=
  l.length = len ∧ (0 < len → ∃ b off, a = some ⟨b, off, none⟩ ∧ b < W.heap.size ∧ ∀ i, i < len → W.cell? ⟨b, off + i, none⟩ = some (.int .i64 (l.getD i 0)))
theorem cell_old {W : World} {p : Addr} {v : Value} (h : W.cell? p = some v) : p.block < W.heap.size := by
  obtain ⟨o, ho, _⟩ := cells_of_cell h
  exact (Array.getElem?_eq_some_iff.1 ho).1
theorem open_irow {H : Type} {enc : TypeId × Value → H} {W : World} {base : Nat} {held : Bool} {a : Option Addr} {len cap : Nat} {d : DataW H} {p : List MemPlace}
    (h : DataW.Trod enc Try.prog W base (fun _ => true) held 34 (.slice a len cap) d p) : ∃ l, IsInts W a len l := by
  obtain ⟨fuel, hf⟩ := h
  rcases open_ints Try.underlying34 Try.underlying3 (by kernel_rfl) hf with ⟨hcs, _⟩ | ⟨x, l, c, zs, hcs, _, hl, hm, hz, _, hcell, hwz⟩
  · simp [Value.cells] at hcs
    obtain ⟨rfl, rfl, rfl⟩ := hcs
    exact ⟨[], rfl, by omega⟩
  · simp [Value.cells] at hcs
    obtain ⟨rfl, rfl, rfl⟩ := hcs
    simp at hz
    refine ⟨zs.take len, by rw [List.length_take]; omega, fun h0 => ?_⟩
    obtain ⟨b, off, rfl, hc⟩ := ints_at hcell (by omega)
    refine ⟨b, off, rfl, cell_old (hc 0 (by omega)), fun i hi => ?_⟩
    rw [hc i (by omega)]
    simp only [List.getD_eq_getElem?_getD]
    rw [List.getElem?_take_of_lt (by omega)]
set_option maxRecDepth 100000 in
set_option maxHeartbeats 4000000 in
theorem off (a : Option Addr) (len cap : Nat) (d u : ByteArray) (w : World) (h : 191 < (d.size : Int) ∨ ((d.size : Int) ≤ 191 ∧ 64 < (len : Int)) ∨ ((d.size : Int) ≤ 191 ∧ (len : Int) ≤ 64 ∧ 64 < (u.size : Int))) :
    Calls Try.prog 6 #[.string d, .slice a len cap, .string u] w fun e w' => e = .returned (.bool true) ∧ Keeps w w' := by
  rcases h with h | ⟨h1, h⟩ | ⟨h1, h2, h⟩
  all_goals
    go_enter Try.func6, Try.ntmps6
    go_wp2_with fail
    refine (awake3_any w _ (Keeps.refl w)).mono ?_
    rintro e wk1 ⟨rfl, hk1⟩
    go_wp2
    go_ret
    exact ⟨rfl, hk1⟩
def apRel (b : Nat) (v : List UInt8) (wB : World) (i : Value) (wr : World) : Prop := ∃ (k : Nat) (r : List UInt8), k ≤ 64 ∧ i = .int .i64 (k : Int) ∧ r.length = 255 ∧ Blk b r wr ∧ unlike r v ≤ k ∧ Only b wB wr
theorem apart_is {r v : List UInt8} (hv : IsWord v) (hu : unlike r v ≤ 64) : isB r = (r == v) := by
  by_cases h : r = v
  · subst h
    rw [(isB_iff r).2 hv]; simp
  · have h1 : (r == v) = false := by simpa using h
    rw [h1]
    cases e : isB r
    · rfl
    · exact absurd (words_apart ((isB_iff r).1 e) hv hu) h
set_option maxRecDepth 100000 in
set_option maxHeartbeats 4000000 in
theorem core (a : Option Addr) (len cap : Nat) (l : List Int) (d u : ByteArray) (w : World) (hr : IsInts w a len l) (h0 : (d.size : Int) ≤ 191) (h1 : (len : Int) ≤ 64) (h2 : (u.size : Int) ≤ 64) :
    Calls Try.prog 6 #[.string d, .slice a len cap, .string u] w fun e w' => e = .returned (.bool true) ∧ Keeps w w' := by
  have HF1 := Lib.hid (show (st (ls d ++ z8 (191 - d.size))).size = 191 by rw [st_size, List.length_append, z8_length, ← ls_size]; omega)
  have HR := Lib.hid hr
  clear hr
  go_enter Try.func6, Try.ntmps6
  go_wp2_with fail
  refine (full_any w _ 191 _ (by omega) (by omega) (Keeps.refl w)).mono ?_
  rintro e wk1 ⟨rfl, hk1⟩
  go_wp2_with fail
  refine (word_any w _ _ HF1.out hk1).mono ?_
  rintro e wk2 ⟨p, rfl, hp, hw1, hk2⟩
  clear hk1
  obtain ⟨v, hv⟩ : ∃ v, ls (st (ls d ++ z8 (191 - d.size))) ++ p = v := ⟨_, rfl⟩
  rw [hv] at hw1
  rw [show (fun p => ls (st (ls d ++ z8 (191 - d.size))) ++ p) p = v from hv]
  have hvl := hw1.1
  have HW := Lib.hid hw1
  have e1 : (st v).size = 255 := by rw [st_size]; exact hvl
  have hcb := Lib.run_convert_string_bytes (P := Try.prog) wk2 9 31 5 (st v) Try.underlying9 Try.underlying31 Try.underlying5
  rw [e1] at hcb
  have HBK := Lib.hid (show Blk wk2.heap.size v (Lib.bytesWorld wk2 5 (st v)) by have := Blk.bytes wk2 (st v); rwa [ls_st] at this)
  have HKB := Lib.hid (hk2.trans (Lib.bytesWorld_below wk2 5 (st v)))
  have hsz0 := Below.size hk2
  obtain ⟨cb, hcbE⟩ : ∃ cb, grownCap wk2 255 0 5 = cb := ⟨_, rfl⟩
  have hcb2 : 255 ≤ cb := by rw [← hcbE]; exact grownCap_ge _ _ _ _
  rw [hcbE] at hcb
  obtain ⟨wB, hwB⟩ : ∃ wB, Lib.bytesWorld wk2 5 (st v) = wB := ⟨_, rfl⟩
  rw [hwB] at hcb HBK HKB
  clear hv hw1 hp hk2 hwB hcbE
  go_wp2
  obtain ⟨b, hb⟩ : ∃ b, wk2.heap.size = b := ⟨_, rfl⟩
  rw [hb] at HBK hsz0
  rw [hb]
  clear hcb
  go_loopw [10] (fun i wr => apRel b v wB i wr) (fun i _ => 64 - (intOf i).toNat)
  case atStart => exact ⟨0, v, by omega, rfl, hvl, HBK.out, by rw [unlike_self]; exact Nat.le_refl _, Only.refl _ _⟩
  case round =>
    obtain ⟨k, r, hk, rfl, hrl, hblk, hun, hon⟩ := hrel
    have HBL := Lib.hid hblk
    have HUN := Lib.hid hun
    have HON := Lib.hid hon
    have HKR := Lib.hid (hon.keeps (w0 := w) HKB.out hsz0)
    clear hblk hun hon
    by_cases hlt : k < len ∧ k < u.size
    · obtain ⟨hl1, hl2⟩ := hlt
      obtain ⟨bA, oA, ha, hbA, hcA⟩ := HR.out.2 (by omega)
      have hcx := (Below.cell HKR.out (p := ⟨bA, oA + k, none⟩) hbA).trans (hcA k hl1)
      obtain ⟨xv, hxv⟩ : ∃ xv, l.getD k 0 = xv := ⟨_, rfl⟩
      rw [hxv] at hcx
      clear hcA hxv
      subst ha
      have hgu := ls_get u k hl2
      have i1 : (k : Int) < (len : Int) := by omega
      have i2 : (k : Int) < (u.size : Int) := by omega
      by_cases hx0 : xv < 0 ∨ 255 ≤ xv
      · rcases hx0 with hx | hx
        all_goals
          go_wp2_with fail
          refine (awake3_any w _ HKR.out).mono ?_
          rintro e wk1 ⟨rfl, hk1⟩
          go_wp2
          go_ret
          exact ⟨rfl, hk1⟩
      · obtain ⟨m, rfl⟩ : ∃ m : Nat, xv = (m : Int) := ⟨xv.toNat, by omega⟩
        have hm : m < 255 := by omega
        clear hx0
        have hmr : m < r.length := by omega
        have hcr := HBL.out.cell m hmr
        have hzr := HBL.out.free m hmr
        obtain ⟨y, hy⟩ : ∃ y, cf r m = y := ⟨_, rfl⟩
        obtain ⟨c, hc⟩ : ∃ c, cf (ls u) k = c := ⟨_, rfl⟩
        obtain ⟨z, hz⟩ : ∃ z, y ^^^ c = z := ⟨_, rfl⟩
        rw [hy] at hcr
        rw [hc] at hgu
        have hbx : bits BinOp.xor IntKind.u8 (y.toNat : Int) (c.toNat : Int) = (z.toNat : Int) := by rw [xr_bits (u8_bd _) (u8_bd _), xr8, hz]
        clear hy hc hz
        have m1 : (m : Int) < 255 := by omega
        have m2 : (0 : Int) ≤ (m : Int) := by omega
        obtain ⟨ad, had⟩ : ∃ ad : Addr, ad = ⟨b, m, none⟩ := ⟨_, rfl⟩
        have HAD := Lib.hid had
        clear had
        go_wp2
        refine wp_draw (by kernel_rfl)
          [.slice (some ⟨b, 0, none⟩) 255 cb, .slice (some ⟨bA, oA, none⟩) len cap, .int .i64 (k : Int), .pointer (some ⟨bA, oA + k, none⟩), .int .i64 (m : Int), .slice (some ⟨b, 0, none⟩) 255 cb, .slice (some ⟨bA, oA, none⟩) len cap, .int .i64 (k : Int), .pointer (some ⟨bA, oA + k, none⟩), .int .i64 (m : Int),
            .pointer (some ⟨b, m, none⟩), .int .u8 (y.toNat : Int), .string u, .int .i64 (k : Int), .int .u8 (c.toNat : Int), .int .u8 (z.toNat : Int), .pointer (some ⟨b, m, none⟩), undef]
          (Once 17 (Eqv wr) (Eqv (wr.setCell ad (.int .u8 (z.toNat : Int)))))
          rfl (by kernel_rfl) (fin := ?fin) ?hfin (Once.start (Eqv.drew wr)) ?each ?hend
        case hfin => simp [seqA, dstOf, Act.put]; rfl
        case each =>
          refine ⟨?_, ?_, ?_, ?_, ?_, ?_, ?_, ?_, ?_, ?_, ?_, ?_, ?_, ?_, ?_, ?_, ?_, ?_, trivial⟩
          all_goals intro L w5 hq0 hd hs hw
          all_goals unfold Does
          all_goals try simp only [Nat.zero_add, Nat.reduceAdd] at hq0
          · go_simp; exact fun L' k => hw.same (by decide) k
          · go_simp; exact fun L' k => hw.same (by decide) k
          · go_simp; exact fun L' k => hw.same (by decide) k
          · go_simp; exact fun L' k => hw.same (by decide) k
          · have hcc := ((hw.1 (hs.no (by kernel_rfl) hq0)).cell _).trans hcx
            go_simp; exact fun L' k => hw.same (by decide) k
          · go_simp; exact fun L' k => hw.same (by decide) k
          · go_simp; exact fun L' k => hw.same (by decide) k
          · go_simp; exact fun L' k => hw.same (by decide) k
          · go_simp; exact fun L' k => hw.same (by decide) k
          · have hcc := ((hw.1 (hs.no (by kernel_rfl) hq0)).cell _).trans hcx
            go_simp; exact fun L' k => hw.same (by decide) k
          · go_simp; exact fun L' k => hw.same (by decide) k
          · have hcc := ((hw.1 (hs.no (by kernel_rfl) hq0)).cell _).trans hcr
            go_simp; exact fun L' k => hw.same (by decide) k
          · go_simp; exact fun L' k => hw.same (by decide) k
          · go_simp; exact fun L' k => hw.same (by decide) k
          · go_simp; exact fun L' k => hw.same (by decide) k
          · go_simp; exact fun L' k => hw.same (by decide) k
          · go_simp; exact fun L' k => hw.same (by decide) k
          · have hA := hw.1 hq0
            have hc1 := (hA.cell _).trans hcr
            have hc2 := (hA.frozen _).trans hzr
            go_simp
            exact fun L' k => Once.done k (by rw [HAD.out]; exact hA.setCell _ _)
        case hend =>
          intro L w5 hL hw
          have hC := hw.2 (hL 17 (by simp))
          clear hw hL
          go_wp2
          go_roundw
          case rel =>
            have had := HAD.out
            subst had
            refine ⟨k + 1, r.set m z, by omega, by go_num, by rw [List.length_set]; exact hrl, (HBL.out.set hmr z).eqv hC, ?_, HON.out.trans ((Only.setCell wr ⟨b, m, none⟩ _).trans (Only.eqv hC))⟩
            have := unlike_set r v m z
            have := HUN.out
            omega
          case measure => simp [intOf]; omega
    · have hlt2 : (decide ((k : Int) < (len : Int)) && decide ((k : Int) < (u.size : Int))) = false := by
        rw [Bool.and_eq_false_iff]
        simp only [decide_eq_false_iff_not]
        omega
      have HIS := Lib.hid (show isB r = (r == v) from apart_is HW.out (by have := HUN.out; omega))
      have HISV := Lib.hid (show isB v = true from (isB_iff v).2 HW.out)
      have hst := st_toList
      obtain ⟨q, hq⟩ : ∃ q, (r == v) = q := ⟨_, rfl⟩
      have HQ := Lib.hid hq
      by_cases hkl : (k : Int) < (len : Int)
      · have hku : ¬ (k : Int) < (u.size : Int) := by omega
        go_wp2
        refine wp_draw (by kernel_rfl)
          [.slice (some ⟨b, 0, none⟩) 255 cb, .string (st r), .bool q, .slice (some ⟨b, 0, none⟩) 255 cb, .string (st r), .string (st v), .bool q, .bool true, .bool true, .string (st v), .bool true, .bool true, .bool true, .bool true, .bool true, .bool true]
          (fun _ W => Keeps wr W)
          rfl (by kernel_rfl) (fin := ?finb) ?hfinb ((Keeps.refl wr).trans (Below.refl _ wr).drew) ?eachb ?hendb
        case hfinb => simp [seqA, dstOf, Act.put]; rfl
        case eachb =>
          refine ⟨?_, ?_, ?_, ?_, ?_, ?_, ?_, ?_, ?_, ?_, ?_, ?_, ?_, ?_, ?_, ?_, trivial⟩
          all_goals intro L w5 hq0 hd hs hw
          all_goals try rw [if_pos (by rfl)]
          all_goals unfold Does
          · go_simp
          · have hcv := (HBL.out.below hw).whole cb (n := 255) hrl.symm
            go_simp
          · go_simp
            refine (rsis_any wr _ w5 (by rw [st_size]; omega) hw).mono ?_
            rintro e w6 ⟨rfl, h6⟩
            exact ⟨_, rfl, by rw [ls_st, HIS.out, HQ.out], fun _ _ => h6⟩
          · go_simp
          · have hcv := (HBL.out.below hw).whole cb (n := 255) hrl.symm
            go_simp
          · go_simp
          · go_simp
          · go_simp
          · go_simp
          · go_simp
          · go_simp
            refine (rsis_any wr _ w5 (by rw [st_size]; omega) hw).mono ?_
            rintro e w6 ⟨rfl, h6⟩
            exact ⟨_, rfl, by rw [ls_st, HISV.out], fun _ _ => h6⟩
          · go_simp
          · go_simp
          · go_simp
            refine (awake3_any wr w5 hw).mono ?_
            rintro e w6 ⟨rfl, h6⟩
            exact ⟨_, rfl, rfl, fun _ _ => h6⟩
          · go_simp
          · go_simp
        case hendb =>
          intro L w5 hL hw
          clear hL
          go_wp2
          go_ret
          exact ⟨rfl, HKR.out.over hw⟩
      · go_wp2
        refine wp_draw (by kernel_rfl)
          [.slice (some ⟨b, 0, none⟩) 255 cb, .string (st r), .bool q, .slice (some ⟨b, 0, none⟩) 255 cb, .string (st r), .string (st v), .bool q, .bool true, .bool true, .string (st v), .bool true, .bool true, .bool true, .bool true, .bool true, .bool true]
          (fun _ W => Keeps wr W)
          rfl (by kernel_rfl) (fin := ?finc) ?hfinc ((Keeps.refl wr).trans (Below.refl _ wr).drew) ?eachc ?hendc
        case hfinc => simp [seqA, dstOf, Act.put]; rfl
        case eachc =>
          refine ⟨?_, ?_, ?_, ?_, ?_, ?_, ?_, ?_, ?_, ?_, ?_, ?_, ?_, ?_, ?_, ?_, trivial⟩
          all_goals intro L w5 hq0 hd hs hw
          all_goals try rw [if_pos (by rfl)]
          all_goals unfold Does
          · go_simp
          · have hcv := (HBL.out.below hw).whole cb (n := 255) hrl.symm
            go_simp
          · go_simp
            refine (rsis_any wr _ w5 (by rw [st_size]; omega) hw).mono ?_
            rintro e w6 ⟨rfl, h6⟩
            exact ⟨_, rfl, by rw [ls_st, HIS.out, HQ.out], fun _ _ => h6⟩
          · go_simp
          · have hcv := (HBL.out.below hw).whole cb (n := 255) hrl.symm
            go_simp
          · go_simp
          · go_simp
          · go_simp
          · go_simp
          · go_simp
          · go_simp
            refine (rsis_any wr _ w5 (by rw [st_size]; omega) hw).mono ?_
            rintro e w6 ⟨rfl, h6⟩
            exact ⟨_, rfl, by rw [ls_st, HISV.out], fun _ _ => h6⟩
          · go_simp
          · go_simp
          · go_simp
            refine (awake3_any wr w5 hw).mono ?_
            rintro e w6 ⟨rfl, h6⟩
            exact ⟨_, rfl, rfl, fun _ _ => h6⟩
          · go_simp
          · go_simp
        case hendc =>
          intro L w5 hL hw
          clear hL
          go_wp2
          go_ret
          exact ⟨rfl, HKR.out.over hw⟩
theorem walk (d : ByteArray) (wd : d.size ≤ maxLen) (a : Option Addr) (len cap : Nat) (l : List Int) (w : World) (hr : IsInts w a len l) (u : ByteArray) (wu : u.size ≤ maxLen) :
    Calls Try.prog 6 #[.string d, .slice a len cap, .string u] w fun e w' => e = .returned (.bool true) ∧ Below w.heap.size w w' := by
  by_cases h0 : 191 < (d.size : Int)
  · exact off a len cap d u w (.inl h0)
  by_cases h1 : 64 < (len : Int)
  · exact off a len cap d u w (.inr (.inl ⟨by omega, h1⟩))
  by_cases h2 : 64 < (u.size : Int)
  · exact off a len cap d u w (.inr (.inr ⟨by omega, by omega, h2⟩))
  · exact core a len cap l d u w hr (by omega) (by omega) (by omega)

theorem own : ownKnob Try.prog.godebug = none := by kernel_rfl
theorem laidOut : laidOutB Try.prog = true := by kernel_rfl
set_option maxRecDepth 100000 in
theorem lifted (os : Os) (started : os.Started) (H : Type) (enc : TypeId × Value → H) :
    ReturnsInHanded {} Try.checked os 6 .any (Rows.rsApartSpec.pre6 enc Try.prog Try.f6 Rows.rsApartRow.domain false) (Rows.rsApartSpec.post enc Try.prog Try.f6 false true false false) := by
  refine returnsInHanded_of_change (C := Try.checked) own started (by kernel_rfl) Try.func6
    (ChangeSpec.witness6 (enc := enc) (C := Try.checked) false ⟨#[], #[.string ByteArray.empty, .slice none 0 0, .string ByteArray.empty], []⟩ 8 (by kernel_rfl) (by kernel_rfl) (by kernel_rfl) (by kernel_rfl)) ?_
  intro W base args ds gs before hval0 hW hcnd _
  have hval : ∀ (j : Nat) t v, Try.f6.params[j]? = some t → args[j]? = some v → Value.okWide Try.prog W .any base t v := hval0
  have hW' := hW
  obtain ⟨p, q, hA0, hV, rfl, hfz, hnd⟩ := hW
  have hA : DataW.TrodAll enc Try.prog W 0 (fun _ => true) true Try.f6.params.toList args.toList ds p := hA0
  rw [Try.params6] at hA hval
  obtain ⟨v0, vs0, d0, ds0, p0, q0, hargs, rfl, rfl, h0, r0⟩ := trodAll_cons hA
  obtain ⟨v1, vs1, d1, ds1, p1, q1, rfl, rfl, rfl, h1, r1⟩ := trodAll_cons r0
  obtain ⟨v2, vs2, d2, ds2, p2, q2, rfl, rfl, rfl, h2, r2⟩ := trodAll_cons r1
  obtain ⟨rfl, rfl, rfl⟩ := trodAll_nil r2
  obtain rfl : args = #[v0, v1, v2] := by cases args; simp_all
  obtain ⟨rfl, rfl⟩ := trodVars_none hV
  obtain ⟨a0, rfl, rfl, rfl, w0⟩ := open_string Try.underlying9 (hval 0 9 v0 rfl rfl) h0
  obtain ⟨a1, len1, cap1, rfl⟩ := okWide_slice Try.underlying34 (hval 1 34 v1 rfl rfl)
  have k1 := h1
  have lt1 : ∀ x ∈ p1, x.block < W.heap.size := by obtain ⟨m, hm⟩ := k1; exact DataW.trod_lt m _ _ _ hm
  obtain ⟨z1, w1⟩ := open_irow h1
  obtain ⟨a2, rfl, rfl, rfl, w2⟩ := open_string Try.underlying9 (hval 2 9 v2 rfl rfl) h2
  clear hA0 hval0
  refine (walk a0 w0 a1 len1 cap1 z1 W w1 a2 w2).mono fun e W' ⟨he, bel⟩ => ?_
  subst he
  exact ⟨_, rfl, _, _, _, [], _, [], hW', trodAll_mk1 (shut_bool Try.underlying4 _), (trodAll_cons_mk (shut_string Try.underlying9 w0) (trodAll_cons_mk (Below.trod laidOut (by kernel_rfl) (of_decide_eq_true (by kernel_rfl)) k1 bel lt1) (trodAll_cons_mk (shut_string Try.underlying9 w2) trodAll_mk0))), rfl, bel.frame _, fun h => by cases h⟩

theorem over : Rows.rsApartRow.holds Try.pinned (OpenSpec.ofChange Rows.rsApartSpec) :=
  OpenClaim.holds_of_wide 6 Try.f6 rfl rfl rfl rfl rfl rfl rfl ⟨rfl, rfl, rfl, rfl, rfl⟩ rfl rfl rfl rfl rfl (by kernel_rfl) Try.func6 (by kernel_rfl)
    (of_decide_eq_true (by kernel_rfl)) (by unfold Func.isWrapper; first | (rw [if_pos (by decide +kernel)]; kernel_rfl) | (rw [if_neg (by decide +kernel)]; exact ⟨rfl, rfl⟩))
    (fun os started H enc _ => lifted os started H enc)

theorem proved : Rows.RsApartSaid := over
#print axioms proved
end Go.Proofs.Ytachbccoehlcjaa.rsApart
