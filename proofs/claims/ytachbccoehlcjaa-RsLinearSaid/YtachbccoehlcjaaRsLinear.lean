/-
  For any two strings and any byte RsLinear returns true: two words are, xor-ed byte by byte, a word, and a word times a byte is one; nothing that was there is changed. No condition.
-/
import Derived.Test.YtachbccoehlcjaaRows
import Derived.Test.YtachbccoehlcjaaRsLaw
import Derived.StillTailTactics
import Derived.OpenShut
import Derived.ShutString
import Derived.ChangeOld
import Derived.Carry
import Derived.WalkLawsBesides
namespace Go.Proofs.Ytachbccoehlcjaa.rsLinear
open Go.ChangeShapes Go.WideShapes Go.ChangeAt Go.RowKit Gf
open Go.ChangeMaps (open_string shut_string)
set_option linter.unusedVariables false
set_option maxRecDepth 100000 in
set_option maxHeartbeats 4000000 in
theorem off1 (a b : ByteArray) (x : UInt8) (w : World) (h : 191 < (a.size : Int)) :
    Calls Try.prog 5 #[.string a, .string b, .int .u8 (x.toNat : Int)] w fun e w' => e = .returned (.bool true) ∧ Keeps w w' := by
  go_enter Try.func5, Try.ntmps5
  go_wp2_with fail
  refine (awake3_any w _ (Keeps.refl w)).mono ?_
  rintro e wk1 ⟨rfl, hk1⟩
  go_wp2
  go_ret
  exact ⟨rfl, hk1⟩
set_option maxRecDepth 100000 in
set_option maxHeartbeats 4000000 in
theorem off2 (a b : ByteArray) (x : UInt8) (w : World) (h0 : (a.size : Int) ≤ 191) (h : 191 < (b.size : Int)) :
    Calls Try.prog 5 #[.string a, .string b, .int .u8 (x.toNat : Int)] w fun e w' => e = .returned (.bool true) ∧ Keeps w w' := by
  go_enter Try.func5, Try.ntmps5
  go_wp2_with fail
  refine (awake3_any w _ (Keeps.refl w)).mono ?_
  rintro e wk1 ⟨rfl, hk1⟩
  go_wp2
  go_ret
  exact ⟨rfl, hk1⟩
/-- Two rows that grow in turn. -/
def Two (w : World) (v t : List UInt8) (x : UInt8) (k : Nat) (r1 r2 : Value) (wr : World) : Prop :=
  Own wr w.heap.size r1 (row k (fun i => cf v i ^^^ cf t i)) ∧ Own wr w.heap.size r2 (row k (fun i => fm (cf v i) x)) ∧ (∀ b, r1.ownBlock = some b → r2.ownBlock ≠ some b)
def liRel (w : World) (v t : List UInt8) (x : UInt8) (r1 r2 i : Value) (wr : World) : Prop := ∃ k : Nat, k ≤ 255 ∧ i = .int .i64 (k : Int) ∧ Two w v t x k r1 r2 wr ∧ Keeps w wr
theorem row_xor {a b : List UInt8} (ha : a.length = 255) (hb : b.length = 255) : row 255 (fun i => cf a i ^^^ cf b i) = lxor a b := by
  refine List.ext_getElem (by rw [row_length, lxor_length (by omega), ha]) fun i h1 h2 => ?_
  rw [row_length] at h1
  have := cf_row 255 (fun i => cf a i ^^^ cf b i) i
  rw [if_pos h1, cf_lt (by rw [row_length]; exact h1)] at this
  rw [this, cf_lt (by omega), cf_lt (by omega)]
  simp [lxor]
theorem row_times {a : List UInt8} (ha : a.length = 255) (x : UInt8) : row 255 (fun i => fm (cf a i) x) = a.map (fun y => fm y x) := by
  refine List.ext_getElem (by rw [row_length, List.length_map, ha]) fun i h1 h2 => ?_
  rw [row_length] at h1
  have := cf_row 255 (fun i => fm (cf a i) x) i
  rw [if_pos h1, cf_lt (by rw [row_length]; exact h1)] at this
  rw [this, cf_lt (by omega), List.getElem_map]
set_option maxRecDepth 100000 in
set_option maxHeartbeats 4000000 in
theorem core (a b : ByteArray) (x : UInt8) (w : World) (h0 : (a.size : Int) ≤ 191) (h1 : (b.size : Int) ≤ 191) :
    Calls Try.prog 5 #[.string a, .string b, .int .u8 (x.toNat : Int)] w fun e w' => e = .returned (.bool true) ∧ Keeps w w' := by
  have HF1 := Lib.hid (show (st (ls a ++ z8 (191 - a.size))).size = 191 by rw [st_size, List.length_append, z8_length, ← ls_size]; omega)
  have HF2 := Lib.hid (show (st (ls b ++ z8 (191 - b.size))).size = 191 by rw [st_size, List.length_append, z8_length, ← ls_size]; omega)
  have hst := st_size
  go_enter Try.func5, Try.ntmps5
  go_wp2_with fail
  refine (full_any w _ 191 _ (by omega) (by omega) (Keeps.refl w)).mono ?_
  rintro e wk1 ⟨rfl, hk1⟩
  go_wp2_with fail
  refine (word_any w _ _ HF1.out hk1).mono ?_
  rintro e wk2 ⟨p, rfl, hp, hw1, hk2⟩
  clear hk1
  go_wp2_with fail
  refine (full_any w _ 191 _ (by omega) (by omega) hk2).mono ?_
  rintro e wk3 ⟨rfl, hk3⟩
  clear hk2
  go_wp2_with fail
  refine (word_any w _ _ HF2.out hk3).mono ?_
  rintro e wk4 ⟨q, rfl, hq, hw2, hk4⟩
  clear hk3
  obtain ⟨v, hv⟩ : ∃ v, ls (st (ls a ++ z8 (191 - a.size))) ++ p = v := ⟨_, rfl⟩
  obtain ⟨t, ht⟩ : ∃ t, ls (st (ls b ++ z8 (191 - b.size))) ++ q = t := ⟨_, rfl⟩
  rw [hv] at hw1
  rw [ht] at hw2
  rw [hv, show (fun p => ls (st (ls b ++ z8 (191 - b.size))) ++ p) q = t from ht]
  have hvl := hw1.1
  have htl := hw2.1
  have HW1 := Lib.hid hw1
  have HW2 := Lib.hid hw2
  have e1 : (st v).size = 255 := by rw [st_size]; exact hvl
  have e2 : (st t).size = 255 := by rw [st_size]; exact htl
  clear hv ht hw1 hw2 hp hq hst
  have HK4 := Lib.hid hk4
  clear hk4
  go_wp2
  go_loopw [11, 12, 13] (fun r1 r2 i wr => liRel w v t x r1 r2 i wr) (fun _ _ i _ => 255 - (intOf i).toNat)
  case atStart => exact ⟨0, by omega, rfl, ⟨Own.nil _ _, Own.nil _ _, fun b h => by cases h⟩, HK4.out⟩
  case round =>
    obtain ⟨k, hk, rfl, ⟨o1, o2, hne⟩, hkp⟩ := hrel
    by_cases hlt : k < 255
    · have hg1 := ls_get (st v) k (by omega)
      have hg2 := ls_get (st t) k (by omega)
      rw [ls_st] at hg1 hg2
      have kI : (k : Int) < 255 := by omega
      have HX := Lib.hid (show bits BinOp.xor IntKind.u8 ((cf v k).toNat : Int) ((cf t k).toNat : Int) = ((cf v k ^^^ cf t k).toNat : Int) by
        rw [xr_bits (u8_bd _) (u8_bd _), xr8])
      have HN1 := Lib.hid (row_succ k (fun i => cf v i ^^^ cf t i))
      have HN2 := Lib.hid (row_succ k (fun i => fm (cf v i) x))
      have hl1 : (row k (fun i => cf v i ^^^ cf t i)).length ≤ 1000000000 := by rw [row_length]; omega
      have hl2 : (row k (fun i => fm (cf v i) x)).length ≤ 1000000000 := by rw [row_length]; omega
      have hbs := Below.size hkp
      obtain ⟨z, hz⟩ : ∃ z, cf v k ^^^ cf t k = z := ⟨_, rfl⟩
      obtain ⟨y, hy⟩ : ∃ y, fm (cf v k) x = y := ⟨_, rfl⟩
      rw [hz] at HX HN1
      have hbx := HX.out
      obtain ⟨c1, hc1⟩ : ∃ c1, cf v k = c1 := ⟨_, rfl⟩
      obtain ⟨c2, hc2⟩ : ∃ c2, cf t k = c2 := ⟨_, rfl⟩
      rw [hc1] at hg1 hbx
      rw [hc2] at hg2 hbx
      have hmul : ∀ W : World, Calls Try.prog 19 #[.int .u8 (c1.toNat : Int), .int .u8 (x.toNat : Int)] W fun e w' => e = .returned (.int .u8 (y.toNat : Int)) ∧ W = w' := fun W => by rw [← hy, hc1]; exact rmul8 c1 x W
      have HMUL := Lib.hid hmul
      have HY := Lib.hid hy
      have HO1 := Lib.hid o1
      have HO2 := Lib.hid o2
      have HNE := Lib.hid hne
      have HKP := Lib.hid hkp
      clear hz hy hc1 hc2 hmul o1 o2 hne hkp HX
      obtain ⟨R1, hR1⟩ : ∃ R1, row k (fun i => cf v i ^^^ cf t i) = R1 := ⟨_, rfl⟩
      obtain ⟨R2, hR2⟩ : ∃ R2, row k (fun i => fm (cf v i) x) = R2 := ⟨_, rfl⟩
      rw [hR1] at HO1 hl1 HN1
      rw [hR2] at HO2 hl2 HN2
      clear hR1 hR2
      obtain ⟨X, hX⟩ : ∃ X : Obj, X = .cells #[.int .u8 (z.toNat : Int)] 5 := ⟨_, rfl⟩
      have HXX := Lib.hid hX
      clear hX
      have k1 : (k : Int) < ((st v).size : Int) := by omega
      have k2 : (k : Int) < ((st t).size : Int) := by omega
      go_wp2
      refine wp_draw_tail 9 (by kernel_rfl)
        [u11, .string (st v), .int .i64 (k : Int), .int .u8 (c1.toNat : Int), .string (st t), .int .i64 (k : Int), .int .u8 (c2.toNat : Int), .int .u8 (z.toNat : Int), .slice (some ⟨wr.heap.size, 0, none⟩) 1 1]
        (Once 8 (Eqv wr) (Eqv (wr.alloc X)))
        rfl (by kernel_rfl) (by kernel_rfl) (fin := ?fin) ?hfin (Once.start (Eqv.drew wr)) ?each ?hend
      case hfin => simp [seqA, dstOf, Act.put]; rfl
      case each =>
        refine ⟨?_, ?_, ?_, ?_, ?_, ?_, ?_, ?_, ?_, trivial⟩
        all_goals intro L w5 h0 hd hs hw
        all_goals unfold Does
        all_goals try simp only [Nat.zero_add, Nat.reduceAdd] at h0
        · go_simp; exact fun L' k => hw.same (by decide) k
        · go_simp; exact fun L' k => hw.same (by decide) k
        · go_simp; exact fun L' k => hw.same (by decide) k
        · go_simp; exact fun L' k => hw.same (by decide) k
        · go_simp; exact fun L' k => hw.same (by decide) k
        · go_simp; exact fun L' k => hw.same (by decide) k
        · go_simp; exact fun L' k => hw.same (by decide) k
        · go_simp; exact fun L' k => hw.same (by decide) k
        · have hA := hw.1 h0
          have hz := hA.size
          go_simp
          exact fun L' k => Once.done k (by rw [HXX.out]; exact hA.alloc _)
      case hend =>
        intro L w5 hL hw
        obtain ⟨wu, rfl, he⟩ := (hw.2 (hL 8 (by omega))).split
        clear hL hw
        rw [HXX.out]
        simp only [List.drop_succ_cons, List.drop_zero]
        refine wp_push8g rfl _ _ rfl z rfl wr.heap.size he.size (HO1.out.eqv he) rfl rfl hl1 (by rw [he.size]; exact hbs) ?_
        intro v2 w2 own2 grow2 at2
        have o2b : Own w2 w.heap.size u12 R2 := ((HO2.out.eqv he).alloc _).stays grow2 (fun b h => HNE.out b h)
        have kp2 : Keeps w w2 := ((HKP.out.eqv he).alloc _).grown grow2 (HO1.out.block)
        have hne2 : ∀ b, v2.ownBlock = some b → u12.ownBlock ≠ some b := fun b hb hb2 => by
          rcases at2 with h | h
          · exact HNE.out b (by rw [← h]; exact hb) hb2
          · rw [h] at hb; cases hb
            have := HO2.out.old hb2; omega
        have HOV := Lib.hid own2
        have HKP2 := Lib.hid kp2
        have HNE2 := Lib.hid hne2
        have hbs2 := Below.size kp2
        clear own2 grow2 at2 kp2 hne2
        go_wp2_with fail
        refine (HMUL.out _).mono ?_
        rintro e w6 ⟨rfl, rfl⟩
        go_wp2_with (at_builtin; refine wp_push8g rfl _ _ rfl y rfl w2.heap.size rfl o2b rfl rfl hl2 hbs2 ?_; intro v3 w3 own3 grow3 at3)
        go_roundw
        case rel =>
          refine ⟨k + 1, by omega, by go_num, ⟨?_, ?_, fun b hb hb2 => ?_⟩, (HKP2.out.alloc _).grown grow3 o2b.block⟩
          · rw [HN1.out]
            exact (HOV.out.alloc _).stays grow3 (fun b h hb => HNE2.out b hb h)
          · rw [HN2.out, HY.out]; exact own3
          · rcases at3 with h | h
            · exact HNE2.out b hb (by rw [← h]; exact hb2)
            · rw [h] at hb2; cases hb2
              have := HOV.out.old hb; omega
        case measure => simp [intOf]; omega
    · obtain rfl : k = 255 := by omega
      have ht1 := o1.text
      have ht2 := o2.text
      rw [row_xor hvl htl] at ht1
      rw [row_times hvl x] at ht2
      have HB1 := Lib.hid (show isB (ls (st (lxor v t))) = true by rw [ls_st]; exact (isB_iff _).2 (HW1.out.xor HW2.out))
      have HB2 := Lib.hid (show isB (ls (st (v.map fun y => fm y x))) = true by rw [ls_st]; exact (isB_iff _).2 (HW1.out.times x))
      have HS1 := Lib.hid (show (st (lxor v t)).size ≤ 100000 by rw [st_size, lxor_length (by omega)]; omega)
      have HS2 := Lib.hid (show (st (v.map fun y => fm y x)).size ≤ 100000 by rw [st_size, List.length_map]; omega)
      have HKP := Lib.hid hkp
      have HO2 := Lib.hid o2
      clear hkp o1 o2 hne hlt hk
      go_wp2_with fail
      refine (rsis_any wr _ _ HS1.out (Keeps.refl wr)).mono ?_
      rintro e w6 ⟨rfl, hk6⟩
      rw [HB1.out]
      have ht3 := (HO2.out.kept HKP.out hk6).text
      rw [row_times hvl x] at ht3
      have HK6 := Lib.hid (HKP.out.over hk6)
      clear ht1 ht2 hk6
      go_wp2_with fail
      refine (rsis_any w _ _ HS2.out HK6.out).mono ?_
      rintro e w7 ⟨rfl, hk7⟩
      rw [HB2.out]
      clear ht3
      go_wp2_with fail
      refine (awake3_any w _ hk7).mono ?_
      rintro e w8 ⟨rfl, hk8⟩
      go_wp2
      go_ret
      exact ⟨rfl, hk8⟩
theorem walk (a : ByteArray) (wa : a.size ≤ maxLen) (b : ByteArray) (wb : b.size ≤ maxLen) (n : Int) (wn : (Lit.int .u8 n).wf = true) (w : World) :
    Calls Try.prog 5 #[.string a, .string b, .int .u8 n] w fun e w' => e = .returned (.bool true) ∧ Below w.heap.size w w' := by
  obtain ⟨x, rfl⟩ := u8_of (bounds_u8 wn)
  by_cases h0 : 191 < (a.size : Int)
  · exact off1 a b x w h0
  by_cases h1 : 191 < (b.size : Int)
  · exact off2 a b x w (by omega) h1
  · exact core a b x w (by omega) (by omega)

theorem own : ownKnob Try.prog.godebug = none := by kernel_rfl
theorem laidOut : laidOutB Try.prog = true := by kernel_rfl
set_option maxRecDepth 100000 in
theorem lifted (os : Os) (started : os.Started) (H : Type) (enc : TypeId × Value → H) :
    ReturnsInHanded {} Try.checked os 5 .any (Rows.rsLinearSpec.pre6 enc Try.prog Try.f5 Rows.rsLinearRow.domain false) (Rows.rsLinearSpec.post enc Try.prog Try.f5 false true false false) := by
  refine returnsInHanded_of_change (C := Try.checked) own started (by kernel_rfl) Try.func5
    (ChangeSpec.witness6 (enc := enc) (C := Try.checked) false ⟨#[], #[.string ByteArray.empty, .string ByteArray.empty, .int .u8 0], []⟩ 8 (by kernel_rfl) (by kernel_rfl) (by kernel_rfl) (by kernel_rfl)) ?_
  intro W base args ds gs before hval0 hW hcnd _
  have hval : ∀ (j : Nat) t v, Try.f5.params[j]? = some t → args[j]? = some v → Value.okWide Try.prog W .any base t v := hval0
  have hW' := hW
  obtain ⟨p, q, hA0, hV, rfl, hfz, hnd⟩ := hW
  have hA : DataW.TrodAll enc Try.prog W 0 (fun _ => true) true Try.f5.params.toList args.toList ds p := hA0
  rw [Try.params5] at hA hval
  obtain ⟨v0, vs0, d0, ds0, p0, q0, hargs, rfl, rfl, h0, r0⟩ := trodAll_cons hA
  obtain ⟨v1, vs1, d1, ds1, p1, q1, rfl, rfl, rfl, h1, r1⟩ := trodAll_cons r0
  obtain ⟨v2, vs2, d2, ds2, p2, q2, rfl, rfl, rfl, h2, r2⟩ := trodAll_cons r1
  obtain ⟨rfl, rfl, rfl⟩ := trodAll_nil r2
  obtain rfl : args = #[v0, v1, v2] := by cases args; simp_all
  obtain ⟨rfl, rfl⟩ := trodVars_none hV
  obtain ⟨a0, rfl, rfl, rfl, w0⟩ := open_string Try.underlying9 (hval 0 9 v0 rfl rfl) h0
  obtain ⟨a1, rfl, rfl, rfl, w1⟩ := open_string Try.underlying9 (hval 1 9 v1 rfl rfl) h1
  obtain ⟨a2, rfl, rfl, rfl, w2⟩ := open_int Try.underlying5 (hval 2 5 v2 rfl rfl) h2
  clear hA0 hval0
  refine (walk a0 w0 a1 w1 a2 w2 W).mono fun e W' ⟨he, bel⟩ => ?_
  subst he
  exact ⟨_, rfl, _, _, _, [], _, [], hW', trodAll_mk1 (shut_bool Try.underlying4 _), (trodAll_cons_mk (shut_string Try.underlying9 w0) (trodAll_cons_mk (shut_string Try.underlying9 w1) (trodAll_cons_mk (shut_int Try.underlying5 w2) trodAll_mk0))), rfl, bel.frame _, fun h => by cases h⟩

theorem over : Rows.rsLinearRow.holds Try.pinned (OpenSpec.ofChange Rows.rsLinearSpec) :=
  OpenClaim.holds_of_wide 5 Try.f5 rfl rfl rfl rfl rfl rfl rfl ⟨rfl, rfl, rfl, rfl, rfl⟩ rfl rfl rfl rfl rfl (by kernel_rfl) Try.func5 (by kernel_rfl)
    (of_decide_eq_true (by kernel_rfl)) (by unfold Func.isWrapper; first | (rw [if_pos (by decide +kernel)]; kernel_rfl) | (rw [if_neg (by decide +kernel)]; exact ⟨rfl, rfl⟩))
    (fun os started H enc _ => lifted os started H enc)

theorem proved : Rows.RsLinearSaid := over
#print axioms proved
end Go.Proofs.Ytachbccoehlcjaa.rsLinear
