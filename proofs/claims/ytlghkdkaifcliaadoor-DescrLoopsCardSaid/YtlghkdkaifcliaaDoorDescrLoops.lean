/-
  For any descriptors, any bytes and any tag DescrLoops returns true: which bytes the descriptors are, which descriptors the bytes are, and which is the first one of the tag; nothing that was there is changed. The tables of widths of package descr start as the program lays them.
-/
import Derived.SevenTiedAt
import Derived.Test.YtlghkdkaifcliaaDoorRows
import Derived.Test.YtlghkdkaifcliaaDoorCards
import Derived.Test.YtlghkdkaifcliaaDoorTie
import Derived.Test.YtlghkdkaifcliaaDoorDsH
import Derived.Test.YtlghkdkaifcliaaDoorDsI
import Derived.Test.YtlghkdkaifcliaaDoorDsF
import Derived.Test.YtlghkdkaifcliaaDoorDsR
namespace Go.Proofs.YtlghkdkaifcliaaDoor.descrLoops
open Go.ChangeShapes Go.WideShapes Go.ChangeAt Go.RowKit Gf Ds
set_option maxRecDepth 100000
open Go.ChangeMaps (open_string shut_string)
set_option linter.unusedVariables false
set_option linter.unusedSimpArgs false
theorem fewD_len {l : List Dsc} (h : fewD l = true) : l.length ≤ 40 := by unfold fewD at h; simp at h; exact h.2
theorem fewD_size {l : List Dsc} (h : fewD l = true) : ∀ d ∈ l, d.body.size ≤ 300 := by unfold fewD at h; simp at h; exact h.1
theorem does_eq {o : Oper} {ρ : Operand → Value} {w : World} {R : Value → World → Prop} {op : BinOp} {T U : TypeId} {xs ys : Array Value} {r : Bool} (hrun : (binOp op T (.agg xs) (.agg ys)).run Tryd.prog w = .ok (.bool r) w)
    (hm : Tryd.prog.eqGuardType Tryd.prog.depth T = false) (x y : Operand) (ho : o.op = .binOp op T x y U) (hx : ρ x = .agg xs) (hy : ρ y = .agg ys) (k : R (.bool r) w) : Does Tryd.prog o ρ w R := by
  have e : (execOp ρ o).run Tryd.prog w = .ok (.value (.bool r)) w := by
    unfold execOp
    simp only [ho, hx, hy, Sem.run_bind, run_eqGuard_agg w op T x y xs ys hm, hrun, Result.andThen_ok]
    rfl
  unfold Does
  rw [e]
  exact k
theorem parse_few (s : List UInt8) : (parse s).1.length ≤ 4095 := by
  by_cases h : (parse s).2 = 0
  · obtain ⟨⟨_, h1⟩, h2⟩ := parse_good h
    have key : ∀ l : List Dsc, l.length ≤ (lpB l).length := by
      intro l
      induction l with
      | nil => exact Nat.zero_le _
      | cons d l ih =>
        show l.length + 1 ≤ (dsB d ++ lpB l).length
        rw [List.length_append, dsB_length]; omega
    exact Nat.le_trans (key _) h1
  · have e : (parse s).1 = [] := by
      by_cases hl : 4095 < s.length
      · rw [parse_long hl]
      · cases hp : prs s with
        | none => rw [parse_none hl hp]
        | some l => rw [parse_some hl hp] at h; exact absurd rfl h
    rw [e]; exact Nat.zero_le _
set_option maxHeartbeats 6400000 in
theorem walk (a1 : Option Addr) (n1 c1 : Nat) (l : List Dsc) (w : World) (h1 : IsE rowD w a1 n1 l ∧ n1 ≤ maxLen) (s : ByteArray) (hs : s.size ≤ maxLen) (t : Int) (ht : (Lit.int .i64 t).wf = true) (tS : TSX w) :
    Calls Tryd.prog 3 #[.slice a1 n1 c1, .string s, .int .i64 t] w fun e w' => e = .returned (.bool true) ∧ Below w.heap.size w w' := by
  obtain ⟨h1, b1⟩ := h1
  have HAW := Lib.hid (fun W (q : Keeps w W) => awake18_any W (tS.keeps q))
  have HF1 := Lib.hid (fun (W : World) (q : Keeps w W) => dfew_any (cap := c1) W (h1.keeps q) b1)
  clear ht hs
  by_cases hf1 : fewD l = true
  · rw [hf1] at HF1
    by_cases hz : 4200 < s.size
    · have hzi : (4200 : Int) < (s.size : Int) := by omega
      clear hf1 hz h1 b1 tS
      go_enter Tryd.func3, Tryd.ntmps3
      go_wp2_with (first | (go_at_call 10; refine (HF1.out _ (Keeps.refl _)).mono ?_; rintro _ _ ⟨rfl, rfl⟩) | (go_at_call 11; refine (HAW.out _ (Keeps.refl _)).mono ?_; rintro _ w9 ⟨rfl, k9⟩; have HK9 := Lib.hid k9; clear k9))
      go_ret
      exact ⟨rfl, HK9.out⟩
    have hzi : ¬ (4200 : Int) < (s.size : Int) := by omega
    have z1 : n1 ≤ 40 := by have := fewD_len hf1; rw [← h1.1] at this; exact this
    have HI1 := Lib.hid (fun W (q : Keeps w W) => h1.keeps q)
    have HNL := Lib.hid h1.1
    have HL := Lib.hid (fun W (q : Keeps w W) => eloop_any (cap := c1) W (h1.keeps q) (by omega))
    have HPL := Lib.hid (fun W (q : Keeps w W) => dplain_any (cap := c1) W (h1.keeps q) (by omega))
    have HRL := Lib.hid (fun W a c (q : IsE rowR W a l.length l) => drloop_any (cap := c) W q (by have := fewD_len hf1; omega))
    have HFD := Lib.hid (fun W (q : Keeps w W) => efind_any (cap := c1) t W (h1.keeps q) (by omega) (fun d hd => by have := fewD_size hf1 d hd; omega))
    have HPA := Lib.hid (fun W => eparse_any s W (by omega))
    have HRP := Lib.hid (fun W => drparse_any s W (by omega))
    have HPF := Lib.hid (parse_few (ls s))
    obtain ⟨Q, hQ⟩ : ∃ Q, loop l = Q := ⟨_, rfl⟩
    obtain ⟨R, hR⟩ : ∃ R, parse (ls s) = R := ⟨_, rfl⟩
    obtain ⟨D, hD⟩ : ∃ D, fnd l t = D := ⟨_, rfl⟩
    rw [hQ] at HL HRL
    rw [hR] at HPA HRP HPF
    rw [hD] at HFD
    have HDD := Lib.hid hD
    unfold DlPost at HL HRL
    unfold DmPost at HFD
    obtain ⟨B, E⟩ := Q
    obtain ⟨m, G⟩ := R
    obtain ⟨⟨d1, d2⟩, I⟩ := D
    simp only at HPF
    have hpf : m.length ≤ 4095 := HPF.out
    obtain ⟨N, hN⟩ : ∃ N, m.length = N := ⟨_, rfl⟩
    unfold EaPost at HPA
    unfold DpPost at HRP
    simp only [hN] at HPA HRP
    rw [hN] at hpf
    obtain ⟨S, hS⟩ : ∃ S, st B = S := ⟨_, rfl⟩
    simp only [hS] at HL HRL
    have hll : l.length ≤ 40 := fewD_len hf1
    have HLL := Lib.hid hll
    clear hf1 hz h1 b1 tS hQ hR hD hN hS hll
    go_enter Tryd.func3, Tryd.ntmps3
    go_wp2_with (first | (go_at_call 10; refine (HF1.out _ (Keeps.refl _)).mono ?_; rintro _ _ ⟨rfl, rfl⟩) | (go_at_call 12; refine (HL.out _ (Keeps.refl _)).mono ?_; rintro _ u1 ⟨rfl, k1⟩; have HK1 := Lib.hid k1; clear k1) | (go_at_call 14; refine (HPL.out _ HK1.out).mono ?_; rintro _ u2 ⟨a2, c2, rfl, hi2, _, _, k2⟩; have HK2 := Lib.hid (HK1.out.trans k2); have HI2 := Lib.hid hi2; clear hi2 k2) | (go_at_call 13; refine (HRL.out _ _ _ HI2.out).mono ?_; rintro _ u3 ⟨rfl, k3⟩; have HK3 := Lib.hid (HK2.out.trans k3); clear k3) | (go_at_call 15; refine (HPA.out _).mono ?_; rintro _ u4 ⟨a4, c4, rfl, hi4, _, _, k4⟩; have HK4 := Lib.hid (HK3.out.trans k4); have HI4 := Lib.hid hi4; clear hi4 k4) | (go_at_call 16; refine (HRP.out _).mono ?_; rintro _ u5 ⟨a5, c5, rfl, hi5, _, _, k5⟩; have HK5 := Lib.hid (HK4.out.trans k5); have HI5 := Lib.hid hi5; have HI6 := Lib.hid (HI4.out.keeps k5); clear hi5 k5) | (go_at_call 17; refine (dsame_any u5 HI6.out HI5.out (by omega)).mono ?_; rintro _ u6 ⟨rfl, k6⟩; have HK6 := Lib.hid (HK5.out.trans k6); clear k6) | (go_at_call 18; refine (HFD.out _ HK6.out).mono ?_; rintro _ u7 ⟨rfl, k7⟩; obtain ⟨V8, hV8⟩ : ∃ V, u7.heap.size = V := ⟨_, rfl⟩; obtain ⟨x8, hx8⟩ : ∃ W, u7.alloc (.cells #[.int .i64 d1, .string d2] 37) = W := ⟨_, rfl⟩; have q8 : Keeps u7 x8 := (by rw [← hx8]; exact (Keeps.refl u7).alloc _); have HV8 := Lib.hid (show CsAt V8 (dsC ⟨d1, d2⟩) x8 from (by rw [← hV8, ← hx8]; exact CsAt.made u7 #[.int .i64 d1, .string d2] _ (by simp))); have HK8 := Lib.hid ((HK6.out.trans k7).trans q8); clear k7 q8))
    go_loopw [17] (fun i wr => ∃ k : Nat, k ≤ n1 ∧ i = .int .i64 (k : Int) ∧ (∀ d ∈ l.take k, d.tag ≠ t) ∧ Keeps x8 wr) (fun i _ => n1 - (intOf i).toNat)
    case atStart => exact ⟨0, Nat.zero_le _, rfl, by simp, Keeps.refl _⟩
    case round =>
      obtain ⟨k, hk, rfl, hall, hkp⟩ := hrel
      have HALL := Lib.hid hall
      have HKP := Lib.hid hkp
      clear hall hkp
      by_cases hlt : k < n1
      · have hlI : (k : Int) < (n1 : Int) := by omega
        have hkL : k < l.length := by have := HNL.out; omega
        obtain ⟨g, off, rfl, hg, hcc⟩ := (HI1.out _ (HK8.out.trans HKP.out)).get hkL
        have HAT := Lib.hid (fun e => fnd_at hkL HALL.out e)
        have HNX := Lib.hid (show l[k].tag ≠ t → ∀ s ∈ l.take (k + 1), s.tag ≠ t from fun h s hs => by
          rw [List.take_add_one, List.getElem?_eq_getElem hkL] at hs
          rcases List.mem_append.1 hs with y | y
          · exact HALL.out s y
          · rw [List.mem_singleton.1 y]; exact h)
        obtain ⟨⟨t1, t2⟩, hp⟩ : ∃ q : Dsc, l[k] = q := ⟨_, rfl⟩
        rw [hp] at hcc HAT HNX
        have x0 : wr.cell? ⟨g, off + k * 2, none⟩ = some (.int .i64 t1) := hcc 0 _ rfl
        have x1' : wr.cell? ⟨g, off + k * 2 + 1, none⟩ = some (.string t2) := by rw [Nat.add_assoc]; exact hcc 1 _ rfl
        have v1 := wrapI (a := (k : Int) + 1) (by omega) (by omega)
        by_cases he : t1 = t
        · have hF := (HAT.out he)
          rw [HDD.out] at hF
          simp only [Prod.mk.injEq, Dsc.mk.injEq] at hF
          obtain ⟨⟨rfl, rfl⟩, rfl⟩ := hF
          subst he
          have HRW := Lib.hid (show ∀ W, Keeps wr W → W.rangeAt g (off + k * 2) (dsC ⟨d1, d2⟩) from fun W q j v hv => (Below.cell q (p := ⟨g, off + k * 2 + j, none⟩) hg).trans (by rw [Nat.add_assoc]; exact hcc j v hv))
          have HBX := Lib.hid (HV8.out.keeps HKP.out)
          have HKW := Lib.hid (HK8.out.trans HKP.out)
          have hd1 := fun W => eqdDd ⟨d1, d2⟩ ⟨d1, d2⟩ W
          simp only [sameDd_self] at hd1
          have hgd := egdDd
          clear hcc hp hg
          go_wp2
          refine wp_draw_tail 13 (by kernel_rfl) [.int .i64 0, .bool true, .bool true, dsV ⟨d1, d2⟩, .slice (some ⟨g, off, none⟩) n1 c1, .int .i64 (k : Int), .pointer (some ⟨g, off + k * 2, none⟩), dsV ⟨d1, d2⟩, .bool true, .bool true, .bool true, .bool true, .bool true]
            (fun _ W => Keeps wr W) rfl (by kernel_rfl) (by kernel_rfl) (fin := ?fin0) ?hfin0 ((Keeps.refl wr).eqv (Eqv.drew wr)) ?each0 ?hend0
          case hfin0 => simp [seqA, dstOf, Act.put]; rfl
          case each0 =>
            refine ⟨?_, ?_, ?_, ?_, ?_, ?_, ?_, ?_, ?_, ?_, ?_, ?_, ?_, trivial⟩
            all_goals intro L w5 h0 hd hs hw
            rotate_left 3
            · split
              · exact does_load _ _ rfl V8 0 rfl (dsC ⟨d1, d2⟩) _ (HBX.out.keeps hw).r Tryd.underlying37 rfl (by kernel_rfl) ⟨fun _ => rfl, fun _ _ => hw⟩
              · rename_i hg; exact absurd rfl hg
            rotate_left 3
            · split
              · exact does_load _ _ rfl g (off + k * 2) rfl (dsC ⟨d1, d2⟩) _ (HRW.out w5 hw) Tryd.underlying37 rfl (by kernel_rfl) ⟨fun _ => rfl, fun _ _ => hw⟩
              · rename_i hg; exact absurd rfl hg
            · split
              · exact does_eq (hd1 w5) hgd _ _ rfl rfl rfl ⟨fun _ => rfl, fun _ _ => hw⟩
              · rename_i hg; exact absurd rfl hg
            all_goals first | (unfold Does; go_simp; done) | (unfold Does; go_simp; exact fun L' k => hw) | (split <;> first | (rename_i hg; exact absurd rfl hg) | (unfold Does; go_simp; done) | (unfold Does; go_simp; first | exact fun L' k => hw | (refine (HAW.out _ (HKW.out.trans hw)).mono ?_; rintro _ w6 ⟨rfl, k6⟩; exact ⟨_, rfl, rfl, fun _ _ => Keeps.trans hw k6⟩)))
          case hend0 =>
          intro L w7 hL hw
          have HK9 := Lib.hid (HKW.out.trans hw)
          simp only [List.drop_succ_cons, List.drop_zero]
          clear hw hL
          go_wp2
          go_ret
          exact ⟨rfl, HK9.out⟩
        · have heq : (t1 == t) = false := by rw [beq_eq_false_iff_ne]; exact he
          have HNY := Lib.hid (HNX.out he)
          clear he hcc hp hg
          go_wp2
          go_roundw
          case rel => exact ⟨k + 1, by omega, by go_num, HNY.out, HKP.out⟩
          case measure => simp [intOf]; omega
      · have hlI : ¬ (k : Int) < (n1 : Int) := by omega
        have hF := (fnd_no (l := l) (t := t) (by rw [← show l.take k = l from List.take_of_length_le (by have := HNL.out; omega)]; exact HALL.out))
        rw [HDD.out] at hF
        simp only [Prod.mk.injEq, Dsc.mk.injEq] at hF
        obtain ⟨⟨rfl, rfl⟩, rfl⟩ := hF
        have HBX := HV8.out.keeps HKP.out
        have e0 := HBX.cell 0 rfl
        have e1 := HBX.cell 1 rfl
        have HKW := Lib.hid (HK8.out.trans HKP.out)
        have hd1 := fun W => eqdDd ⟨0, ⟨#[]⟩⟩ ⟨0, ⟨#[]⟩⟩ W
        simp only [sameDd_self] at hd1
        have hgd := egdDd
        clear HBX
        go_wp2_with (go_at_call 11; refine (HAW.out _ HKW.out).mono ?_; rintro _ w9 ⟨rfl, k9⟩; have HK9 := Lib.hid (HKW.out.trans k9); clear k9)
        go_ret
        exact ⟨rfl, HK9.out⟩
  · have hf1 : fewD l = false := by simpa using hf1
    rw [hf1] at HF1
    clear hf1 h1 b1 tS
    go_enter Tryd.func3, Tryd.ntmps3
    go_wp2_with (first | (go_at_call 10; refine (HF1.out _ (Keeps.refl _)).mono ?_; rintro _ _ ⟨rfl, rfl⟩) | (go_at_call 11; refine (HAW.out _ (Keeps.refl _)).mono ?_; rintro _ w9 ⟨rfl, k9⟩; have HK9 := Lib.hid k9; clear k9))
    go_ret
    exact ⟨rfl, HK9.out⟩

theorem doorMet (os : Os) (args : Array Value) : laidMetH Tryd.prog [("clarion/descr.ofSlice", Rows.laid_clarion_descr_ofSlice)] ((World.doorLaid Tryd.prog 400 os).forCall (fun _ _ => 0) ⟨#[], args, []⟩).memory :=
  laidMetH_of_parts3 (fuel := 8) (laidMet_of_run' 8 (by kernel_rfl) (by kernel_rfl)) (by kernel_rfl) (by kernel_rfl)
theorem own : ownKnob Tryd.prog.godebug = none := by kernel_rfl
theorem laidOut : laidOutB Tryd.prog = true := by kernel_rfl
set_option maxRecDepth 100000 in
theorem lifted (os : Os) (started : os.Started) (H : Type) (enc : TypeId × Value → H) :
    ReturnsInHanded {} Tryd.checked os 3 .any (fun w args => (Rows.descrLoopsSpec.pre enc Tryd.prog Tryd.f3 [] false w args ∧ laidMetH Tryd.prog [("clarion/descr.ofSlice", Rows.laid_clarion_descr_ofSlice)] w) ∧ sizedMet enc Tryd.prog Tryd.f3 (OpenSpec.ofChange Rows.descrLoopsSpec) false w args) (Rows.descrLoopsSpec.post enc Tryd.prog Tryd.f3 false true false false) := by
  refine returnsInHanded_of_change_and (C := Tryd.checked) (X := fun w _ => laidMetH Tryd.prog [("clarion/descr.ofSlice", Rows.laid_clarion_descr_ofSlice)] w) (fun _ _ _ hh h => h.of_heap hh) own started (by kernel_rfl) Tryd.func3
    (ChangeSpec.witness_shaped (enc := enc) (C := Tryd.checked) (os := os) (X := fun w _ => laidMetH Tryd.prog [("clarion/descr.ofSlice", Rows.laid_clarion_descr_ofSlice)] w) false (World.doorLaid Tryd.prog 400 os) #[.slice none 0 0, .string ByteArray.empty, .int .i64 0] 8 rfl (World.shaped_of_RefB (by kernel_rfl) (by kernel_rfl)) (by kernel_rfl) (by kernel_rfl) (by kernel_rfl) (doorMet os _)) ?_
  intro W base args ds gs before hval0 hW hcnd _ hL _
  have hval : ∀ (j : Nat) t v, Tryd.f3.params[j]? = some t → args[j]? = some v → Value.okWide Tryd.prog W .any base t v := hval0
  have hW' := hW
  obtain ⟨p, q, hA0, hV, rfl, hfz, hnd⟩ := hW
  have hA : DataW.TrodAll enc Tryd.prog W 0 (fun _ => true) true Tryd.f3.params.toList args.toList ds p := hA0
  rw [Tryd.params3] at hA hval
  obtain ⟨v0, vs0, d0, ds0, p0, q0, hargs, rfl, rfl, h0, r0⟩ := trodAll_cons hA
  obtain ⟨v1, vs1, d1, ds1, p1, q1, rfl, rfl, rfl, h1, r1⟩ := trodAll_cons r0
  obtain ⟨v2, vs2, d2, ds2, p2, q2, rfl, rfl, rfl, h2, r2⟩ := trodAll_cons r1
  obtain ⟨rfl, rfl, rfl⟩ := trodAll_nil r2
  obtain rfl : args = #[v0, v1, v2] := by cases args; simp_all
  obtain ⟨rfl, rfl⟩ := trodVars_none hV
  obtain ⟨a0, len0, cap0, rfl⟩ := okWide_slice Tryd.underlying22 (hval 0 22 v0 rfl rfl)
  have k0 := h0
  have lt0 : ∀ x ∈ p0, x.block < W.heap.size := by obtain ⟨m, hm⟩ := k0; exact DataW.trod_lt m _ _ _ hm
  obtain ⟨z0, w0⟩ := open_dscrow h0
  obtain ⟨a1, rfl, rfl, rfl, w1⟩ := open_string Tryd.underlying9 (hval 1 9 v1 rfl rfl) h1
  obtain ⟨a2, rfl, rfl, rfl, w2⟩ := open_int Tryd.underlying3 (hval 2 3 v2 rfl rfl) h2
  clear hA0 hval0
  refine (walk a0 len0 cap0 z0 W w0 a1 w1 a2 w2 (tS_of hL (by kernel_rfl) (by simp))).mono fun e W' ⟨he, bel⟩ => ?_
  subst he
  exact ⟨_, rfl, _, _, _, [], _, [], hW', trodAll_mk1 (shut_bool Tryd.underlying4 _), (trodAll_cons_mk (Below.trod laidOut (by kernel_rfl) (of_decide_eq_true (by kernel_rfl)) k0 bel lt0) (trodAll_cons_mk (shut_string Tryd.underlying9 w1) (trodAll_cons_mk (shut_int Tryd.underlying3 w2) trodAll_mk0))), rfl, bel.frame _, fun h => by cases h⟩

theorem over : Rows.descrLoopsRow.holds Tryd.pinned (OpenSpec.ofChange Rows.descrLoopsSpec) :=
  OpenClaim.holds_of_wide 3 Tryd.f3 rfl rfl rfl rfl rfl rfl rfl ⟨rfl, rfl, rfl, rfl, rfl⟩ rfl rfl rfl rfl rfl (by kernel_rfl) Tryd.func3 (by kernel_rfl)
    (of_decide_eq_true (by kernel_rfl)) (by unfold Func.isWrapper; first | (rw [if_pos (by decide +kernel)]; kernel_rfl) | (rw [if_neg (by decide +kernel)]; exact ⟨rfl, rfl⟩))
    (fun os started H enc _ => lifted os started H enc)

set_option maxRecDepth 100000 in
theorem proved : Rows.DescrLoopsCardSaid :=
  Claim7.holds_tied_plain_at .later [] [.wider] true (true, _) false over (fun _ h => by cases h) (by kernel_rfl) (fun _ h => by cases h) descrLoops_row_tie rfl ⟨rfl, rfl⟩ (by kernel_rfl) rfl
    (fun f fn hf hfn => by
      obtain rfl : f = 3 := Option.some.inj ((show Tryd.prog.funcNamed "clarion/clarionlaw18.DescrLoops" = some 3 by kernel_rfl).symm.trans hf) |>.symm
      obtain rfl : fn = Tryd.f3 := (Option.some.inj (Tryd.func3.symm.trans hfn)).symm
      exact ⟨by kernel_rfl, fun j t ht => by
        rw [Tryd.params3] at ht
        have hm : t ∈ [22, 9, 3] := by simpa using Array.mem_of_getElem? ht
        have hall : ([22, 9, 3].all fun u => !Tryd.prog.wantsStandIn u) = true := by kernel_rfl
        exact (show Tryd.prog.wantsStandIn t = false by simpa using List.all_eq_true.1 hall t hm)⟩)
    (by kernel_rfl)
#print axioms proved
end Go.Proofs.YtlghkdkaifcliaaDoor.descrLoops
