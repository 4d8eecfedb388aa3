/-
  For any list of texts MpeAll returns true: which of some bytes are parts, in order, with their places; nothing that was there is changed. No condition.
-/
import Derived.Test.YtbkodlinfmflkaaRows
import Derived.Test.YtbkodlinfmflkaaMpJ
namespace Go.Proofs.Ytbkodlinfmflkaa.mpeAll
open Go.ChangeShapes Go.WideShapes Go.ChangeAt Go.RowKit Gf Tm Sct Mpe
set_option maxRecDepth 100000
open Go.ChangeMaps (open_string shut_string)
set_option linter.unusedVariables false
open Go.Shelf
attribute [local go_sem] Oper.semAt_some
theorem lv1 {w : World} {b : Nat} {v : Bool} (h : w.cell? ⟨b, 0, none⟩ = some (.bool v)) : (loadVar 4 ⟨b, 0, none⟩).run Try.prog w = .ok (.bool v) w := by
  simp [go_sem, h]
theorem others_only {c : Nat} {W W' : World} {v : Value} (h : Only c W W') (hc : W.cell? ⟨c, 0, none⟩ = some v) : KeepsOthers W W' := by
  refine ⟨h.size, fun i o hi hoc => ?_⟩
  by_cases e : i = c
  · subst e
    obtain ⟨o', ho', hcs⟩ := cells_of_cell hc
    have : o = o' := by
      have := hi.symm.trans ho'
      cases this; rfl
    subst this
    rw [hoc] at hcs; cases hcs
  · exact (h.block i (Array.getElem?_eq_some_iff.1 hi).1 e).trans hi
/-- The number in a cell. -/
def cv (W : World) (c : Nat) : Nat := match W.cell? ⟨c, 0, none⟩ with | some (.int _ n) => n.toNat | _ => 0
theorem cv_of {W : World} {c j : Nat} (h : W.cell? ⟨c, 0, none⟩ = some (.int .i64 (j : Int))) : cv W c = j := by unfold cv; rw [h]; rfl
set_option maxHeartbeats 6400000 in
theorem off (a : Option Addr) (len cap : Nat) (T : List (List UInt8)) (w : World) (hI : IsT w a len T) (hm : len ≤ maxLen) (hf : ¬ fewP T) :
    Calls Try.prog 7 #[.slice a len cap] w fun e w' => e = .returned (.bool true) ∧ Below w.heap.size w w' := by
  obtain ⟨b, hb⟩ : ∃ b, w.heap.size = b := ⟨_, rfl⟩
  have HF := Lib.hid (fun (W : World) (h : IsT W a len T) => mpfew_any a len cap T W h hm false ⟨fun h => (by cases h), fun h => absurd h hf⟩)
  have HI := Lib.hid (hI.keeps (((Keeps.refl w).alloc (.cells #[.slice a len cap] 46)).alloc (.cells #[.bool false] 4)))
  have c1 := CsAt.made (w.alloc (.cells #[.slice a len cap] 46)) #[.bool false] 4 (by simp)
  rw [World.size_alloc, hb] at c1
  have HC1 := Lib.hid c1
  clear hI hm hf c1
  go_enter Try.func7, Try.ntmps7
  go_wp2_with (first | (go_at_call 20; refine (HF.out _ HI.out).mono ?_; rintro _ _ ⟨rfl, rfl⟩) | (go_at_call 10; refine (awake10_any _ _ (Keeps.refl _)).mono ?_; rintro _ w99 ⟨rfl, k99⟩; have C9 := HC1.out.keeps k99; have d1 : w99.cell? ⟨b + 1, 0, none⟩ = some (.bool false) := C9.cell 0 rfl; have z1 := C9.fz 0 (by decide); have HK9 := Lib.hid ((((Keeps.refl w).alloc _).alloc _).trans k99); have HC9 := Lib.hid C9; clear k99 C9))
  have E := HC9.out.set 0 (by decide) (.bool true)
  exact cs_ret Try.results7 (lv1 (E.cell 0 rfl)) rfl rfl ⟨rfl, (Only.setCell w99 ⟨b + 1, 0, none⟩ (.bool true)).keeps HK9.out (by rw [hb]; exact Nat.le_succ b)⟩
set_option maxHeartbeats 25600000 in
theorem core_in (a : Option Addr) (len cap : Nat) (T : List (List UInt8)) (w : World) (hI : IsT w a len T) (hm : len ≤ maxLen) (hnil : a = none → len = 0 ∧ cap = 0) (hf : fewP T) :
    CallsIn Fence.wide 5 Try.prog 7 #[.slice a len cap] w fun e w' => e = .returned (.bool true) ∧ Below w.heap.size w w' := by
  have hlT := hI.1
  have hl20 : len ≤ 20 := by rw [hlT]; exact hf.2
  have hsz : ∀ t ∈ T, t.length ≤ 1000000 := fun t ht => by
    obtain ⟨i, hi, e⟩ := List.getElem_of_mem ht
    have := hf.1 i hi
    rw [List.getD_eq_getElem?_getD, List.getElem?_eq_getElem hi] at this
    rw [← e]; exact Nat.le_trans this (by decide)
  have HLT := Lib.hid hlT
  clear hlT
  refine callsIn_of_wp_marks Try.func7 rfl trivial ?_ rfl
  simp only [Try.ntmps7, List.size_toArray, List.length_cons, List.length_nil, Nat.reduceAdd, Nat.reduceSub, Array.replicate_succ, Array.replicate_zero, List.push_toArray, List.append_toArray, List.nil_append, List.cons_append]
  obtain ⟨b, hb⟩ : ∃ b, w.heap.size = b := ⟨_, rfl⟩
  have c0 := cell_new1 w (.slice a len cap) 46
  have c1 := cell_new1 (w.alloc (.cells #[.slice a len cap] 46)) (.bool false) 4
  have c0' := cell_alloc1 (.cells #[.bool false] 4) c0.1
  have kX : Keeps w ((w.alloc (.cells #[.slice a len cap] 46)).alloc (.cells #[.bool false] 4)) := ((Keeps.refl w).alloc _).alloc _
  have zX : ((w.alloc (.cells #[.slice a len cap] 46)).alloc (.cells #[.bool false] 4)).heap.size = b + 2 := by rw [World.size_alloc, World.size_alloc, hb]
  rw [World.size_alloc, hb] at c1
  rw [hb] at c0'
  gi_wp2
  obtain ⟨wX, hX⟩ : ∃ wX, (w.alloc (.cells #[.slice a len cap] 46)).alloc (.cells #[.bool false] 4) = wX := ⟨_, rfl⟩
  rw [hX] at c1 c0' kX zX ⊢
  clear c0 hX
  have HF := Lib.hid (mpfew_any a len cap T wX (hI.keeps kX) hm true ⟨fun _ => hf, fun _ => rfl⟩)
  have HA := Lib.hid (mpall_any wX a len cap T wX (hI.keeps kX) (by omega) hnil (Keeps.refl wX))
  unfold AllPost at HA
  refine ⟨trivial, callsIn_wide.2 (HF.out.mono ?_)⟩
  rintro _ _ ⟨rfl, rfl⟩
  gi_wp2
  refine ⟨trivial, callsIn_wide.2 (HA.out.mono ?_)⟩
  rintro _ w1 ⟨Bt, Bs, a', cap', rfl, hBt, hBs, hI1, k1⟩
  have heq : ∀ W, (binOp .eql 49 (.func (.func 37) #[] #[.pointer (some ⟨Bt, 0, none⟩)]) .nilFunc).run Try.prog W = .ok (.bool false) W := fun W => by rfl
  gi_wp2
  have cc := cell_new1 w1 (.int .i64 0) 3
  have k2 : Keeps w1 (w1.alloc (.cells #[.int .i64 0] 3)) := (Keeps.refl w1).alloc _
  have z2 : (w1.alloc (.cells #[.int .i64 0] 3)).heap.size = w1.heap.size + 1 := World.size_alloc _ _
  obtain ⟨c, hc⟩ : ∃ c, w1.heap.size = c := ⟨_, rfl⟩
  obtain ⟨w2, hw2⟩ : ∃ w2, w1.alloc (.cells #[.int .i64 0] 3) = w2 := ⟨_, rfl⟩
  rw [hw2] at cc k2 z2 ⊢
  rw [hc] at cc z2 ⊢
  have hcb : b + 2 ≤ c := by have := Below.size k1; omega
  have hI1z : w1.heap.size ≤ c := by omega
  have KX2 : Keeps wX w2 := k1.trans k2
  have KW2 : Keeps w w2 := kX.trans KX2
  have sb2 := (Below.cell KX2 (p := ⟨b, 0, none⟩) (there_cell c0')).trans c0'
  have rb2 := (Below.cell KX2 (p := ⟨b + 1, 0, none⟩) (there_cell c1.1)).trans c1.1
  have rf2 : w2.frozen? ⟨b + 1, 0, none⟩ = false := (World.frozen?_of_block (w := wX) (a := ⟨b + 1, 0, none⟩) (Below.block KX2 (b + 1) (there_cell c1.1))).trans c1.2
  have hBt2 := (Below.cell k2 (p := ⟨Bt, 0, none⟩) (there_cell hBt)).trans hBt
  have hBs2 := (Below.cell k2 (p := ⟨Bs, 0, none⟩) (there_cell hBs)).trans hBs
  have hBtc : Bt < c := by have := there_cell hBt; rw [← hc]; exact this
  have hBsc : Bs < c := by have := there_cell hBs; rw [← hc]; exact this
  clear HF HA hw2
  refine wpIn_range (gf := 37) rfl (enters_of Try.func37 (by kernel_rfl) rfl) (fun W => Only c w2 W ∧ W.cell? ⟨c, 0, none⟩ = some (.int .i64 (pos T len : Int)) ∧ W.frozen? ⟨c, 0, none⟩ = false) ?hit ?done
  case hit =>
    intro fn r hr hL
    rw [z2] at hL ⊢
    have K23 : Keeps w2 ((w2.alloc (.deferred (some []))).alloc (.loop r)) := ((Keeps.refl w2).alloc _).alloc _
    have z3 : ((w2.alloc (.deferred (some []))).alloc (.loop r)).heap.size = c + 3 := by rw [World.size_alloc, World.size_alloc, z2]
    obtain ⟨w3, hw3⟩ : ∃ w3, (w2.alloc (.deferred (some []))).alloc (.loop r) = w3 := ⟨_, rfl⟩
    rw [hw3] at hL K23 z3 ⊢
    have o23 : Only c w2 w3 := Only.below K23
    have LP : ∀ W, Only c w3 W → Lp (c + 1) (c + 1 + 1) r W := fun W o => ⟨(o.block (c + 1 + 1) (by omega) (by omega)).trans hL.loop, (o.block (c + 1) (by omega) (by omega)).trans hL.dfr⟩
    refine (callsIn_wide.2 (callsIn_wide.1 (all1_in (c + 1 + 1) Bt Bs a' len cap' T (by omega) hsz w3 (fun k W => Only c w3 W ∧ W.cell? ⟨c, 0, none⟩ = some (.int .i64 (pos T k : Int)) ∧ W.frozen? ⟨c, 0, none⟩ = false) ?jc ?js ?y1 ?y2 ?hT ?h0))).mono fun x W' hh => ⟨hh.1, LP W' hh.2.1, o23.trans hh.2.1, hh.2.2⟩
    case jc =>
      rintro k W ⟨ho, _, _⟩
      have o2 := o23.trans ho
      exact ⟨(o2.cell (p := ⟨Bs, 0, none⟩) (there_cell hBs2) (by show Bs ≠ c; omega)).trans hBs2, IsT.lies hI1 k2 o2 hI1z⟩
    case js =>
      rintro k W W' ⟨ho, h1, h2⟩ hbl
      have hzz := ho.size
      have hblk : W'.heap[c]? = W.heap[c]? := hbl.block c (by omega)
      refine ⟨⟨hbl.os.trans ho.os, hbl.tape.trans ho.tape, hbl.output.trans ho.output, Nat.le_trans ho.size hbl.size, fun i hi hn => (hbl.block i hi).trans (ho.block i hi hn)⟩, ?_, ?_⟩
      · exact (World.cell?_of_block (a := ⟨c, 0, none⟩) hblk).trans h1
      · exact (World.frozen?_of_block (a := ⟨c, 0, none⟩) hblk).trans h2
    case y1 =>
      rintro k W hk ⟨ho, h1, h2⟩ hne
      exact ⟨ho, by rw [pos_no hne]; exact h1, h2⟩
    case hT => exact (Below.cell K23 (p := ⟨Bt, 0, none⟩) (there_cell hBt2)).trans hBt2
    case h0 => exact ⟨Only.refl c w3, (Below.cell K23 (p := ⟨c, 0, none⟩) (there_cell cc.1)).trans cc.1, (World.frozen?_of_block (w := w2) (a := ⟨c, 0, none⟩) (Below.block K23 c (there_cell cc.1))).trans cc.2⟩
    case y2 =>
      rintro m k W hk ⟨ho, hcell, hfz⟩ hz hv
      obtain ⟨P, hP⟩ : ∃ P, (dcP (T.getD k [])).1 = P := ⟨_, rfl⟩
      have HDV := Lib.hid (show dcP (T.getD k []) = (P, 0) by rw [← hP, ← hv])
      rw [hP]
      clear hP
      have hLW := LP W ho
      have hzW : c + 3 ≤ W.heap.size := by rw [← z3]; exact hz
      have hcW : c + 1 + 1 ≠ W.heap.size := by omega
      obtain ⟨mac, ⟨dt, tb, fr, ad⟩, txt⟩ := P
      have hL1 : Lp (c + 1) (c + 1 + 1) r (W.alloc (.cells #[.int .i64 mac, .int .i64 dt, .bool tb, .bool fr, .int .i64 ad, .string txt] 25)) := hLW.others (KeepsOthers.alloc _ _)
      refine YieldAt.mono (yield_round2 (W₁ := W.alloc (.cells #[.int .i64 mac, .int .i64 dt, .bool tb, .bool fr, .int .i64 ad, .string txt] 25)) hLW hL1 (by omega) (by rw [hr]) (by rw [hr]) (by rw [hr]; rfl) (a₁ := ?a1) (fun W' => Only c ((W.alloc (.cells #[.int .i64 mac, .int .i64 dt, .bool tb, .bool fr, .int .i64 ad, .string txt] 25)).putObj (c + 1 + 1) (.loop { r with state := .busy })) W' ∧ W'.cell? ⟨c, 0, none⟩ = some (.int .i64 ((k + 1 : Nat) : Int)) ∧ W'.frozen? ⟨c, 0, none⟩ = false) ?asg ?bd) ?fin
      case a1 => exact { tmps := #[.slice a len cap, .pointer (some ⟨b, 0, none⟩), .pointer (some ⟨b + 1, 0, none⟩), .func (.func 37) #[] #[.pointer (some ⟨Bt, 0, none⟩)], .pointer (some ⟨c, 0, none⟩), .int .i64 (k : Int), .pointer (some ⟨W.heap.size, 0, none⟩), undef, undef, undef, undef, undef, undef, .slice a len cap, .bool true, .bool false, undef, .slice a len cap, .func (.func 37) #[] #[.pointer (some ⟨Bt, 0, none⟩)], .func (.func 37) #[] #[.pointer (some ⟨Bt, 0, none⟩)], .bool false, .func (.func 37) #[] #[.pointer (some ⟨Bt, 0, none⟩)], .int .i64 (k : Int), prV ⟨mac, ⟨dt, tb, fr, ad⟩, txt⟩, undef, undef, undef, undef, undef, undef, undef, undef, undef, undef, undef, undef, undef, undef, undef, undef, undef, undef, undef, undef, undef, undef, undef, undef, undef, undef, undef, undef, undef, undef, undef, undef, undef, undef, undef, undef, undef, undef, undef, undef, undef, undef, undef, undef, undef, undef, undef, undef, undef, undef, undef, undef, undef, undef, undef, undef], defers := [] }
      case asg =>
        intro K hK
        rw [hr]
        gi_wp2
        exact hK
      case fin =>
        rintro x W'' ⟨rfl, h1, W', ⟨h2, h3, h4⟩, rfl⟩
        have hOW : Only c W (W'.putObj (c + 1 + 1) (.loop r)) := by
          have p1 := put_only (l := c + 1 + 1) (W.alloc (.cells #[.int .i64 mac, .int .i64 dt, .bool tb, .bool fr, .int .i64 ad, .string txt] 25)) (.loop { r with state := .busy })
          have p2 := put_only (l := c + 1 + 1) W' (.loop r)
          have p0 := Only.alloc c W (.cells #[.int .i64 mac, .int .i64 dt, .bool tb, .bool fr, .int .i64 ad, .string txt] 25)
          refine ⟨p2.os.trans (h2.os.trans (p1.os.trans p0.os)), p2.tape.trans (h2.tape.trans (p1.tape.trans p0.tape)), p2.output.trans (h2.output.trans (p1.output.trans p0.output)), Nat.le_trans p0.size (Nat.le_trans p1.size (Nat.le_trans h2.size p2.size)), fun i hi hn => ?_⟩
          by_cases e : i = c + 1 + 1
          · subst e
            exact h1.loop.trans hLW.loop.symm
          · have i1 : i < (W.alloc (.cells #[.int .i64 mac, .int .i64 dt, .bool tb, .bool fr, .int .i64 ad, .string txt] 25)).heap.size := Nat.lt_of_lt_of_le hi p0.size
            have i2 := Nat.lt_of_lt_of_le i1 p1.size
            exact (p2.block i (Nat.lt_of_lt_of_le i2 h2.size) e).trans ((h2.block i i2 hn).trans ((p1.block i i1 e).trans (p0.block i hi hn)))
        refine ⟨rfl, ⟨ho.trans hOW, ?_, ?_⟩, ⟨hOW.size, fun i o hi hoc => ?_⟩, Aft.only hOW (by omega)⟩
        · rw [pos_yes hv]
          exact ((put_only (l := c + 1 + 1) W' (.loop r)).cell (p := ⟨c, 0, none⟩) (there_cell h3) (by show c ≠ c + 1 + 1; omega)).trans h3
        · exact ((put_only (l := c + 1 + 1) W' (.loop r)).frozen (p := ⟨c, 0, none⟩) (there_cell h3) (by show c ≠ c + 1 + 1; omega)).trans h4
        · by_cases e : i = c
          · subst e
            obtain ⟨o', ho', hcs⟩ := cells_of_cell hcell
            have : o = o' := by
              have := hi.symm.trans ho'
              cases this; rfl
            subst this
            rw [hoc] at hcs; cases hcs
          · exact (hOW.block i (Array.getElem?_eq_some_iff.1 hi).1 e).trans hi
      case bd =>
        have p1 := put_only (l := c + 1 + 1) (W.alloc (.cells #[.int .i64 mac, .int .i64 dt, .bool tb, .bool fr, .int .i64 ad, .string txt] 25)) (.loop { r with state := .busy })
        have hcA := cell_alloc1 (.cells #[.int .i64 mac, .int .i64 dt, .bool tb, .bool fr, .int .i64 ad, .string txt] 25) hcell
        have hfA := frozen_alloc1 (.cells #[.int .i64 mac, .int .i64 dt, .bool tb, .bool fr, .int .i64 ad, .string txt] 25) hcell hfz
        have hc4 := (p1.cell (p := ⟨c, 0, none⟩) (there_cell hcA) (by show c ≠ c + 1 + 1; omega)).trans hcA
        have hf4 := (p1.frozen (p := ⟨c, 0, none⟩) (there_cell hcA) (by show c ≠ c + 1 + 1; omega)).trans hfA
        have o24 : Only c w2 ((W.alloc (.cells #[.int .i64 mac, .int .i64 dt, .bool tb, .bool fr, .int .i64 ad, .string txt] 25)).putObj (c + 1 + 1) (.loop { r with state := .busy })) := ((o23.trans ho).trans (Only.alloc c W _)).far p1 (by omega : w2.heap.size ≤ c + 1 + 1)
        have hP4 := (CsAt.made W #[.int .i64 mac, .int .i64 dt, .bool tb, .bool fr, .int .i64 ad, .string txt] 25 (by simp)).only (fun e => hcW e.symm) p1
        obtain ⟨pb, hpb⟩ : ∃ pb, W.heap.size = pb := ⟨_, rfl⟩
        have hpc : pb ≠ c := by omega
        rw [hpb] at hP4 ⊢
        have hkT : k < T.length := by rw [← HLT.out]; exact hk
        have hgapk := pos_gap T k
        have HC4 := Lib.hid hc4
        have hplk := pos_le T k
        generalize (W.alloc (.cells #[.int .i64 mac, .int .i64 dt, .bool tb, .bool fr, .int .i64 ad, .string txt] 25)).putObj (c + 1 + 1) (.loop { r with state := .busy }) = W4 at *
        clear hL1 hLW hcA hfA p1 hcell hfz ho hcW hz hzW LP hL hw3 z3 K23 o23
        rw [hr]
        clear hr r
        gi_wp2
        gi_loopw [] (fun wr => ∃ j : Nat, pos T k ≤ j ∧ j ≤ k ∧ Only c W4 wr ∧ wr.cell? ⟨c, 0, none⟩ = some (.int .i64 (j : Int)) ∧ wr.frozen? ⟨c, 0, none⟩ = false) (fun wr => k + 1 - cv wr c)
        case atStart => exact ⟨_, Nat.le_refl _, hplk, Only.refl c W4, hc4, hf4⟩
        case round =>
          obtain ⟨j, hj1, hj2, oj, hcj, hfj⟩ := hrel
          have o2j := o24.trans oj
          have sbj := (o2j.cell (p := ⟨b, 0, none⟩) (there_cell sb2) (by show b ≠ c; omega)).trans sb2
          have hIj := IsT.lies hI KW2 o2j (by omega : w.heap.size ≤ c)
          have hjT : j < T.length := by omega
          have hjl : (j : Int) < (len : Int) := by have := HLT.out; omega
          have hjs : (st (T.getD j [])).size ≤ 1000000 := by
            rw [st_size, List.getD_eq_getElem?_getD, List.getElem?_eq_getElem hjT]; exact hsz _ (List.getElem_mem hjT)
          have HR := Lib.hid (fun W => rmpdecode_any W (st (T.getD j [])) W hjs (Keeps.refl W))
          unfold RdcPost at HR
          simp only [ls_st] at HR
          by_cases hjk : j = k
          · subst hjk
            rw [HDV.out] at HR
            obtain ⟨b1, off1, rfl, htj⟩ := hIj.get hjT
            have HPL := Lib.hid (fun W => mpplain_any ⟨mac, ⟨dt, tb, fr, ad⟩, txt⟩ W)
            have heg2 := egQ
            generalize st (T.getD j []) = tj at *
            have HOJ := Lib.hid oj
            have HFJ := Lib.hid hfj
            have HPJ := Lib.hid (hP4.only hpc oj)
            clear hIj hjs hgapk hP4 oj hfj
            gi_wp2
            refine ⟨trivial, (fun h => (by cases h)), CallsIn.inRound _ (callsIn_wide.2 ((HR.out _).mono ?_))⟩
            rintro _ w5 ⟨rfl, k5⟩
            have k6 := k5.alloc (.cells #[.int .i64 mac, .int .i64 dt, .bool tb, .bool fr, .int .i64 ad, .string txt] 29)
            have hc6 := (Below.cell k6 (p := ⟨c, 0, none⟩) (there_cell hcj)).trans hcj
            have sb6 := (Below.cell k6 (p := ⟨b, 0, none⟩) (there_cell sbj)).trans sbj
            have ht6 := (Below.cell k6 (p := ⟨b1, off1 + j, none⟩) (there_cell htj)).trans htj
            have HK6 := Lib.hid k6
            clear k5 k6 hcj sbj htj hc4
            gi_wp2
            refine ⟨trivial, (fun h => (by cases h)), CallsIn.inRound _ (callsIn_wide.2 ((HR.out _).mono ?_))⟩
            rintro _ w7 ⟨rfl, k7⟩
            have k8 := k7.alloc (.cells #[.int .i64 mac, .int .i64 dt, .bool tb, .bool fr, .int .i64 ad, .string txt] 29)
            have hc8 := (Below.cell k8 (p := ⟨c, 0, none⟩) (there_cell hc6)).trans hc6
            have sb8 := (Below.cell k8 (p := ⟨b, 0, none⟩) (there_cell sb6)).trans sb6
            have ht8 := (Below.cell k8 (p := ⟨b1, off1 + j, none⟩) (there_cell ht6)).trans ht6
            have HQ8 := Lib.hid (CsAt.made w7 #[.int .i64 mac, .int .i64 dt, .bool tb, .bool fr, .int .i64 ad, .string txt] 29 (by simp))
            have HK8 := Lib.hid (HK6.out.trans k8)
            have z8 := World.size_alloc w7 (.cells #[.int .i64 mac, .int .i64 dt, .bool tb, .bool fr, .int .i64 ad, .string txt] 29)
            clear k7 k8 hc6 sb6 ht6
            gi_wp2
            obtain ⟨qb, hqb⟩ : ∃ qb, w7.heap.size = qb := ⟨_, rfl⟩
            obtain ⟨w8, hw8⟩ : ∃ w8, w7.alloc (.cells #[.int .i64 mac, .int .i64 dt, .bool tb, .bool fr, .int .i64 ad, .string txt] 29) = w8 := ⟨_, rfl⟩
            rw [hw8, hqb] at HQ8
            rw [hw8] at hc8 sb8 ht8 HK8 z8 ⊢
            rw [hqb] at z8 ⊢
            have HP8 := Lib.hid (HPJ.out.keeps HK8.out)
            clear hw8 hqb
            refine wpIn_draw (by kernel_rfl) [prV ⟨mac, ⟨dt, tb, fr, ad⟩, txt⟩, prV ⟨mac, ⟨dt, tb, fr, ad⟩, txt⟩, prV ⟨mac, ⟨dt, tb, fr, ad⟩, txt⟩, .bool false]
              (fun _ W => Keeps w8 W) rfl (by kernel_rfl) (fin := ?fin1) ?hfin1 ((Keeps.refl w8).eqv (Eqv.drew w8)) ?each1 ?hend1
            case hfin1 => simp [seqA, dstOf, Act.put]; rfl
            case each1 =>
              refine ⟨?_, ?_, ?_, ?_, trivial⟩
              all_goals intro X w9 h0 hd hs hw
              all_goals have p0 : w9.cell? ⟨pb, 0, none⟩ = some (.int .i64 mac) := (HP8.out.keeps hw).cell 0 rfl
              all_goals have q0 : w9.cell? ⟨qb, 0, none⟩ = some (.int .i64 mac) := (HQ8.out.keeps hw).cell 0 rfl
              all_goals have p1 : w9.cell? ⟨pb, 1, none⟩ = some (.int .i64 dt) := (HP8.out.keeps hw).cell 1 rfl
              all_goals have q1 : w9.cell? ⟨qb, 1, none⟩ = some (.int .i64 dt) := (HQ8.out.keeps hw).cell 1 rfl
              all_goals have p2 : w9.cell? ⟨pb, 2, none⟩ = some (.bool tb) := (HP8.out.keeps hw).cell 2 rfl
              all_goals have q2 : w9.cell? ⟨qb, 2, none⟩ = some (.bool tb) := (HQ8.out.keeps hw).cell 2 rfl
              all_goals have p3 : w9.cell? ⟨pb, 3, none⟩ = some (.bool fr) := (HP8.out.keeps hw).cell 3 rfl
              all_goals have q3 : w9.cell? ⟨qb, 3, none⟩ = some (.bool fr) := (HQ8.out.keeps hw).cell 3 rfl
              all_goals have p4 : w9.cell? ⟨pb, 4, none⟩ = some (.int .i64 ad) := (HP8.out.keeps hw).cell 4 rfl
              all_goals have q4 : w9.cell? ⟨qb, 4, none⟩ = some (.int .i64 ad) := (HQ8.out.keeps hw).cell 4 rfl
              all_goals have p5 : w9.cell? ⟨pb, 5, none⟩ = some (.string txt) := (HP8.out.keeps hw).cell 5 rfl
              all_goals have q5 : w9.cell? ⟨qb, 5, none⟩ = some (.string txt) := (HQ8.out.keeps hw).cell 5 rfl
              all_goals unfold Does
              all_goals go_simp
              all_goals first | exact fun L' k => hw | ((with_reducible refine (HPL.out w9).mono ?_); rintro e w10 ⟨rfl, k10⟩; exact ⟨_, rfl, rfl, fun _ _ => hw.trans k10⟩)
            case hend1 =>
            intro X w9 hL hw
            have HC9 := Lib.hid ((Below.cell hw (p := ⟨c, 0, none⟩) (there_cell hc8)).trans hc8)
            have hc9 := HC9.out
            have HO9 := Lib.hid (HOJ.out.trans (Only.below (HK8.out.trans hw)))
            have HF9 := Lib.hid ((World.frozen?_of_block (w := wr) (a := ⟨c, 0, none⟩) (Below.block (HK8.out.trans hw) c (by have := there_cell hc8; exact HOJ.out.size |> fun h => Nat.lt_of_lt_of_le (there_cell HC4.out) h))).trans HFJ.out)
            have hf9 := HF9.out
            clear hw hL hc8 sb8 ht8
            gi_wp2
            have oF := HO9.out.trans (Only.setCell w9 ⟨c, 0, none⟩ (.int .i64 ((j : Int) + 1)))
            exact ⟨others_only oF HC4.out, oF⟩
          · have hne := pos_gap T k j hj1 (by omega)
            have hz := dcP_err hne
            obtain ⟨e, he⟩ : ∃ e, (dcP (T.getD j [])).2 = e := ⟨_, rfl⟩
            simp only [hz, he] at HR
            rw [he] at hne
            have hneb : (e == 0) = false := by simpa using hne
            unfold zp zt at HR
            obtain ⟨b1, off1, rfl, htj⟩ := hIj.get hjT
            generalize st (T.getD j []) = tj at *
            have HCJ := Lib.hid hcj
            have HFJ := Lib.hid hfj
            clear hz he hne hIj hjs hgapk
            gi_wp2
            refine ⟨trivial, (fun h => (by cases h)), CallsIn.inRound _ (callsIn_wide.2 ((HR.out _).mono ?_))⟩
            rintro _ w5 ⟨rfl, k5⟩
            have k6 := k5.alloc (.cells #[.int .i64 0, .int .i64 0, .bool false, .bool false, .int .i64 0, .string ⟨#[]⟩] 29)
            have hc6 := (Below.cell k6 (p := ⟨c, 0, none⟩) (there_cell HCJ.out)).trans HCJ.out
            have hf6 : (w5.alloc (.cells #[.int .i64 0, .int .i64 0, .bool false, .bool false, .int .i64 0, .string ⟨#[]⟩] 29)).frozen? ⟨c, 0, none⟩ = false := (World.frozen?_of_block (w := wr) (a := ⟨c, 0, none⟩) (Below.block k6 c (there_cell HCJ.out))).trans HFJ.out
            have HK6 := Lib.hid k6
            have HC6 := Lib.hid hc6
            have HF6 := Lib.hid hf6
            clear k5 k6
            gi_wp2
            go_roundw
            case rel =>
              have k6 := HK6.out
              refine ⟨j + 1, by omega, by omega, ?_, ?_, ?_⟩
              · exact (oj.trans (Only.below k6)).trans (Only.setCell _ ⟨c, 0, none⟩ _)
              · rw [show ((j + 1 : Nat) : Int) = (j : Int) + 1 by omega]
                exact set_same HC6.out
              · simp [HF6.out]
            case measure =>
              rw [cv_of HCJ.out, cv_of (j := j + 1) (by rw [show ((j + 1 : Nat) : Int) = (j : Int) + 1 by omega]; exact set_same HC6.out)]
              omega
  case done =>
    intro W o ⟨hE, hEc, hEf⟩ hd
    have p1 := put_only (l := w2.heap.size + 1) W o
    have oE := hE.far p1 (Nat.le_succ _)
    have hEc' := (p1.cell (p := ⟨c, 0, none⟩) (there_cell hEc) (by show c ≠ w2.heap.size + 1; omega)).trans hEc
    have hEf' := (p1.frozen (p := ⟨c, 0, none⟩) (there_cell hEc) (by show c ≠ w2.heap.size + 1; omega)).trans hEf
    generalize W.putObj (w2.heap.size + 1) o = W5 at *
    clear hE hEc hEf p1
    rw [z2] at hd ⊢
    have HC5 := Lib.hid hEc'
    gi_wp2
    gi_loopw [] (fun wr => ∃ j : Nat, pos T len ≤ j ∧ j ≤ len ∧ Only c W5 wr ∧ wr.cell? ⟨c, 0, none⟩ = some (.int .i64 (j : Int)) ∧ wr.frozen? ⟨c, 0, none⟩ = false) (fun wr => len + 1 - cv wr c)
    case atStart => exact ⟨_, Nat.le_refl _, pos_le T len, Only.refl c W5, hEc', hEf'⟩
    case round =>
      obtain ⟨j, hj1, hj2, oj, hcj, hfj⟩ := hrel
      have o2j := oE.trans oj
      have sbj := (o2j.cell (p := ⟨b, 0, none⟩) (there_cell sb2) (by show b ≠ c; omega)).trans sb2
      have hIj := IsT.lies hI KW2 o2j (by omega : w.heap.size ≤ c)
      by_cases hjl0 : j < len
      · have hjT : j < T.length := by rw [← HLT.out]; exact hjl0
        have hjl : (j : Int) < (len : Int) := by omega
        have hjs : (st (T.getD j [])).size ≤ 1000000 := by
          rw [st_size, List.getD_eq_getElem?_getD, List.getElem?_eq_getElem hjT]; exact hsz _ (List.getElem_mem hjT)
        have HR := Lib.hid (fun W => rmpdecode_any W (st (T.getD j [])) W hjs (Keeps.refl W))
        unfold RdcPost at HR
        simp only [ls_st] at HR
        have hne := pos_gap T len j hj1 hjl0
        have hz := dcP_err hne
        obtain ⟨e, he⟩ : ∃ e, (dcP (T.getD j [])).2 = e := ⟨_, rfl⟩
        simp only [hz, he] at HR
        rw [he] at hne
        have hneb : (e == 0) = false := by simpa using hne
        unfold zp zt at HR
        obtain ⟨b1, off1, rfl, htj⟩ := hIj.get hjT
        generalize st (T.getD j []) = tj at *
        have HCJ := Lib.hid hcj
        have HFJ := Lib.hid hfj
        clear hz he hne hIj hjs
        gi_wp2
        refine ⟨trivial, callsIn_wide.2 ((HR.out _).mono ?_)⟩
        rintro _ w5 ⟨rfl, k5⟩
        have k6 := k5.alloc (.cells #[.int .i64 0, .int .i64 0, .bool false, .bool false, .int .i64 0, .string ⟨#[]⟩] 29)
        have hc6 := (Below.cell k6 (p := ⟨c, 0, none⟩) (there_cell HCJ.out)).trans HCJ.out
        have hf6 : (w5.alloc (.cells #[.int .i64 0, .int .i64 0, .bool false, .bool false, .int .i64 0, .string ⟨#[]⟩] 29)).frozen? ⟨c, 0, none⟩ = false := (World.frozen?_of_block (w := wr) (a := ⟨c, 0, none⟩) (Below.block k6 c (there_cell HCJ.out))).trans HFJ.out
        have HK6 := Lib.hid k6
        have HC6 := Lib.hid hc6
        have HF6 := Lib.hid hf6
        clear k5 k6
        gi_wp2
        go_roundw
        case rel =>
          have k6 := HK6.out
          refine ⟨j + 1, by omega, by omega, ?_, ?_, ?_⟩
          · exact (oj.trans (Only.below k6)).trans (Only.setCell _ ⟨c, 0, none⟩ _)
          · rw [show ((j + 1 : Nat) : Int) = (j : Int) + 1 by omega]
            exact set_same HC6.out
          · simp [HF6.out]
        case measure =>
          rw [cv_of HCJ.out, cv_of (j := j + 1) (by rw [show ((j + 1 : Nat) : Int) = (j : Int) + 1 by omega]; exact set_same HC6.out)]
          omega
      · obtain rfl : j = len := by omega
        have hd5 := (oj.block (c + 1) (Array.getElem?_eq_some_iff.1 hd).1 (by omega)).trans hd
        have rbj := (o2j.cell (p := ⟨b + 1, 0, none⟩) (there_cell rb2) (by show b + 1 ≠ c; omega)).trans rb2
        have rfj := (o2j.frozen (p := ⟨b + 1, 0, none⟩) (there_cell rb2) (by show b + 1 ≠ c; omega)).trans rf2
        have HBJ := Lib.hid (show Below w.heap.size w wr from ⟨o2j.os.trans KW2.os, o2j.tape.trans KW2.tape, o2j.output.trans KW2.output, Nat.le_trans KW2.size o2j.size, fun i hi => (o2j.block i (by have := KW2.size; omega) (by omega)).trans (KW2.block i hi)⟩)
        have HD5 := Lib.hid hd5
        clear hfj HC5
        gi_wp2
        refine ⟨trivial, callsIn_wide.2 ((awake10_any _ _ (Keeps.refl _)).mono ?_)⟩
        rintro _ w9 ⟨rfl, k9⟩
        have rb9 := (Below.cell k9 (p := ⟨b + 1, 0, none⟩) (there_cell rbj)).trans rbj
        have rf9 : w9.frozen? ⟨b + 1, 0, none⟩ = false := (World.frozen?_of_block (w := wr) (a := ⟨b + 1, 0, none⟩) (Below.block k9 (b + 1) (there_cell rbj))).trans rfj
        have HK9 := Lib.hid (HBJ.out.trans (k9.mono (Below.size HBJ.out)))
        have HRB := Lib.hid rb9
        have HD9 := Lib.hid ((Below.block k9 (c + 1) (Array.getElem?_eq_some_iff.1 HD5.out).1).trans HD5.out)
        clear k9
        gi_wp2
        have oS := Only.setCell w9 ⟨b + 1, 0, none⟩ (.bool true)
        have hdS := (oS.block (c + 1) (Array.getElem?_eq_some_iff.1 HD9.out).1 (by show c + 1 ≠ b + 1; omega)).trans HD9.out
        have hrS := set_same (W := w9) (a := ⟨b + 1, 0, none⟩) (v := .bool true) HRB.out
        refine ⟨by simp, .inl ⟨_, _, rfl, run_takeDeferred hdS, ?_⟩⟩
        have p9 := put_only (l := c + 1) (w9.setCell ⟨b + 1, 0, none⟩ (.bool true)) (.deferred none)
        have hr9 := (p9.cell (p := ⟨b + 1, 0, none⟩) (there_cell hrS) (by show b + 1 ≠ c + 1; omega)).trans hrS
        refine ⟨.bool true, ?_, rfl, ?_⟩
        · simp [results, Try.f7, go_sem, hr9]
        · exact p9.keeps (oS.keeps HK9.out (by show w.heap.size ≤ b + 1; omega)) (by omega)
theorem walk (a : Option Addr) (len cap : Nat) (T : List (List UInt8)) (w : World) (h : IsT w a len T ∧ len ≤ cap ∧ len ≤ maxLen ∧ (a = none → len = 0 ∧ cap = 0)) :
    Calls Try.prog 7 #[.slice a len cap] w fun e w' => e = .returned (.bool true) ∧ Below w.heap.size w w' := by
  by_cases hf : fewP T
  · exact (callsIn_wide (n := 5)).1 (core_in a len cap T w h.1 h.2.2.1 h.2.2.2 hf)
  · exact off a len cap T w h.1 h.2.2.1 hf


theorem own : ownKnob Try.prog.godebug = none := by kernel_rfl
theorem laidOut : laidOutB Try.prog = true := by kernel_rfl
set_option maxRecDepth 100000 in
theorem lifted (os : Os) (started : os.Started) (H : Type) (enc : TypeId × Value → H) :
    ReturnsInHanded {} Try.checked os 7 .any (Rows.mpeAllSpec.pre6 enc Try.prog Try.f7 Rows.mpeAllRow.domain false) (Rows.mpeAllSpec.post enc Try.prog Try.f7 false true false false) := by
  refine returnsInHanded_of_change (C := Try.checked) own started (by kernel_rfl) Try.func7
    (ChangeSpec.witness6 (enc := enc) (C := Try.checked) false ⟨#[], #[.slice none 0 0], []⟩ 8 (by kernel_rfl) (by kernel_rfl) (by kernel_rfl) (by kernel_rfl)) ?_
  intro W base args ds gs before hval0 hW hcnd _
  have hval : ∀ (j : Nat) t v, Try.f7.params[j]? = some t → args[j]? = some v → Value.okWide Try.prog W .any base t v := hval0
  have hW' := hW
  obtain ⟨p, q, hA0, hV, rfl, hfz, hnd⟩ := hW
  have hA : DataW.TrodAll enc Try.prog W 0 (fun _ => true) true Try.f7.params.toList args.toList ds p := hA0
  rw [Try.params7] at hA hval
  obtain ⟨v0, vs0, d0, ds0, p0, q0, hargs, rfl, rfl, h0, r0⟩ := trodAll_cons hA
  obtain ⟨rfl, rfl, rfl⟩ := trodAll_nil r0
  obtain rfl : args = #[v0] := by cases args; simp_all
  obtain ⟨rfl, rfl⟩ := trodVars_none hV
  obtain ⟨a0, len0, cap0, rfl⟩ := okWide_slice Try.underlying46 (hval 0 46 v0 rfl rfl)
  have k0 := h0
  have lt0 : ∀ x ∈ p0, x.block < W.heap.size := by obtain ⟨m, hm⟩ := k0; exact DataW.trod_lt m _ _ _ hm
  obtain ⟨z0, w0⟩ := open_trow2 h0
  clear hA0 hval0
  refine (walk a0 len0 cap0 z0 W w0).mono fun e W' ⟨he, bel⟩ => ?_
  subst he
  exact ⟨_, rfl, _, _, _, [], _, [], hW', trodAll_mk1 (shut_bool Try.underlying4 _), (trodAll_cons_mk (Below.trod laidOut (by kernel_rfl) (of_decide_eq_true (by kernel_rfl)) k0 bel lt0) trodAll_mk0), rfl, bel.frame _, fun h => by cases h⟩

theorem over : Rows.mpeAllRow.holds Try.pinned (OpenSpec.ofChange Rows.mpeAllSpec) :=
  OpenClaim.holds_of_wide 7 Try.f7 rfl rfl rfl rfl rfl rfl rfl ⟨rfl, rfl, rfl, rfl, rfl⟩ rfl rfl rfl rfl rfl (by kernel_rfl) Try.func7 (by kernel_rfl)
    (of_decide_eq_true (by kernel_rfl)) (by unfold Func.isWrapper; first | (rw [if_pos (by decide +kernel)]; kernel_rfl) | (rw [if_neg (by decide +kernel)]; exact ⟨rfl, rfl⟩))
    (fun os started H enc _ => lifted os started H enc)

theorem proved : Rows.MpeAllSaid := over
#print axioms proved
end Go.Proofs.Ytbkodlinfmflkaa.mpeAll
