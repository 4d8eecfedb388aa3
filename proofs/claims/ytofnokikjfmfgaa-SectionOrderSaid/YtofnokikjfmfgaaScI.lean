/-
  What may answers, the error of sections that are to be joined: for up to a million sections. The memory that was there stays.
-/
import Derived.Test.YtofnokikjfmfgaaScB
namespace Go.Proofs.Ytofnokikjfmfgaa
open Go.RowKit Gf Sct
set_option maxRecDepth 100000
theorem rng_keeps {w w' : World} {b o : Nat} {cs : List Value} (h : w.rangeAt b o cs) (hb : b < w.heap.size) (k : Keeps w w') : w'.rangeAt b o cs := fun j v hv => (Below.cell k (p := ⟨b, o + j, none⟩) hb).trans (h j v hv)
/-- A row of sections that is not empty lies so. -/
structure SecRow (_T : RowT Sec) (b off len : Nat) (L : List Sec) (w : World) : Prop where
  ln : len = L.length
  old : b < w.heap.size
  row : ∀ k, k < len → w.rangeAt b (off + k * 8) (secC (L.getD k zs))
theorem SecRow.keeps {T : RowT Sec} {b off len : Nat} {L : List Sec} {w w' : World} (h : SecRow T b off len L w) (k : Keeps w w') : SecRow T b off len L w' :=
  ⟨h.ln, Nat.lt_of_lt_of_le h.old (Below.size k), fun i hi => rng_keeps (h.row i hi) h.old k⟩
theorem row_of {T : RowT Sec} (hs : T.sz = 8) (he : ∀ s, T.enc s = secC s) {a : Option Addr} {len : Nat} {L : List Sec} {w : World} (h : IsE T w a len L) (h0 : 0 < len) : ∃ b off, a = some ⟨b, off, none⟩ ∧ SecRow T b off len L w := by
  obtain ⟨b, off, ha, hb, _⟩ := h.2 (by rw [← h.1]; exact h0)
  refine ⟨b, off, ha, h.1, hb, fun k hk => ?_⟩
  obtain ⟨b', off', ha', _, hr⟩ := h.range (i := k) (by rw [← h.1]; exact hk)
  rw [ha] at ha'
  cases ha'
  rw [hs, he] at hr
  rw [List.getD_eq_getElem?_getD, List.getElem?_eq_getElem (by rw [← h.1]; exact hk)]
  exact hr
theorem same_kin (x y : Sec) : sameB (smv x) (smv y) = kin y x := by
  cases h : kin y x
  · cases h2 : sameB (smv x) (smv y)
    · rfl
    · have e := sameB_iff.1 h2
      unfold smv at e
      simp only [Sec.mk.injEq] at e
      rw [kin_iff.2 ⟨e.1.symm, e.2.1.symm, e.2.2.1.symm, e.2.2.2.1.symm, e.2.2.2.2.1.symm, e.2.2.2.2.2.2.1.symm⟩] at h
      cases h
  · obtain ⟨h1, h2, h3, h4, h5, h6⟩ := kin_iff.1 h
    refine sameB_iff.2 ?_
    unfold smv
    rw [h1, h2, h3, h4, h5, h6]
def MayPost (w0 : World) (L : List Sec) (e : Ending) (w' : World) : Prop := e = .returned (.int .i64 (jn L).2) ∧ Keeps w0 w'
theorem MayPost.of {w0 W : World} {L : List Sec} {l : List UInt8} {n : Int} (e : jn L = (l, n)) (k : Keeps w0 W) : MayPost w0 L (.returned (.int .i64 n)) W := by unfold MayPost; rw [e]; exact ⟨rfl, k⟩
def mayA (w : World) (L : List Sec) (i : Value) (wr : World) : Prop := ∃ k : Nat, k ≤ L.length ∧ i = .int .i64 (k : Int) ∧ (∀ j, j < k → chk (L.getD j zs) = 0) ∧ Keeps w wr
def mayB (w : World) (L : List Sec) (i : Value) (wr : World) : Prop := ∃ k : Nat, k ≤ L.length ∧ i = .int .i64 (k : Int) ∧ (∀ j, j < k → kin (L.getD 0 zs) (L.getD j zs) = true) ∧ Keeps w wr
def mayC (w : World) (L : List Sec) (i : Value) (wr : World) : Prop := ∃ k : Nat, k ≤ L.length ∧ i = .int .i64 (k : Int) ∧ (∀ j, j < k → (L.getD j zs).num = (j : Int)) ∧ Keeps w wr
set_option maxHeartbeats 6400000 in
theorem scmay_any (w0 : World) (a : Option Addr) (len cap : Nat) (L : List Sec) (w : World) (hI : IsE secT w a len L) (hl : len ≤ 1000000) (hk : Keeps w0 w) :
    Calls Try.prog 34 #[.slice a len cap] w (MayPost w0 L) := by
  by_cases h0 : len = 0
  · have HJ := Lib.hid (jn_nil (L := L) (by rw [← hI.1]; exact h0))
    subst h0
    clear hI
    go_enter Try.func34, Try.ntmps34
    go_wp2
    go_ret
    exact MayPost.of HJ.out hk
  · obtain ⟨b, off, rfl, hR⟩ := row_of (T := secT) rfl (fun _ => rfl) hI (by omega)
    have HR := Lib.hid hR
    have HK := Lib.hid hk
    have HLL := Lib.hid hI.1
    have hpos : 0 < len := by omega
    have hgd := egS
    have hl0 : ((len : Int) == 0) = false := by simp; omega
    clear hI hR hk
    go_enter Try.func34, Try.ntmps34
    go_wp2
    go_loopw [15] (fun i wr => mayA w L i wr) (fun i _ => len - (intOf i).toNat)
    case atStart => exact ⟨0, by omega, rfl, fun j hj => by omega, Keeps.refl w⟩
    case round =>
      obtain ⟨k, hk, rfl, hc, hkw⟩ := hrel
      rw [← HLL.out] at hk
      have HKW := Lib.hid hkw
      have HC := Lib.hid hc
      clear hkw hc
      by_cases hlt : k < len
      · have hkI : (k : Int) < (len : Int) := by omega
        obtain ⟨x, hx⟩ : ∃ x, L.getD k zs = x := ⟨_, rfl⟩
        have hrk := (HR.out.keeps HKW.out).row k hlt
        rw [hx] at hrk
        have HRK := Lib.hid hrk
        have HCK := Lib.hid (fun W => sccheck_any W x W (Keeps.refl W))
        unfold ChkPost at HCK
        obtain ⟨c, hc⟩ : ∃ c, chk x = c := ⟨_, rfl⟩
        simp only [hc] at HCK
        have HX := Lib.hid hx
        have HCX := Lib.hid hc
        clear hrk hx hc
        by_cases hc0 : c = 0
        · subst hc0
          obtain ⟨tb, pv, ex, ver, nw, num, la, S⟩ := x
          go_wp2_with (first | (refine wp_ldS (b := b) (off := off + k * 8) HRK.out rfl _ rfl rfl ?_) | (go_at_call 32; refine (HCK.out _).mono ?_; rintro _ w1 ⟨rfl, k1⟩; have HK1 := Lib.hid ((HKW.out.alloc (.cells (secC ⟨tb, pv, ex, ver, nw, num, la, S⟩).toArray 29)).trans k1); clear k1))
          go_roundw
          case rel => exact ⟨k + 1, by rw [← HLL.out]; omega, by go_num, fun j hj => by
            by_cases e : j = k
            · subst e; rw [HX.out]; exact HCX.out
            · exact HC.out j (by omega), HK1.out⟩
          case measure => simp [intOf]; omega
        · have hcb : (c != 0) = true := by simpa using hc0
          have HJ := Lib.hid (show jn L = ([], c) by rw [jn_chk (L := L) (k := k) (by rw [← HLL.out]; exact hlt) HC.out (by rw [HX.out, HCX.out]; exact hc0), HX.out, HCX.out])
          obtain ⟨tb, pv, ex, ver, nw, num, la, S⟩ := x
          clear hc0
          go_wp2_with (first | (refine wp_ldS (b := b) (off := off + k * 8) HRK.out rfl _ rfl rfl ?_) | (go_at_call 32; refine (HCK.out _).mono ?_; rintro _ w1 ⟨rfl, k1⟩; have HK1 := Lib.hid ((HKW.out.alloc (.cells (secC ⟨tb, pv, ex, ver, nw, num, la, S⟩).toArray 29)).trans k1); clear k1))
          go_ret
          exact MayPost.of HJ.out (HK.out.trans HK1.out)
      · have hkI : ¬ (k : Int) < (len : Int) := by omega
        have HCA := Lib.hid (show ∀ j, j < L.length → chk (L.getD j zs) = 0 from fun j hj => HC.out j (by rw [← HLL.out] at hj; omega))
        have HR2 := Lib.hid (HR.out.keeps HKW.out)
        have HK2 := Lib.hid (HK.out.trans HKW.out)
        clear HC HR HK HKW hlt hk
        obtain ⟨wA, hA⟩ : ∃ wA, wA = wr := ⟨_, rfl⟩
        subst hA
        go_wp2
        go_loopw [27] (fun i w2 => mayB wA L i w2) (fun i _ => len - (intOf i).toNat)
        case atStart => exact ⟨0, by omega, rfl, fun j hj => by omega, Keeps.refl wA⟩
        case round =>
          obtain ⟨k, hk, rfl, hc, hkw⟩ := hrel
          rw [← HLL.out] at hk
          have HKW := Lib.hid hkw
          have HC := Lib.hid hc
          have HR0 := Lib.hid HR2.out
          clear hkw hc
          obtain ⟨x0, hx0⟩ : ∃ x0, L.getD 0 zs = x0 := ⟨_, rfl⟩
          have HX0 := Lib.hid hx0
          by_cases hlt : k < len
          · have hkI : (k : Int) < (len : Int) := by omega
            obtain ⟨x, hx⟩ : ∃ x, L.getD k zs = x := ⟨_, rfl⟩
            have hrk := (HR2.out.keeps HKW.out).row k hlt
            rw [hx] at hrk
            have HRK := Lib.hid hrk
            have HX := Lib.hid hx
            obtain ⟨kb, hkb⟩ : ∃ kb, kin x0 x = kb := ⟨_, rfl⟩
            have hne : ∀ W, (binOp .neq 29 (secV (smv x)) (secV (smv x0))).run Try.prog W = .ok (.bool (!kb)) W := fun W => by rw [neS, same_kin, hkb]
            have HKB := Lib.hid hkb
            clear hrk hx hx0 hkb
            cases kb
            · have HJ := Lib.hid (show jn L = ([], 14) from jn_kin (k := k) (by rw [← HLL.out]; exact hlt) HCA.out (by rw [HX0.out, HX.out, HKB.out]))
              obtain ⟨tb, pv, ex, ver, nw, num, la, S⟩ := x
              obtain ⟨tb0, pv0, ex0, ver0, nw0, num0, la0, S0⟩ := x0
              have HSM1 := Lib.hid (fun W => scsame_any W ⟨tb, pv, ex, ver, nw, num, la, S⟩ W (Keeps.refl W))
              have HSM0 := Lib.hid (fun W => scsame_any W ⟨tb0, pv0, ex0, ver0, nw0, num0, la0, S0⟩ W (Keeps.refl W))
              unfold SecPost at HSM1 HSM0
              unfold smv at hne HSM1 HSM0
              simp only at hne HSM1 HSM0
              go_wp2_with (first | (refine wp_ldS (b := b) (off := off + k * 8) HRK.out rfl _ rfl rfl ?_))
              obtain ⟨b7, hb7⟩ : ∃ b7, wr.heap.size = b7 := ⟨_, rfl⟩
              obtain ⟨w7, hw7⟩ : ∃ w7, wr.alloc (.cells #[.int .i64 tb, .bool pv, .int .i64 ex, .int .i64 ver, .bool nw, .int .i64 num, .int .i64 la, .string S] 29) = w7 := ⟨_, rfl⟩
              have hs7 : SecAt b7 ⟨tb, pv, ex, ver, nw, num, la, S⟩ w7 := by have := SecAt.made wr ⟨tb, pv, ex, ver, nw, num, la, S⟩ 29; rwa [hb7, hw7] at this
              have hk7 : Keeps wr w7 := by rw [← hw7]; exact (Keeps.refl wr).alloc _
              have hr7 := HR0.out.keeps (HKW.out.trans hk7)
              have HK7 := Lib.hid (HKW.out.trans hk7)
              have r0 := hr7.row 0 hpos
              rw [HX0.out, Nat.zero_mul, Nat.add_zero] at r0
              have hob := hr7.old
              rw [hb7, hw7]
              clear hb7 hw7 hr7 hk7
              refine wp_draw (by kernel_rfl)
                [secV ⟨tb, pv, ex, ver, nw, num, la, S⟩, secV ⟨tb, pv, ex, ver, nw, 0, la, ⟨#[]⟩⟩, .slice (some ⟨b, off, none⟩) len cap, .pointer (some ⟨b, off, none⟩), secV ⟨tb0, pv0, ex0, ver0, nw0, num0, la0, S0⟩, secV ⟨tb0, pv0, ex0, ver0, nw0, 0, la0, ⟨#[]⟩⟩, .bool true]
                (fun _ W => Keeps w7 W)
                rfl (by kernel_rfl) (fin := ?fin) ?hfin ((Keeps.refl w7).eqv (Eqv.drew w7)) ?each ?hend
              case hfin => simp [seqA, dstOf, Act.put]; rfl
              case each =>
                refine ⟨?_, ?_, ?_, ?_, ?_, ?_, ?_, trivial⟩
                all_goals intro X w6 h0 hd hs hw
                all_goals unfold Does
                all_goals obtain ⟨q0, q1, q2, q3, q4, q5, q6, q7, _⟩ := hs7.keeps hw
                all_goals obtain ⟨p0, p1, p2, p3, p4, p5, p6, p7⟩ := range_cells (rng_keeps r0 hob hw)
                all_goals go_simp
                all_goals first
                  | exact fun L' k => hw
                  | ((with_reducible refine (HSM1.out w6).mono ?_); rintro e w8 ⟨rfl, k8⟩; exact ⟨_, rfl, rfl, fun _ _ => hw.trans k8⟩)
                  | ((with_reducible refine (HSM0.out w6).mono ?_); rintro e w8 ⟨rfl, k8⟩; exact ⟨_, rfl, rfl, fun _ _ => hw.trans k8⟩)
              case hend =>
              intro X w6 hL hw
              have HKE := Lib.hid (HK7.out.trans hw)
              clear hw hL hs7 r0 hob HK7
              go_wp2
              go_ret
              exact MayPost.of HJ.out (HK2.out.trans HKE.out)
            · obtain ⟨tb, pv, ex, ver, nw, num, la, S⟩ := x
              obtain ⟨tb0, pv0, ex0, ver0, nw0, num0, la0, S0⟩ := x0
              have HSM1 := Lib.hid (fun W => scsame_any W ⟨tb, pv, ex, ver, nw, num, la, S⟩ W (Keeps.refl W))
              have HSM0 := Lib.hid (fun W => scsame_any W ⟨tb0, pv0, ex0, ver0, nw0, num0, la0, S0⟩ W (Keeps.refl W))
              unfold SecPost at HSM1 HSM0
              unfold smv at hne HSM1 HSM0
              simp only at hne HSM1 HSM0
              go_wp2_with (first | (refine wp_ldS (b := b) (off := off + k * 8) HRK.out rfl _ rfl rfl ?_))
              obtain ⟨b7, hb7⟩ : ∃ b7, wr.heap.size = b7 := ⟨_, rfl⟩
              obtain ⟨w7, hw7⟩ : ∃ w7, wr.alloc (.cells #[.int .i64 tb, .bool pv, .int .i64 ex, .int .i64 ver, .bool nw, .int .i64 num, .int .i64 la, .string S] 29) = w7 := ⟨_, rfl⟩
              have hs7 : SecAt b7 ⟨tb, pv, ex, ver, nw, num, la, S⟩ w7 := by have := SecAt.made wr ⟨tb, pv, ex, ver, nw, num, la, S⟩ 29; rwa [hb7, hw7] at this
              have hk7 : Keeps wr w7 := by rw [← hw7]; exact (Keeps.refl wr).alloc _
              have hr7 := HR0.out.keeps (HKW.out.trans hk7)
              have HK7 := Lib.hid (HKW.out.trans hk7)
              have r0 := hr7.row 0 hpos
              rw [HX0.out, Nat.zero_mul, Nat.add_zero] at r0
              have hob := hr7.old
              rw [hb7, hw7]
              clear hb7 hw7 hr7 hk7
              refine wp_draw (by kernel_rfl)
                [secV ⟨tb, pv, ex, ver, nw, num, la, S⟩, secV ⟨tb, pv, ex, ver, nw, 0, la, ⟨#[]⟩⟩, .slice (some ⟨b, off, none⟩) len cap, .pointer (some ⟨b, off, none⟩), secV ⟨tb0, pv0, ex0, ver0, nw0, num0, la0, S0⟩, secV ⟨tb0, pv0, ex0, ver0, nw0, 0, la0, ⟨#[]⟩⟩, .bool false]
                (fun _ W => Keeps w7 W)
                rfl (by kernel_rfl) (fin := ?fin2) ?hfin2 ((Keeps.refl w7).eqv (Eqv.drew w7)) ?each2 ?hend2
              case hfin2 => simp [seqA, dstOf, Act.put]; rfl
              case each2 =>
                refine ⟨?_, ?_, ?_, ?_, ?_, ?_, ?_, trivial⟩
                all_goals intro X w6 h0 hd hs hw
                all_goals unfold Does
                all_goals obtain ⟨q0, q1, q2, q3, q4, q5, q6, q7, _⟩ := hs7.keeps hw
                all_goals obtain ⟨p0, p1, p2, p3, p4, p5, p6, p7⟩ := range_cells (rng_keeps r0 hob hw)
                all_goals go_simp
                all_goals first
                  | exact fun L' k => hw
                  | ((with_reducible refine (HSM1.out w6).mono ?_); rintro e w8 ⟨rfl, k8⟩; exact ⟨_, rfl, rfl, fun _ _ => hw.trans k8⟩)
                  | ((with_reducible refine (HSM0.out w6).mono ?_); rintro e w8 ⟨rfl, k8⟩; exact ⟨_, rfl, rfl, fun _ _ => hw.trans k8⟩)
              case hend2 =>
              intro X w6 hL hw
              have HKE := Lib.hid (HK7.out.trans hw)
              clear hw hL hs7 r0 hob HK7
              go_wp2
              go_roundw
              case rel => exact ⟨k + 1, by rw [← HLL.out]; omega, by go_num, fun j hj => by
                by_cases e : j = k
                · subst e; rw [HX0.out, HX.out]; exact HKB.out
                · exact HC.out j (by omega), HKE.out⟩
              case measure => simp [intOf]; omega
          · have hkI : ¬ (k : Int) < (len : Int) := by omega
            have HKA := Lib.hid (show ∀ j, j < L.length → kin (L.getD 0 zs) (L.getD j zs) = true from fun j hj => HC.out j (by rw [← HLL.out] at hj; omega))
            have HR3 := Lib.hid (HR2.out.keeps HKW.out)
            have HK3 := Lib.hid (HK2.out.trans HKW.out)
            clear HC HR0 HR2 HK2 HKW hlt hk
            have r0 := HR3.out.row 0 hpos
            rw [hx0, Nat.zero_mul, Nat.add_zero] at r0
            obtain ⟨p0, p1, p2, p3, p4, p5, p6, p7⟩ := range_cells r0
            have hfit := (chk_fit (HCA.out 0 (by rw [← HLL.out]; exact hpos))).1
            rw [hx0] at hfit
            have hla : 0 ≤ x0.la ∧ x0.la ≤ 255 := ⟨hfit.2.2.2.2.2.2.1, hfit.2.2.2.2.2.2.2.1⟩
            clear r0 hfit hx0
            obtain ⟨tb0, pv0, ex0, ver0, nw0, num0, la0, S0⟩ := x0
            simp only at hla p6
            obtain ⟨wB, hB⟩ : ∃ wB, wB = wr := ⟨_, rfl⟩
            subst hB
            by_cases hl1 : (len : Int) = la0 + 1
            · have hl2 : ((len : Int) != la0 + 1) = false := by simp; exact hl1
              have HL1 := Lib.hid hl1
              have hl3 : ((len : Int) == la0 + 1) = true := by simp; exact hl1
              clear hl1 p0 p1 p2 p3 p4 p5 p7
              go_wp2
              go_loopw [49] (fun i w2 => mayC wB L i w2) (fun i _ => len - (intOf i).toNat)
              case atStart => exact ⟨0, by omega, rfl, fun j hj => by omega, Keeps.refl wB⟩
              case round =>
                obtain ⟨k, hk, rfl, hc, hkw⟩ := hrel
                rw [← HLL.out] at hk
                have HKW := Lib.hid hkw
                have HC := Lib.hid hc
                clear hkw hc p6
                by_cases hlt : k < len
                · have hkI : (k : Int) < (len : Int) := by omega
                  obtain ⟨x, hx⟩ : ∃ x, L.getD k zs = x := ⟨_, rfl⟩
                  have hrk := (HR3.out.keeps HKW.out).row k hlt
                  rw [hx] at hrk
                  have HRK := Lib.hid hrk
                  have HX := Lib.hid hx
                  clear hrk hx
                  obtain ⟨tb, pv, ex, ver, nw, num, la, S⟩ := x
                  by_cases hn : num = (k : Int)
                  · have HN := Lib.hid hn
                    have hn2 : (num != (k : Int)) = false := by simp; exact hn
                    clear hn
                    go_wp2_with (first | (refine wp_ldS (b := b) (off := off + k * 8) HRK.out rfl _ rfl rfl ?_))
                    go_roundw
                    case rel => exact ⟨k + 1, by rw [← HLL.out]; omega, by go_num, fun j hj => by
                      by_cases e : j = k
                      · subst e; rw [HX.out]; exact HN.out
                      · exact HC.out j (by omega), HKW.out.alloc _⟩
                    case measure => simp [intOf]; omega
                  · have HJ := Lib.hid (show jn L = ([], 22) from jn_ord (k := k) (by rw [← HLL.out]; exact hlt) HCA.out HKA.out (by rw [HX.out]; exact hn))
                    have hn2 : (num != (k : Int)) = true := by simpa using hn
                    clear hn
                    go_wp2_with (first | (refine wp_ldS (b := b) (off := off + k * 8) HRK.out rfl _ rfl rfl ?_))
                    go_ret
                    exact MayPost.of HJ.out (HK3.out.trans (HKW.out.alloc _))
                · have hkI : ¬ (k : Int) < (len : Int) := by omega
                  have HJ := Lib.hid (show jn L = (bodies L, 0) from jn_ok (by rw [← HLL.out]; omega) HCA.out HKA.out (by rw [← HLL.out, HX0.out]; exact HL1.out) (fun j hj => HC.out j (by rw [← HLL.out] at hj; omega)))
                  clear HC hlt hk
                  go_wp2
                  go_ret
                  exact MayPost.of HJ.out (HK3.out.trans HKW.out)
            · have hl2 : ((len : Int) != la0 + 1) = true := by simpa using hl1
              have HJ := Lib.hid (show jn L = ([], 22) from jn_len (by rw [← HLL.out]; omega) HCA.out HKA.out (by rw [← HLL.out, HX0.out]; exact hl1))
              clear hl1 p0 p1 p2 p3 p4 p5 p7
              go_wp2
              go_ret
              exact MayPost.of HJ.out HK3.out
end Go.Proofs.Ytofnokikjfmfgaa
