/-
  What the document's Join answers, and plain: for up to a thousand sections. The memory that was there stays.
-/
import Derived.Test.YtmfldnflcmbnjaaScJ
namespace Go.Proofs.Ytmfldnflcmbnjaa
open Go.RowKit Gf Sct
set_option maxRecDepth 100000
def rjC (w : World) (b5 : Nat) (x0 : Sec) (L : List Sec) (s i : Value) (wr : World) : Prop := ∃ k : Nat, k ≤ L.length ∧ i = .int .i64 (k : Int) ∧ s = .string (st (bodies (L.take k))) ∧ (∀ j, j < k → (L.getD j zs).num = (j : Int)) ∧ (0 < k → (L.length : Int) = x0.la + 1) ∧ SecAt b5 x0 wr ∧ Keeps w wr
def rjB (w : World) (b5 : Nat) (x0 : Sec) (L : List Sec) (i : Value) (wr : World) : Prop := mayB w L i wr ∧ SecAt b5 x0 wr
theorem kin_no {x y : Sec} (h : kin x y = false) : ¬ (x.tb = y.tb ∧ x.pv = y.pv ∧ x.ex = y.ex ∧ x.ver = y.ver ∧ x.nw = y.nw ∧ x.la = y.la) := fun k => by rw [kin_iff.2 k] at h; cases h
set_option maxHeartbeats 12800000 in
theorem scrjoin_any (w0 : World) (a : Option Addr) (len cap : Nat) (L : List Sec) (w : World) (hI : IsE rsecT w a len L) (hl : len ≤ 1000) (hk : Keeps w0 w) :
    Calls Try.prog 23 #[.slice a len cap] w (JnPost w0 L) := by
  by_cases h0 : len = 0
  · have HJ := Lib.hid (jn_nil (L := L) (by rw [← hI.1]; exact h0))
    subst h0
    clear hI
    go_enter Try.func23, Try.ntmps23
    go_wp2
    go_ret2
    exact JnPost.of HJ.out hk
  · obtain ⟨b, off, rfl, hR⟩ := row_of (T := rsecT) rfl (fun _ => rfl) hI (by omega)
    have HR := Lib.hid hR
    have HK := Lib.hid hk
    have HLL := Lib.hid hI.1
    have hpos : 0 < len := by omega
    have hl0 : ((len : Int) == 0) = false := by simp; omega
    clear hI hR hk
    go_enter Try.func23, Try.ntmps23
    go_wp2
    go_loopw [4] (fun i wr => mayA w L i wr) (fun i _ => len - (intOf i).toNat)
    case atStart => exact ⟨0, by omega, rfl, fun j hj => by omega, Keeps.refl w⟩
    case round =>
      obtain ⟨k, hk, rfl, hc, hkw⟩ := hrel
      rw [← HLL.out] at hk
      have HKW := Lib.hid hkw
      have HC := Lib.hid hc
      clear hkw hc
      by_cases hlt : k < len
      · have hkI : (k : Int) < (len : Int) := by omega
        obtain ⟨x, hx⟩ : ∃ x, L.getD k zs = x := ⟨_, rfl⟩
        have hrk := (HR.out.keeps HKW.out).row k hlt
        rw [hx] at hrk
        have HRK := Lib.hid hrk
        have HOB := Lib.hid (HR.out.keeps HKW.out).old
        have HCK := Lib.hid (fun W => scrcheck_any W x W (Keeps.refl W))
        unfold ChkPost at HCK
        obtain ⟨c, hc⟩ : ∃ c, chk x = c := ⟨_, rfl⟩
        simp only [hc] at HCK
        have HX := Lib.hid hx
        have HCX := Lib.hid hc
        clear hrk hx hc
        by_cases hc0 : c = 0
        · subst hc0
          obtain ⟨tb, pv, ex, ver, nw, num, la, S⟩ := x
          go_wp2_with (first | (refine wp_ldR (b := b) (off := off + k * 8) HRK.out rfl _ rfl rfl ?_) | (go_at_call 11; refine (HCK.out _).mono ?_; rintro _ w1 ⟨rfl, k1⟩; have HK1 := Lib.hid (HKW.out.trans k1); clear k1))
          go_roundw
          case rel => exact ⟨k + 1, by rw [← HLL.out]; omega, by go_num, fun j hj => by
            by_cases e : j = k
            · subst e; rw [HX.out]; exact HCX.out
            · exact HC.out j (by omega), HK1.out⟩
          case measure => simp [intOf]; omega
        · have hcb : (c != 0) = true := by simpa using hc0
          have HJ := Lib.hid (show jn L = ([], c) by rw [jn_chk (L := L) (k := k) (by rw [← HLL.out]; exact hlt) HC.out (by rw [HX.out, HCX.out]; exact hc0), HX.out, HCX.out])
          obtain ⟨tb, pv, ex, ver, nw, num, la, S⟩ := x
          clear hc0
          go_wp2_with (first | (refine wp_ldR (b := b) (off := off + k * 8) HRK.out rfl _ rfl rfl ?_) | (go_at_call 11; refine (HCK.out _).mono ?_; rintro _ w1 ⟨rfl, k1⟩; first | (have HRK2 := Lib.hid (rng_keeps HRK.out HOB.out k1); have HK1 := Lib.hid (HKW.out.trans k1); clear HRK HKW k1) | (have HK2 := Lib.hid (HK1.out.trans k1); clear k1)) | (refine wp_ldR (b := b) (off := off + k * 8) HRK2.out rfl _ rfl rfl ?_))
          go_ret2
          exact JnPost.of HJ.out (HK.out.trans HK2.out)
      · have hkI : ¬ (k : Int) < (len : Int) := by omega
        have HCA := Lib.hid (show ∀ j, j < L.length → chk (L.getD j zs) = 0 from fun j hj => HC.out j (by rw [← HLL.out] at hj; omega))
        have HR2 := Lib.hid (HR.out.keeps HKW.out)
        have HK2 := Lib.hid (HK.out.trans HKW.out)
        clear HC HR HK HKW hlt hk
        obtain ⟨x0, hx0⟩ : ∃ x0, L.getD 0 zs = x0 := ⟨_, rfl⟩
        have HX0 := Lib.hid hx0
        have r0 := HR2.out.row 0 hpos
        rw [hx0, Nat.zero_mul, Nat.add_zero] at r0
        have HR0 := Lib.hid r0
        have hfit := (chk_fit (HCA.out 0 (by rw [← HLL.out]; exact hpos))).1
        rw [hx0] at hfit
        have hla : 0 ≤ x0.la ∧ x0.la ≤ 255 := ⟨hfit.2.2.2.2.2.2.1, hfit.2.2.2.2.2.2.2.1⟩
        have HSZ := Lib.hid (show ∀ j, j < L.length → (L.getD j zs).body.size ≤ 4084 from fun j hj => (chk_fit (HCA.out j hj)).2)
        clear r0 hfit hx0
        obtain ⟨wA, hA⟩ : ∃ wA, wA = wr := ⟨_, rfl⟩
        subst hA
        obtain ⟨tb0, pv0, ex0, ver0, nw0, num0, la0, S0⟩ := x0
        simp only at hla
        go_wp2_with (first | (refine wp_ldR (b := b) (off := off) HR0.out rfl _ rfl rfl ?_))
        have hs5 := SecAt.made wA ⟨tb0, pv0, ex0, ver0, nw0, num0, la0, S0⟩ 28
        obtain ⟨b5, hb5⟩ : ∃ b5, wA.heap.size = b5 := ⟨_, rfl⟩
        obtain ⟨w5, hw5⟩ : ∃ w5, wA.alloc (.cells #[.int .i64 tb0, .bool pv0, .int .i64 ex0, .int .i64 ver0, .bool nw0, .int .i64 num0, .int .i64 la0, .string S0] 28) = w5 := ⟨_, rfl⟩
        have hk5 : Keeps wA w5 := by rw [← hw5]; exact (Keeps.refl wA).alloc _
        simp only [hw5, hb5] at hs5
        rw [hw5, hb5]
        have HS5 := Lib.hid hs5
        have HR5 := Lib.hid (HR2.out.keeps hk5)
        have HK5 := Lib.hid (HK2.out.trans hk5)
        clear hb5 hw5 hk5 hs5 HR2 HK2
        go_loopw [6] (fun i w2 => rjB w5 b5 ⟨tb0, pv0, ex0, ver0, nw0, num0, la0, S0⟩ L i w2) (fun i _ => len - (intOf i).toNat)
        case atStart => exact ⟨⟨0, by omega, rfl, fun j hj => by omega, Keeps.refl w5⟩, HS5.out⟩
        case round =>
          obtain ⟨⟨k, hk, rfl, hc, hkw⟩, hs⟩ := hrel
          rw [← HLL.out] at hk
          have HKW := Lib.hid hkw
          have HC := Lib.hid hc
          have HS := Lib.hid hs
          clear hkw hc
          obtain ⟨c0, c1, c2, c3, c4, c5, c6, c7, _⟩ := hs
          by_cases hlt : k < len
          · have hkI : (k : Int) < (len : Int) := by omega
            obtain ⟨x, hx⟩ : ∃ x, L.getD k zs = x := ⟨_, rfl⟩
            have hrk := (HR5.out.keeps HKW.out).row k hlt
            rw [hx] at hrk
            have HRK := Lib.hid hrk
            have HX := Lib.hid hx
            obtain ⟨kb, hkb⟩ : ∃ kb, kin ⟨tb0, pv0, ex0, ver0, nw0, num0, la0, S0⟩ x = kb := ⟨_, rfl⟩
            have HKB := Lib.hid hkb
            clear hrk hx hkb
            have HAL := Lib.hid (fun o => HS.out.keeps ((Keeps.refl wr).alloc o))
            have d0 := fun o => cell_alloc1 (W := wr) o c0
            have d1 := fun o => cell_alloc1 (W := wr) o c1
            have d2 := fun o => cell_alloc1 (W := wr) o c2
            have d3 := fun o => cell_alloc1 (W := wr) o c3
            have d4 := fun o => cell_alloc1 (W := wr) o c4
            have d6 := fun o => cell_alloc1 (W := wr) o c6
            clear c0 c1 c2 c3 c4 c5 c6 c7
            obtain ⟨tb, pv, ex, ver, nw, num, la, S⟩ := x
            cases kb
            · have HJ := Lib.hid (show jn L = ([], 14) from jn_kin (k := k) (by rw [← HLL.out]; exact hlt) HCA.out (by rw [HX0.out, HX.out, HKB.out]))
              by_cases etb : tb0 = tb
              rotate_left
              · have dtb : (tb0 != tb) = true := by simpa using etb
                go_wp2_with (first | (refine wp_ldR (b := b) (off := off + k * 8) HRK.out rfl _ rfl rfl ?_))
                go_ret2
                exact JnPost.of HJ.out ((HK5.out.trans HKW.out).alloc _)
              subst etb
              by_cases epv : pv0 = pv
              rotate_left
              · cases pv0 <;> cases pv
                · exact absurd rfl epv
                · clear epv
                  go_wp2_with (first | (refine wp_ldR (b := b) (off := off + k * 8) HRK.out rfl _ rfl rfl ?_))
                  go_ret2
                  exact JnPost.of HJ.out ((HK5.out.trans HKW.out).alloc _)
                · clear epv
                  go_wp2_with (first | (refine wp_ldR (b := b) (off := off + k * 8) HRK.out rfl _ rfl rfl ?_))
                  go_ret2
                  exact JnPost.of HJ.out ((HK5.out.trans HKW.out).alloc _)
                · exact absurd rfl epv
              subst epv
              by_cases eex : ex0 = ex
              rotate_left
              · have dex : (ex0 != ex) = true := by simpa using eex
                go_wp2_with (first | (refine wp_ldR (b := b) (off := off + k * 8) HRK.out rfl _ rfl rfl ?_))
                go_ret2
                exact JnPost.of HJ.out ((HK5.out.trans HKW.out).alloc _)
              subst eex
              by_cases ever : ver0 = ver
              rotate_left
              · have dver : (ver0 != ver) = true := by simpa using ever
                go_wp2_with (first | (refine wp_ldR (b := b) (off := off + k * 8) HRK.out rfl _ rfl rfl ?_))
                go_ret2
                exact JnPost.of HJ.out ((HK5.out.trans HKW.out).alloc _)
              subst ever
              by_cases enw : nw0 = nw
              rotate_left
              · cases nw0 <;> cases nw
                · exact absurd rfl enw
                · clear enw
                  go_wp2_with (first | (refine wp_ldR (b := b) (off := off + k * 8) HRK.out rfl _ rfl rfl ?_))
                  go_ret2
                  exact JnPost.of HJ.out ((HK5.out.trans HKW.out).alloc _)
                · clear enw
                  go_wp2_with (first | (refine wp_ldR (b := b) (off := off + k * 8) HRK.out rfl _ rfl rfl ?_))
                  go_ret2
                  exact JnPost.of HJ.out ((HK5.out.trans HKW.out).alloc _)
                · exact absurd rfl enw
              subst enw
              by_cases ela : la0 = la
              rotate_left
              · have dla : (la0 != la) = true := by simpa using ela
                go_wp2_with (first | (refine wp_ldR (b := b) (off := off + k * 8) HRK.out rfl _ rfl rfl ?_))
                go_ret2
                exact JnPost.of HJ.out ((HK5.out.trans HKW.out).alloc _)
              subst ela
              exact absurd ⟨rfl, rfl, rfl, rfl, rfl, rfl⟩ (kin_no HKB.out)
            · obtain ⟨e1, e2, e3, e4, e5, e6⟩ := kin_iff.1 HKB.out
              simp only at e1 e2 e3 e4 e5 e6
              subst e1 e2 e3 e4 e5 e6
              go_wp2_with (first | (refine wp_ldR (b := b) (off := off + k * 8) HRK.out rfl _ rfl rfl ?_))
              go_roundw
              case rel => exact ⟨⟨k + 1, by rw [← HLL.out]; omega, by go_num, fun j hj => by
                by_cases e : j = k
                · subst e; rw [HX0.out, HX.out]; exact HKB.out
                · exact HC.out j (by omega), HKW.out.alloc _⟩, HAL.out _⟩
              case measure => simp [intOf]; omega
          · have hkI : ¬ (k : Int) < (len : Int) := by omega
            have HKA := Lib.hid (show ∀ j, j < L.length → kin (L.getD 0 zs) (L.getD j zs) = true from fun j hj => HC.out j (by rw [← HLL.out] at hj; omega))
            have HR6 := Lib.hid (HR5.out.keeps HKW.out)
            have HK6 := Lib.hid (HK5.out.trans HKW.out)
            have HS6 := Lib.hid HS.out
            clear HC HR5 HK5 HKW HS HS5 hlt hk c0 c1 c2 c3 c4 c5 c6 c7
            obtain ⟨wB, hB⟩ : ∃ wB, wB = wr := ⟨_, rfl⟩
            subst hB
            go_wp2
            go_loopw [8, 9] (fun s i w2 => rjC wB b5 ⟨tb0, pv0, ex0, ver0, nw0, num0, la0, S0⟩ L s i w2) (fun _ i _ => len - (intOf i).toNat)
            case atStart => exact ⟨0, by omega, rfl, rfl, fun j hj => by omega, fun h => by omega, HS6.out, Keeps.refl wB⟩
            case round =>
              obtain ⟨k, hk, rfl, rfl, hc, hcl, hs, hkw⟩ := hrel
              rw [← HLL.out] at hk
              have HKW := Lib.hid hkw
              have HC := Lib.hid hc
              have HCL := Lib.hid hcl
              have HS := Lib.hid hs
              have c6 := hs.c6
              clear hkw hc hcl hs
              obtain ⟨T, hT⟩ : ∃ T, st (bodies (L.take k)) = T := ⟨_, rfl⟩
              have hTz : T.size ≤ 4084 * k := by rw [← hT, st_size]; exact bodies_len HSZ.out k (by rw [← HLL.out]; exact hk)
              rw [hT]
              have HT := Lib.hid hT
              clear hT
              by_cases hlt : k < len
              · have hkI : (k : Int) < (len : Int) := by omega
                obtain ⟨x, hx⟩ : ∃ x, L.getD k zs = x := ⟨_, rfl⟩
                have hrk := (HR6.out.keeps HKW.out).row k hlt
                rw [hx] at hrk
                have HX := Lib.hid hx
                obtain ⟨g0, g1, g2, g3, g4, g5, g6, g7⟩ := range_cells hrk
                have hbz := HSZ.out k (by rw [← HLL.out]; exact hlt)
                rw [hx] at hbz
                have HNX := Lib.hid (show bodies (L.take (k + 1)) = bodies (L.take k) ++ ls x.body by rw [bodies_next (by rw [← HLL.out]; exact hlt), hx])
                clear hrk hx g0 g1 g2 g3 g4 g6
                obtain ⟨tb, pv, ex, ver, nw, num, la, S⟩ := x
                simp only at hbz g5 g7 HNX
                have hsz : T.size ≤ 5000000 := by omega
                by_cases hn : num = (k : Int)
                · by_cases hl1 : (len : Int) = la0 + 1
                  · have hn2 : (num != (k : Int)) = false := by simp; exact hn
                    have hl2 : ((len : Int) != la0 + 1) = false := by simp; exact hl1
                    have HN := Lib.hid hn
                    have HL1 := Lib.hid hl1
                    have HTS := Lib.hid (show T ++ S = st (bodies (L.take (k + 1))) by rw [HNX.out, ← st_append, HT.out, st_ls])
                    clear hn hl1 hTz
                    go_wp2
                    go_roundw
                    case rel => exact ⟨k + 1, by rw [← HLL.out]; omega, by go_num, by rw [← HTS.out], fun j hj => by
                      by_cases e : j = k
                      · subst e; rw [HX.out]; exact HN.out
                      · exact HC.out j (by omega), fun _ => by rw [← HLL.out]; exact HL1.out, HS.out, HKW.out⟩
                    case measure => simp [intOf]; omega
                  · have hn2 : (num != (k : Int)) = false := by simp; exact hn
                    have hl2 : ((len : Int) != la0 + 1) = true := by simpa using hl1
                    have HJ := Lib.hid (show jn L = ([], 22) from jn_len (by rw [← HLL.out]; omega) HCA.out HKA.out (by rw [← HLL.out, HX0.out]; exact hl1))
                    clear hn hl1 hTz
                    go_wp2
                    go_ret2
                    exact JnPost.of HJ.out (HK6.out.trans HKW.out)
                · have hn2 : (num != (k : Int)) = true := by simpa using hn
                  have HJ := Lib.hid (show jn L = ([], 22) from jn_ord (k := k) (by rw [← HLL.out]; exact hlt) HCA.out HKA.out (by rw [HX.out]; exact hn))
                  clear hn hTz
                  go_wp2
                  go_ret2
                  exact JnPost.of HJ.out (HK6.out.trans HKW.out)
              · have hkI : ¬ (k : Int) < (len : Int) := by omega
                have HJ := Lib.hid (show jn L = (bodies L, 0) from jn_ok (by rw [← HLL.out]; omega) HCA.out HKA.out (by rw [HX0.out]; exact HCL.out (by omega)) (fun j hj => HC.out j (by rw [← HLL.out] at hj; omega)))
                have HTE := Lib.hid (show T = st (bodies L) by rw [← HT.out, List.take_of_length_le (by rw [← HLL.out]; omega)])
                clear hlt hk hTz
                go_wp2
                go_ret2
                have h := JnPost.of HJ.out (HK6.out.trans HKW.out)
                rw [← HTE.out] at h
                exact h
end Go.Proofs.Ytmfldnflcmbnjaa
