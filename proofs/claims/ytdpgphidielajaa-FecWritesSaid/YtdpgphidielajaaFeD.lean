/-
  What the document's text, Check and Bytes of a column's part answer. The memory that was there stays.
-/
import Derived.Test.YtdpgphidielajaaFeV
import Derived.Test.YtdpgphidielajaaDgE
namespace Go.Proofs.Ytdpgphidielajaa
open Go.RowKit Gf Tm Sct Mpe Fec
set_option maxRecDepth 100000
set_option maxHeartbeats 800000 in
theorem rfetext_any (w0 : World) (b len cap : Nat) (L : List UInt8) (w : World) (hn : len = L.length) (hl : L.length ≤ 1000) (hI : Ints b L w) (hk : Keeps w0 w) :
    Calls Try.prog 27 #[.slice (some ⟨b, 0, none⟩) len cap] w fun e w' => e = .returned (.string (st L)) ∧ Keeps w0 w' := by
  subst hn
  go_enter Try.func27, Try.ntmps27
  go_wp2
  go_loopw [3, 4] (fun s i wr => dtxRel w L s i wr) (fun _ i _ => L.length - (intOf i).toNat)
  case atStart => exact ⟨0, by omega, rfl, rfl, Keeps.refl _⟩
  case round =>
    obtain ⟨k, hk2, rfl, rfl, hkp⟩ := hrel
    by_cases hlt : k < L.length
    · have hc := (hI.keeps hkp).2 k hlt
      have HT := Lib.hid (show st (L.take k) ++ st [cf L k] = st (L.take (k + 1)) by rw [st_append, Dg.take_one hlt])
      have hz : (st (L.take k)).size ≤ 1000 := by rw [st_size, List.length_take]; omega
      obtain ⟨x, hx⟩ : ∃ x, cf L k = x := ⟨_, rfl⟩
      rw [hx] at hc HT
      have hx8 := u8_bd x
      have hcv := one_conv x wr
      have hz1 : (st [x]).size = 1 := rfl
      have e8 : (x.toNat : Int) % 256 = (x.toNat : Int) := by omega
      clear hx
      go_wp2
      go_roundw
      case rel => exact ⟨k + 1, by omega, by rw [HT.out], by go_num, hkp.alloc _⟩
      case measure => simp [intOf]; omega
    · have HE := Lib.hid (show L.take k = L from List.take_of_length_le (by omega))
      rw [HE.out]
      go_wp2
      go_ret
      exact ⟨rfl, hk.trans hkp⟩
def RfkPost (w0 : World) (p : Fpt) (e : Ending) (w' : World) : Prop := e = .returned (.int .i64 (ckF p)) ∧ Keeps w0 w'
theorem RfkPost.of {w0 W : World} {p : Fpt} {n : Int} (e : ckF p = n) (k : Keeps w0 W) : RfkPost w0 p (.returned (.int .i64 n)) W := ⟨by rw [e], k⟩
set_option maxHeartbeats 6400000 in
theorem rfecheck_any (w0 : World) (p : Fpt) (w : World) (hk : Keeps w0 w) : Calls Try.prog 9 #[feV p] w (RfkPost w0 p) := by
  have HK := Lib.hid hk
  have HC := Lib.hid (fun n W => RfkPost.of (w0 := w0) (p := p) (n := n) (W := W))
  by_cases h1 : p.pad < 0
  · have HE := Lib.hid (ckF_no (p := p) fun x => by have := x.1.1.1; omega)
    obtain ⟨pad, num, la, ⟨dt, tb, fr, ad⟩, txt⟩ := p
    simp only at h1
    clear hk
    go_enter Try.func9, Try.ntmps9
    go_wp2
    go_ret
    exact HC.out _ _ HE.out (HK.out.alloc _)
  · by_cases h2 : 191 < p.pad
    · have HE := Lib.hid (ckF_no (p := p) fun x => by have := x.1.1.2; omega)
      obtain ⟨pad, num, la, ⟨dt, tb, fr, ad⟩, txt⟩ := p
      simp only at h1 h2
      clear hk
      go_enter Try.func9, Try.ntmps9
      go_wp2
      go_ret
      exact HC.out _ _ HE.out (HK.out.alloc _)
    · by_cases h3 : p.la < 0
      · have HE := Lib.hid (ckF_no (p := p) fun x => by have := x.1.2.1.1; omega)
        obtain ⟨pad, num, la, ⟨dt, tb, fr, ad⟩, txt⟩ := p
        simp only at h1 h2 h3
        clear hk
        go_enter Try.func9, Try.ntmps9
        go_wp2
        go_ret
        exact HC.out _ _ HE.out (HK.out.alloc _)
      · by_cases h4 : 63 < p.la
        · have HE := Lib.hid (ckF_no (p := p) fun x => by have := x.1.2.1.2; omega)
          obtain ⟨pad, num, la, ⟨dt, tb, fr, ad⟩, txt⟩ := p
          simp only at h1 h2 h3 h4
          clear hk
          go_enter Try.func9, Try.ntmps9
          go_wp2
          go_ret
          exact HC.out _ _ HE.out (HK.out.alloc _)
        · by_cases h5 : p.num < 0
          · have HE := Lib.hid (ckF_no (p := p) fun x => by have := x.1.2.2.1; omega)
            obtain ⟨pad, num, la, ⟨dt, tb, fr, ad⟩, txt⟩ := p
            simp only at h1 h2 h3 h4 h5
            clear hk
            go_enter Try.func9, Try.ntmps9
            go_wp2
            go_ret
            exact HC.out _ _ HE.out (HK.out.alloc _)
          · by_cases h6 : p.la < p.num
            · have HE := Lib.hid (ckF_no (p := p) fun x => by have := x.1.2.2.2; omega)
              obtain ⟨pad, num, la, ⟨dt, tb, fr, ad⟩, txt⟩ := p
              simp only at h1 h2 h3 h4 h5 h6
              clear hk
              go_enter Try.func9, Try.ntmps9
              go_wp2
              go_ret
              exact HC.out _ _ HE.out (HK.out.alloc _)
            · by_cases h7 : p.tm.dt < 0
              · have HE := Lib.hid (ckF_no (p := p) fun x => by have := x.2.1.1; omega)
                obtain ⟨pad, num, la, ⟨dt, tb, fr, ad⟩, txt⟩ := p
                simp only at h1 h2 h3 h4 h5 h6 h7
                clear hk
                go_enter Try.func9, Try.ntmps9
                go_wp2
                go_ret
                exact HC.out _ _ HE.out (HK.out.alloc _)
              · by_cases h8 : 4095 < p.tm.dt
                · have HE := Lib.hid (ckF_no (p := p) fun x => by have := x.2.1.2; omega)
                  obtain ⟨pad, num, la, ⟨dt, tb, fr, ad⟩, txt⟩ := p
                  simp only at h1 h2 h3 h4 h5 h6 h7 h8
                  clear hk
                  go_enter Try.func9, Try.ntmps9
                  go_wp2
                  go_ret
                  exact HC.out _ _ HE.out (HK.out.alloc _)
                · by_cases h9 : p.tm.ad < 0
                  · have HE := Lib.hid (ckF_no (p := p) fun x => by have := x.2.2.1; omega)
                    obtain ⟨pad, num, la, ⟨dt, tb, fr, ad⟩, txt⟩ := p
                    simp only at h1 h2 h3 h4 h5 h6 h7 h8 h9
                    clear hk
                    go_enter Try.func9, Try.ntmps9
                    go_wp2
                    go_ret
                    exact HC.out _ _ HE.out (HK.out.alloc _)
                  · by_cases h10 : 262143 < p.tm.ad
                    · have HE := Lib.hid (ckF_no (p := p) fun x => by have := x.2.2.2; omega)
                      obtain ⟨pad, num, la, ⟨dt, tb, fr, ad⟩, txt⟩ := p
                      simp only at h1 h2 h3 h4 h5 h6 h7 h8 h9 h10
                      clear hk
                      go_enter Try.func9, Try.ntmps9
                      go_wp2
                      go_ret
                      exact HC.out _ _ HE.out (HK.out.alloc _)
                    · have hr : okR p := ⟨⟨⟨by omega, by omega⟩, ⟨by omega, by omega⟩, by omega, by omega⟩, ⟨by omega, by omega⟩, by omega, by omega⟩
                      by_cases hz : okZ p.txt.size
                      · have HE := Lib.hid (ckF_ok hr hz)
                        obtain ⟨n, hn⟩ : ∃ n : Int, (p.txt.size : Int) = n := ⟨_, rfl⟩
                        have hn4 : n = 256 ∨ n = 512 ∨ n = 768 ∨ n = 1024 := by unfold okZ at hz; omega
                        obtain ⟨pad, num, la, ⟨dt, tb, fr, ad⟩, txt⟩ := p
                        simp only at h1 h2 h3 h4 h5 h6 h7 h8 h9 h10 hn
                        clear hk hr hz
                        rcases hn4 with rfl | rfl | rfl | rfl
                        all_goals
                          go_enter Try.func9, Try.ntmps9
                          go_wp2
                          go_ret
                          exact HC.out _ _ HE.out (HK.out.alloc _)
                      · have HE := Lib.hid (ckF_form hr hz)
                        obtain ⟨n, hn⟩ : ∃ n : Int, (p.txt.size : Int) = n := ⟨_, rfl⟩
                        have g256 : (n != 256) = true := by rw [bne_iff_ne]; unfold okZ at hz; omega
                        have g512 : (n != 512) = true := by rw [bne_iff_ne]; unfold okZ at hz; omega
                        have g768 : (n != 768) = true := by rw [bne_iff_ne]; unfold okZ at hz; omega
                        have g1024 : (n != 1024) = true := by rw [bne_iff_ne]; unfold okZ at hz; omega
                        obtain ⟨pad, num, la, ⟨dt, tb, fr, ad⟩, txt⟩ := p
                        simp only at h1 h2 h3 h4 h5 h6 h7 h8 h9 h10 hn
                        clear hk hr hz
                        go_enter Try.func9, Try.ntmps9
                        go_wp2
                        go_ret
                        exact HC.out _ _ HE.out (HK.out.alloc _)
/-- The first twelve bytes, as numbers. -/
theorem twelve_f {p : Fpt} (h : ckF p = 0) {a2 a3 c1 c2 c3 d1 T e2 e3 : Int} (k2 : a2 = 240 + ((p.txt.size : Int) + 13) / 256) (k3 : a3 = ((p.txt.size : Int) + 13) % 256) (k4 : c1 = p.pad) (k5 : c2 = p.num) (k10 : c3 = p.la) (k6 : d1 = p.tm.dt / 16)
    (k7 : T = 16 * (p.tm.dt % 16) + p.tm.ad / 65536 + 8 * (bv p.tm.tb : Int) + 4 * (bv p.tm.fr : Int)) (k8 : e2 = p.tm.ad / 256 % 256) (k9 : e3 = p.tm.ad % 256) :
    ((hd8 (sF p) ++ by4 (nbr p.tm)).map I64).toArray = #[.int .i64 120, .int .i64 a2, .int .i64 a3, .int .i64 c1, .int .i64 255, .int .i64 255, .int .i64 c2, .int .i64 c3, .int .i64 d1, .int .i64 T, .int .i64 e2, .int .i64 e3] := by
  obtain ⟨⟨⟨⟨p1, p2⟩, ⟨l1, l2⟩, n1, n2⟩, ⟨t1, t2⟩, t3, t4⟩, g⟩ := ckF_good h
  have g2 := (okZ_le g).2
  have ok : okT p.tm := ⟨⟨t1, t2⟩, t3, t4⟩
  have b1 := bv_le p.tm.tb
  have b2 := bv_le p.tm.fr
  have hn : (nbr p.tm : Int) = p.tm.dt * 1048576 + p.tm.ad + (bv p.tm.tb : Int) * 524288 + (bv p.tm.fr : Int) * 262144 := by rw [← nbI_nbr ok]; rfl
  obtain ⟨x0, x1, x2, x3, e0, f0, f1, f2, f3⟩ := by4_int (nbr_lt ok)
  have u : ∀ n : Nat, n < 256 → ((Sct.u8 n).toNat : Int) = (n : Int) := fun n hn => by rw [u8_nat hn]
  rw [hd8_sF, e0, k2, k3, k4, k5, k10, k6, k7, k8, k9]
  unfold I64
  simp only [List.map_cons, List.map_nil, List.cons_append, List.nil_append]
  rw [u _ (by omega), u _ (by omega), u _ (by omega), u _ (by omega), u _ (by omega), u _ (by omega), ← f0, ← f1, ← f2, ← f3]
  rw [show ((240 + (p.txt.size + 13) / 256 : Nat) : Int) = 240 + ((p.txt.size : Int) + 13) / 256 by omega, show (((p.txt.size + 13) % 256 : Nat) : Int) = ((p.txt.size : Int) + 13) % 256 by omega, show (((p.pad * 256 + 255).toNat / 256 : Nat) : Int) = p.pad by omega, show (((p.pad * 256 + 255).toNat % 256 : Nat) : Int) = 255 by omega,
    show ((p.num.toNat : Nat) : Int) = p.num by omega, show ((p.la.toNat : Nat) : Int) = p.la by omega,
    show (nbr p.tm : Int) / 16777216 = p.tm.dt / 16 by omega, show (nbr p.tm : Int) / 65536 % 256 = 16 * (p.tm.dt % 16) + p.tm.ad / 65536 + 8 * (bv p.tm.tb : Int) + 4 * (bv p.tm.fr : Int) by omega, show (nbr p.tm : Int) / 256 % 256 = p.tm.ad / 256 % 256 by omega, show (nbr p.tm : Int) % 256 = p.tm.ad % 256 by omega]
  rfl
theorem once_keepsF {wA W : World} {n : Nat} {R : World → Prop} {X : Nat → Bool} (h : Once n (Eqv wA) (fun W => Keeps wA W ∧ R W) X W) : Keeps wA W := by
  cases e : X n with
  | false => exact (Keeps.refl wA).eqv (h.1 e)
  | true => exact (h.2 e).1
set_option maxHeartbeats 6400000 in
theorem rfebytes_any (w0 : World) (p : Fpt) (w : World) (hc : ckF p = 0) (hk : Keeps w0 w) : Calls Try.prog 13 #[feV p] w fun e w' => e = .returned (.string (st (fby p))) ∧ Keeps w0 w' := by
  obtain ⟨⟨⟨⟨p1, p2⟩, ⟨l1, l2⟩, n1, n2⟩, ⟨t1, t2⟩, t3, t4⟩, g⟩ := ckF_good hc
  have g2 := (okZ_le g).2
  obtain ⟨b, hb⟩ : ∃ b, w.heap.size = b := ⟨_, rfl⟩
  obtain ⟨wA, hA⟩ : ∃ wA, w.alloc (.cells #[.int .i64 p.pad, .int .i64 p.num, .int .i64 p.la, .int .i64 p.tm.dt, .bool p.tm.tb, .bool p.tm.fr, .int .i64 p.tm.ad, .string p.txt] 29) = wA := ⟨_, rfl⟩
  have HA := Lib.hid (show CsAt b (feC p) wA by
    rw [← hb, ← hA]; exact CsAt.made w #[.int .i64 p.pad, .int .i64 p.num, .int .i64 p.la, .int .i64 p.tm.dt, .bool p.tm.tb, .bool p.tm.fr, .int .i64 p.tm.ad, .string p.txt] _ (by simp))
  have HK := Lib.hid (show Keeps w0 wA by rw [← hA]; exact hk.alloc _)
  obtain ⟨m, hm⟩ : ∃ m : Int, 13 + (p.txt.size : Int) = m := ⟨_, rfl⟩
  obtain ⟨a1, q1⟩ : ∃ x, m / 256 = x := ⟨_, rfl⟩
  obtain ⟨a2, q2⟩ : ∃ x, 240 + a1 = x := ⟨_, rfl⟩
  obtain ⟨a3, q3⟩ : ∃ x, m % 256 = x := ⟨_, rfl⟩
  obtain ⟨d1, q6⟩ : ∃ x, p.tm.dt / 16 = x := ⟨_, rfl⟩
  obtain ⟨d2, q7⟩ : ∃ x, p.tm.dt % 16 = x := ⟨_, rfl⟩
  obtain ⟨d3, q8⟩ : ∃ x, 16 * d2 = x := ⟨_, rfl⟩
  obtain ⟨e0, q9⟩ : ∃ x, p.tm.ad / 65536 = x := ⟨_, rfl⟩
  obtain ⟨e1, q10⟩ : ∃ x, p.tm.ad / 256 = x := ⟨_, rfl⟩
  obtain ⟨e2, q11⟩ : ∃ x, e1 % 256 = x := ⟨_, rfl⟩
  obtain ⟨e3, q12⟩ : ∃ x, p.tm.ad % 256 = x := ⟨_, rfl⟩
  obtain ⟨T0, q13⟩ : ∃ x, d3 + e0 = x := ⟨_, rfl⟩
  obtain ⟨U, hU⟩ : ∃ U, (p.tm.tb = true ∧ T0 + 8 = U) ∨ (p.tm.tb = false ∧ U = T0) := by
    cases p.tm.tb
    · exact ⟨T0, .inr ⟨rfl, rfl⟩⟩
    · exact ⟨T0 + 8, .inl ⟨rfl, rfl⟩⟩
  obtain ⟨T, hT⟩ : ∃ T, (p.tm.fr = true ∧ U + 4 = T) ∨ (p.tm.fr = false ∧ T = U) := by
    cases p.tm.fr
    · exact ⟨U, .inr ⟨rfl, rfl⟩⟩
    · exact ⟨U + 4, .inl ⟨rfl, rfl⟩⟩
  have eT : T = 16 * (p.tm.dt % 16) + p.tm.ad / 65536 + 8 * (bv p.tm.tb : Int) + 4 * (bv p.tm.fr : Int) := by
    have z1 : (bv true : Int) = 1 := rfl
    have z0 : (bv false : Int) = 0 := rfl
    rcases hU with ⟨hu, hU⟩ | ⟨hu, hU⟩ <;> rcases hT with ⟨ht, hT⟩ | ⟨ht, hT⟩ <;> rw [hu, ht] <;> simp only [z1, z0] <;> omega
  have HTW := Lib.hid (twelve_f hc (a2 := a2) (a3 := a3) (c1 := p.pad) (c2 := p.num) (c3 := p.la) (d1 := d1) (T := T) (e2 := e2) (e3 := e3) (by omega) (by omega) rfl rfl rfl (by omega) eT (by omega) (by omega))
  obtain ⟨L, hL⟩ : ∃ L, hd8 (sF p) ++ by4 (nbr p.tm) = L := ⟨_, rfl⟩
  have hLl : L.length = 12 := by rw [← hL, List.length_append, hd8_length, by4_length]
  have HM := Lib.hid (show st (sld (ls (st L ++ p.txt))) = st (fby p) by
    congr 1
    unfold fby Sct.bytes open8
    rw [ls_append, ls_st, ← hL, List.append_assoc]
    congr 2)
  rw [hL] at HTW
  have HIN := Lib.hid (fun W : World => show Ints W.heap.size L (W.alloc (.cells #[.int .i64 120, .int .i64 a2, .int .i64 a3, .int .i64 p.pad, .int .i64 255, .int .i64 255, .int .i64 p.num, .int .i64 p.la, .int .i64 d1, .int .i64 T, .int .i64 e2, .int .i64 e3] 3)) by rw [← HTW.out]; exact Ints.lit W L _)
  have HTX := Lib.hid (fun (W : World) (h : Ints wA.heap.size L W) => rfetext_any W wA.heap.size 12 12 L W hLl.symm (by omega) h (Keeps.refl W))
  obtain ⟨S, hS⟩ : ∃ S, st L = S := ⟨_, rfl⟩
  have hSz : S.size = 12 := by rw [← hS, st_size, hLl]
  rw [hS] at HM HTX
  obtain ⟨V, hV⟩ : ∃ V, S ++ p.txt = V := ⟨_, rfl⟩
  rw [hV] at HM
  have HSE := Lib.hid (fun W => rseal_any W V W (by rw [← hV, ByteArray.size_append]; omega) (Keeps.refl W))
  rw [HM.out] at HSE
  obtain ⟨Y, hY⟩ : ∃ Y, st (fby p) = Y := ⟨_, rfl⟩
  rw [hY] at HSE
  have HYY := Lib.hid hY
  have r1 : 0 ≤ T0 ∧ T0 ≤ 243 := by omega
  have r2 : 0 ≤ U ∧ U ≤ 251 := by omega
  have r3 : 0 ≤ T ∧ T ≤ 255 := by omega
  have r4 : 0 ≤ m ∧ m ≤ 4093 := by omega
  have r5 : 0 ≤ a1 ∧ a1 ≤ 15 := by omega
  have r6 : 0 ≤ d2 ∧ d2 ≤ 15 := by omega
  have r7 : 0 ≤ d3 ∧ d3 ≤ 240 := by omega
  have r8 : 0 ≤ e0 ∧ e0 ≤ 3 := by omega
  have r9 : 0 ≤ e1 ∧ e1 ≤ 1023 := by omega
  have wr1 := wrapI (a := m) (by omega) (by omega)
  have wr2 := wrapI (a := a1) (by omega) (by omega)
  have wr3 := wrapI (a := a2) (by omega) (by omega)
  have wr5 := wrapI (a := d1) (by omega) (by omega)
  have wr6 := wrapI (a := d3) (by omega) (by omega)
  have wr7 := wrapI (a := e0) (by omega) (by omega)
  have wr8 := wrapI (a := e1) (by omega) (by omega)
  have wr9 := wrapI (a := T0) (by omega) (by omega)
  have wrU := wrapI (a := U) (by omega) (by omega)
  have wrT := wrapI (a := T) (by omega) (by omega)
  have v1 : m.tdiv 256 = a1 := by rw [Int.tdiv_eq_ediv_of_nonneg r4.1, q1]
  have v2 : m.tmod 256 = a3 := by rw [Int.tmod_eq_emod_of_nonneg r4.1, q3]
  have v5 : p.tm.dt.tdiv 16 = d1 := by rw [Int.tdiv_eq_ediv_of_nonneg t1, q6]
  have v6 : p.tm.dt.tmod 16 = d2 := by rw [Int.tmod_eq_emod_of_nonneg t1, q7]
  have v7 : p.tm.ad.tdiv 65536 = e0 := by rw [Int.tdiv_eq_ediv_of_nonneg t3, q9]
  have v8 : p.tm.ad.tdiv 256 = e1 := by rw [Int.tdiv_eq_ediv_of_nonneg t3, q10]
  have v9 : e1.tmod 256 = e2 := by rw [Int.tmod_eq_emod_of_nonneg r9.1, q11]
  have v10 : p.tm.ad.tmod 256 = e3 := by rw [Int.tmod_eq_emod_of_nonneg t3, q12]
  have hsz := g2
  obtain ⟨pad, num, la, ⟨dt, tb, fr, ad⟩, txt⟩ := p
  simp only at hA hm q6 q7 q9 q10 q12 HIN v5 v6 v7 v8 v10 hU hT HA hV hsz
  clear eT HTW hL hLl hS hY g g2 hc p1 p2 l1 l2 n1 n2 t1 t2 t3 t4 hk
  have hsz2 : 13 + (txt.size : Int) = m := hm
  have hlim : ¬ 9223372036854775807 < 12 + txt.size := by omega
  rcases hU with ⟨rfl, hU⟩ | ⟨rfl, rfl⟩ <;> rcases hT with ⟨rfl, hT⟩ | ⟨rfl, rfl⟩
  · have x0 : wA.cell? ⟨b, 0, none⟩ = some (.int .i64 pad) := HA.out.cell 0 rfl
    have x1 : wA.cell? ⟨b, 1, none⟩ = some (.int .i64 num) := HA.out.cell 1 rfl
    have x2 : wA.cell? ⟨b, 2, none⟩ = some (.int .i64 la) := HA.out.cell 2 rfl
    have x3 : wA.cell? ⟨b, 3, none⟩ = some (.int .i64 dt) := HA.out.cell 3 rfl
    have x4 := HA.out.cell 4 rfl
    have x5 := HA.out.cell 5 rfl
    have x6 : wA.cell? ⟨b, 6, none⟩ = some (.int .i64 ad) := HA.out.cell 6 rfl
    have x7 : wA.cell? ⟨b, 7, none⟩ = some (.string txt) := HA.out.cell 7 rfl
    simp only at x4 x5
    go_enter Try.func13, Try.ntmps13
    go_wp2
    refine wp_draw (by kernel_rfl) [.int .i64 m, .int .i64 a1, .int .i64 a2, .int .i64 m, .int .i64 a3, .pointer (some ⟨b, 0, none⟩), .int .i64 pad, .pointer (some ⟨b, 1, none⟩), .int .i64 num, .pointer (some ⟨b, 2, none⟩), .int .i64 la, .pointer (some ⟨b, 3, none⟩), .pointer (some ⟨b, 3, none⟩), .int .i64 dt, .int .i64 d1, .int .i64 T, .pointer (some ⟨b, 3, none⟩), .pointer (some ⟨b, 6, none⟩), .int .i64 ad, .int .i64 e1, .int .i64 e2, .pointer (some ⟨b, 3, none⟩), .pointer (some ⟨b, 6, none⟩), .int .i64 ad, .int .i64 e3, .slice (some ⟨wA.heap.size, 0, none⟩) 12 12, .string S, .pointer (some ⟨b, 7, none⟩), .string txt, .string V, .string Y, .string Y]
      (Once 25 (Eqv wA) (fun W => Keeps wA W ∧ Ints wA.heap.size L W)) rfl (by kernel_rfl) (fin := ?fin0) ?hfin0 (Once.start (Eqv.drew wA)) ?each0 ?hend0
    case hfin0 => simp [seqA, dstOf, Act.put]; rfl
    case each0 =>
      refine ⟨?_, ?_, ?_, ?_, ?_, ?_, ?_, ?_, ?_, ?_, ?_, ?_, ?_, ?_, ?_, ?_, ?_, ?_, ?_, ?_, ?_, ?_, ?_, ?_, ?_, ?_, ?_, ?_, ?_, ?_, ?_, ?_, trivial⟩
      all_goals intro X w6 h0 hd hs hw
      all_goals unfold Does
      all_goals try simp only [Nat.zero_add, Nat.reduceAdd] at h0
      rotate_left 25
      · have hE := hw.1 h0
        have hz := hE.size
        go_simp
        refine fun L' k => Once.done k ⟨((Keeps.refl wA).eqv hE).alloc _, ?_⟩
        have := HIN.out w6
        rwa [hz] at this
      · have h25 := hd 25 (by kernel_rfl)
        have hB := hw.2 h25
        go_simp
        refine (HTX.out w6 hB.2).mono ?_
        rintro e w8 ⟨rfl, k8⟩
        exact ⟨_, rfl, rfl, fun L' k => ⟨fun h => (by rw [(k 25).2 (.inl h25)] at h; cases h), fun _ => ⟨hB.1.trans k8, hB.2.keeps k8⟩⟩⟩
      rotate_left 3
      · have h29 := hd 29 (by kernel_rfl)
        have h26 := hs 29 26 h29 (by kernel_rfl)
        have h25 := hs 26 25 h26 (by kernel_rfl)
        have hB := hw.2 h25
        go_simp
        refine (HSE.out w6).mono ?_
        rintro e w8 ⟨rfl, k8⟩
        exact ⟨_, rfl, rfl, fun L' k => ⟨fun h => (by rw [(k 25).2 (.inl h25)] at h; cases h), fun _ => ⟨hB.1.trans k8, hB.2.keeps k8⟩⟩⟩
      all_goals have hKK := once_keepsF hw
      all_goals have yy0 : w6.cell? ⟨b, 0, none⟩ = some (.int .i64 pad) := (HA.out.keeps hKK).cell 0 rfl
      all_goals have yy1 : w6.cell? ⟨b, 1, none⟩ = some (.int .i64 num) := (HA.out.keeps hKK).cell 1 rfl
      all_goals have yy2 : w6.cell? ⟨b, 2, none⟩ = some (.int .i64 la) := (HA.out.keeps hKK).cell 2 rfl
      all_goals have yy3 : w6.cell? ⟨b, 3, none⟩ = some (.int .i64 dt) := (HA.out.keeps hKK).cell 3 rfl
      all_goals have yy6 : w6.cell? ⟨b, 6, none⟩ = some (.int .i64 ad) := (HA.out.keeps hKK).cell 6 rfl
      all_goals have yy7 : w6.cell? ⟨b, 7, none⟩ = some (.string txt) := (HA.out.keeps hKK).cell 7 rfl
      all_goals go_simp
      all_goals exact fun L' k => hw.same (by decide) k
    case hend0 =>
    intro X w6 hL hw
    have HK6 := Lib.hid (HK.out.trans (hw.2 (hL 25 (by simp))).1)
    clear hw hL
    go_wp2
    go_ret
    exact ⟨congrArg (fun y => Ending.returned (Value.string y)) HYY.out.symm, HK6.out⟩
  · have x0 : wA.cell? ⟨b, 0, none⟩ = some (.int .i64 pad) := HA.out.cell 0 rfl
    have x1 : wA.cell? ⟨b, 1, none⟩ = some (.int .i64 num) := HA.out.cell 1 rfl
    have x2 : wA.cell? ⟨b, 2, none⟩ = some (.int .i64 la) := HA.out.cell 2 rfl
    have x3 : wA.cell? ⟨b, 3, none⟩ = some (.int .i64 dt) := HA.out.cell 3 rfl
    have x4 := HA.out.cell 4 rfl
    have x5 := HA.out.cell 5 rfl
    have x6 : wA.cell? ⟨b, 6, none⟩ = some (.int .i64 ad) := HA.out.cell 6 rfl
    have x7 : wA.cell? ⟨b, 7, none⟩ = some (.string txt) := HA.out.cell 7 rfl
    simp only at x4 x5
    go_enter Try.func13, Try.ntmps13
    go_wp2
    refine wp_draw (by kernel_rfl) [.int .i64 m, .int .i64 a1, .int .i64 a2, .int .i64 m, .int .i64 a3, .pointer (some ⟨b, 0, none⟩), .int .i64 pad, .pointer (some ⟨b, 1, none⟩), .int .i64 num, .pointer (some ⟨b, 2, none⟩), .int .i64 la, .pointer (some ⟨b, 3, none⟩), .pointer (some ⟨b, 3, none⟩), .int .i64 dt, .int .i64 d1, .int .i64 T, .pointer (some ⟨b, 3, none⟩), .pointer (some ⟨b, 6, none⟩), .int .i64 ad, .int .i64 e1, .int .i64 e2, .pointer (some ⟨b, 3, none⟩), .pointer (some ⟨b, 6, none⟩), .int .i64 ad, .int .i64 e3, .slice (some ⟨wA.heap.size, 0, none⟩) 12 12, .string S, .pointer (some ⟨b, 7, none⟩), .string txt, .string V, .string Y, .string Y]
      (Once 25 (Eqv wA) (fun W => Keeps wA W ∧ Ints wA.heap.size L W)) rfl (by kernel_rfl) (fin := ?fin1) ?hfin1 (Once.start (Eqv.drew wA)) ?each1 ?hend1
    case hfin1 => simp [seqA, dstOf, Act.put]; rfl
    case each1 =>
      refine ⟨?_, ?_, ?_, ?_, ?_, ?_, ?_, ?_, ?_, ?_, ?_, ?_, ?_, ?_, ?_, ?_, ?_, ?_, ?_, ?_, ?_, ?_, ?_, ?_, ?_, ?_, ?_, ?_, ?_, ?_, ?_, ?_, trivial⟩
      all_goals intro X w6 h0 hd hs hw
      all_goals unfold Does
      all_goals try simp only [Nat.zero_add, Nat.reduceAdd] at h0
      rotate_left 25
      · have hE := hw.1 h0
        have hz := hE.size
        go_simp
        refine fun L' k => Once.done k ⟨((Keeps.refl wA).eqv hE).alloc _, ?_⟩
        have := HIN.out w6
        rwa [hz] at this
      · have h25 := hd 25 (by kernel_rfl)
        have hB := hw.2 h25
        go_simp
        refine (HTX.out w6 hB.2).mono ?_
        rintro e w8 ⟨rfl, k8⟩
        exact ⟨_, rfl, rfl, fun L' k => ⟨fun h => (by rw [(k 25).2 (.inl h25)] at h; cases h), fun _ => ⟨hB.1.trans k8, hB.2.keeps k8⟩⟩⟩
      rotate_left 3
      · have h29 := hd 29 (by kernel_rfl)
        have h26 := hs 29 26 h29 (by kernel_rfl)
        have h25 := hs 26 25 h26 (by kernel_rfl)
        have hB := hw.2 h25
        go_simp
        refine (HSE.out w6).mono ?_
        rintro e w8 ⟨rfl, k8⟩
        exact ⟨_, rfl, rfl, fun L' k => ⟨fun h => (by rw [(k 25).2 (.inl h25)] at h; cases h), fun _ => ⟨hB.1.trans k8, hB.2.keeps k8⟩⟩⟩
      all_goals have hKK := once_keepsF hw
      all_goals have yy0 : w6.cell? ⟨b, 0, none⟩ = some (.int .i64 pad) := (HA.out.keeps hKK).cell 0 rfl
      all_goals have yy1 : w6.cell? ⟨b, 1, none⟩ = some (.int .i64 num) := (HA.out.keeps hKK).cell 1 rfl
      all_goals have yy2 : w6.cell? ⟨b, 2, none⟩ = some (.int .i64 la) := (HA.out.keeps hKK).cell 2 rfl
      all_goals have yy3 : w6.cell? ⟨b, 3, none⟩ = some (.int .i64 dt) := (HA.out.keeps hKK).cell 3 rfl
      all_goals have yy6 : w6.cell? ⟨b, 6, none⟩ = some (.int .i64 ad) := (HA.out.keeps hKK).cell 6 rfl
      all_goals have yy7 : w6.cell? ⟨b, 7, none⟩ = some (.string txt) := (HA.out.keeps hKK).cell 7 rfl
      all_goals go_simp
      all_goals exact fun L' k => hw.same (by decide) k
    case hend1 =>
    intro X w6 hL hw
    have HK6 := Lib.hid (HK.out.trans (hw.2 (hL 25 (by simp))).1)
    clear hw hL
    go_wp2
    go_ret
    exact ⟨congrArg (fun y => Ending.returned (Value.string y)) HYY.out.symm, HK6.out⟩
  · have x0 : wA.cell? ⟨b, 0, none⟩ = some (.int .i64 pad) := HA.out.cell 0 rfl
    have x1 : wA.cell? ⟨b, 1, none⟩ = some (.int .i64 num) := HA.out.cell 1 rfl
    have x2 : wA.cell? ⟨b, 2, none⟩ = some (.int .i64 la) := HA.out.cell 2 rfl
    have x3 : wA.cell? ⟨b, 3, none⟩ = some (.int .i64 dt) := HA.out.cell 3 rfl
    have x4 := HA.out.cell 4 rfl
    have x5 := HA.out.cell 5 rfl
    have x6 : wA.cell? ⟨b, 6, none⟩ = some (.int .i64 ad) := HA.out.cell 6 rfl
    have x7 : wA.cell? ⟨b, 7, none⟩ = some (.string txt) := HA.out.cell 7 rfl
    simp only at x4 x5
    go_enter Try.func13, Try.ntmps13
    go_wp2
    refine wp_draw (by kernel_rfl) [.int .i64 m, .int .i64 a1, .int .i64 a2, .int .i64 m, .int .i64 a3, .pointer (some ⟨b, 0, none⟩), .int .i64 pad, .pointer (some ⟨b, 1, none⟩), .int .i64 num, .pointer (some ⟨b, 2, none⟩), .int .i64 la, .pointer (some ⟨b, 3, none⟩), .pointer (some ⟨b, 3, none⟩), .int .i64 dt, .int .i64 d1, .int .i64 T, .pointer (some ⟨b, 3, none⟩), .pointer (some ⟨b, 6, none⟩), .int .i64 ad, .int .i64 e1, .int .i64 e2, .pointer (some ⟨b, 3, none⟩), .pointer (some ⟨b, 6, none⟩), .int .i64 ad, .int .i64 e3, .slice (some ⟨wA.heap.size, 0, none⟩) 12 12, .string S, .pointer (some ⟨b, 7, none⟩), .string txt, .string V, .string Y, .string Y]
      (Once 25 (Eqv wA) (fun W => Keeps wA W ∧ Ints wA.heap.size L W)) rfl (by kernel_rfl) (fin := ?fin2) ?hfin2 (Once.start (Eqv.drew wA)) ?each2 ?hend2
    case hfin2 => simp [seqA, dstOf, Act.put]; rfl
    case each2 =>
      refine ⟨?_, ?_, ?_, ?_, ?_, ?_, ?_, ?_, ?_, ?_, ?_, ?_, ?_, ?_, ?_, ?_, ?_, ?_, ?_, ?_, ?_, ?_, ?_, ?_, ?_, ?_, ?_, ?_, ?_, ?_, ?_, ?_, trivial⟩
      all_goals intro X w6 h0 hd hs hw
      all_goals unfold Does
      all_goals try simp only [Nat.zero_add, Nat.reduceAdd] at h0
      rotate_left 25
      · have hE := hw.1 h0
        have hz := hE.size
        go_simp
        refine fun L' k => Once.done k ⟨((Keeps.refl wA).eqv hE).alloc _, ?_⟩
        have := HIN.out w6
        rwa [hz] at this
      · have h25 := hd 25 (by kernel_rfl)
        have hB := hw.2 h25
        go_simp
        refine (HTX.out w6 hB.2).mono ?_
        rintro e w8 ⟨rfl, k8⟩
        exact ⟨_, rfl, rfl, fun L' k => ⟨fun h => (by rw [(k 25).2 (.inl h25)] at h; cases h), fun _ => ⟨hB.1.trans k8, hB.2.keeps k8⟩⟩⟩
      rotate_left 3
      · have h29 := hd 29 (by kernel_rfl)
        have h26 := hs 29 26 h29 (by kernel_rfl)
        have h25 := hs 26 25 h26 (by kernel_rfl)
        have hB := hw.2 h25
        go_simp
        refine (HSE.out w6).mono ?_
        rintro e w8 ⟨rfl, k8⟩
        exact ⟨_, rfl, rfl, fun L' k => ⟨fun h => (by rw [(k 25).2 (.inl h25)] at h; cases h), fun _ => ⟨hB.1.trans k8, hB.2.keeps k8⟩⟩⟩
      all_goals have hKK := once_keepsF hw
      all_goals have yy0 : w6.cell? ⟨b, 0, none⟩ = some (.int .i64 pad) := (HA.out.keeps hKK).cell 0 rfl
      all_goals have yy1 : w6.cell? ⟨b, 1, none⟩ = some (.int .i64 num) := (HA.out.keeps hKK).cell 1 rfl
      all_goals have yy2 : w6.cell? ⟨b, 2, none⟩ = some (.int .i64 la) := (HA.out.keeps hKK).cell 2 rfl
      all_goals have yy3 : w6.cell? ⟨b, 3, none⟩ = some (.int .i64 dt) := (HA.out.keeps hKK).cell 3 rfl
      all_goals have yy6 : w6.cell? ⟨b, 6, none⟩ = some (.int .i64 ad) := (HA.out.keeps hKK).cell 6 rfl
      all_goals have yy7 : w6.cell? ⟨b, 7, none⟩ = some (.string txt) := (HA.out.keeps hKK).cell 7 rfl
      all_goals go_simp
      all_goals exact fun L' k => hw.same (by decide) k
    case hend2 =>
    intro X w6 hL hw
    have HK6 := Lib.hid (HK.out.trans (hw.2 (hL 25 (by simp))).1)
    clear hw hL
    go_wp2
    go_ret
    exact ⟨congrArg (fun y => Ending.returned (Value.string y)) HYY.out.symm, HK6.out⟩
  · have x0 : wA.cell? ⟨b, 0, none⟩ = some (.int .i64 pad) := HA.out.cell 0 rfl
    have x1 : wA.cell? ⟨b, 1, none⟩ = some (.int .i64 num) := HA.out.cell 1 rfl
    have x2 : wA.cell? ⟨b, 2, none⟩ = some (.int .i64 la) := HA.out.cell 2 rfl
    have x3 : wA.cell? ⟨b, 3, none⟩ = some (.int .i64 dt) := HA.out.cell 3 rfl
    have x4 := HA.out.cell 4 rfl
    have x5 := HA.out.cell 5 rfl
    have x6 : wA.cell? ⟨b, 6, none⟩ = some (.int .i64 ad) := HA.out.cell 6 rfl
    have x7 : wA.cell? ⟨b, 7, none⟩ = some (.string txt) := HA.out.cell 7 rfl
    simp only at x4 x5
    go_enter Try.func13, Try.ntmps13
    go_wp2
    refine wp_draw (by kernel_rfl) [.int .i64 m, .int .i64 a1, .int .i64 a2, .int .i64 m, .int .i64 a3, .pointer (some ⟨b, 0, none⟩), .int .i64 pad, .pointer (some ⟨b, 1, none⟩), .int .i64 num, .pointer (some ⟨b, 2, none⟩), .int .i64 la, .pointer (some ⟨b, 3, none⟩), .pointer (some ⟨b, 3, none⟩), .int .i64 dt, .int .i64 d1, .int .i64 T, .pointer (some ⟨b, 3, none⟩), .pointer (some ⟨b, 6, none⟩), .int .i64 ad, .int .i64 e1, .int .i64 e2, .pointer (some ⟨b, 3, none⟩), .pointer (some ⟨b, 6, none⟩), .int .i64 ad, .int .i64 e3, .slice (some ⟨wA.heap.size, 0, none⟩) 12 12, .string S, .pointer (some ⟨b, 7, none⟩), .string txt, .string V, .string Y, .string Y]
      (Once 25 (Eqv wA) (fun W => Keeps wA W ∧ Ints wA.heap.size L W)) rfl (by kernel_rfl) (fin := ?fin3) ?hfin3 (Once.start (Eqv.drew wA)) ?each3 ?hend3
    case hfin3 => simp [seqA, dstOf, Act.put]; rfl
    case each3 =>
      refine ⟨?_, ?_, ?_, ?_, ?_, ?_, ?_, ?_, ?_, ?_, ?_, ?_, ?_, ?_, ?_, ?_, ?_, ?_, ?_, ?_, ?_, ?_, ?_, ?_, ?_, ?_, ?_, ?_, ?_, ?_, ?_, ?_, trivial⟩
      all_goals intro X w6 h0 hd hs hw
      all_goals unfold Does
      all_goals try simp only [Nat.zero_add, Nat.reduceAdd] at h0
      rotate_left 25
      · have hE := hw.1 h0
        have hz := hE.size
        go_simp
        refine fun L' k => Once.done k ⟨((Keeps.refl wA).eqv hE).alloc _, ?_⟩
        have := HIN.out w6
        rwa [hz] at this
      · have h25 := hd 25 (by kernel_rfl)
        have hB := hw.2 h25
        go_simp
        refine (HTX.out w6 hB.2).mono ?_
        rintro e w8 ⟨rfl, k8⟩
        exact ⟨_, rfl, rfl, fun L' k => ⟨fun h => (by rw [(k 25).2 (.inl h25)] at h; cases h), fun _ => ⟨hB.1.trans k8, hB.2.keeps k8⟩⟩⟩
      rotate_left 3
      · have h29 := hd 29 (by kernel_rfl)
        have h26 := hs 29 26 h29 (by kernel_rfl)
        have h25 := hs 26 25 h26 (by kernel_rfl)
        have hB := hw.2 h25
        go_simp
        refine (HSE.out w6).mono ?_
        rintro e w8 ⟨rfl, k8⟩
        exact ⟨_, rfl, rfl, fun L' k => ⟨fun h => (by rw [(k 25).2 (.inl h25)] at h; cases h), fun _ => ⟨hB.1.trans k8, hB.2.keeps k8⟩⟩⟩
      all_goals have hKK := once_keepsF hw
      all_goals have yy0 : w6.cell? ⟨b, 0, none⟩ = some (.int .i64 pad) := (HA.out.keeps hKK).cell 0 rfl
      all_goals have yy1 : w6.cell? ⟨b, 1, none⟩ = some (.int .i64 num) := (HA.out.keeps hKK).cell 1 rfl
      all_goals have yy2 : w6.cell? ⟨b, 2, none⟩ = some (.int .i64 la) := (HA.out.keeps hKK).cell 2 rfl
      all_goals have yy3 : w6.cell? ⟨b, 3, none⟩ = some (.int .i64 dt) := (HA.out.keeps hKK).cell 3 rfl
      all_goals have yy6 : w6.cell? ⟨b, 6, none⟩ = some (.int .i64 ad) := (HA.out.keeps hKK).cell 6 rfl
      all_goals have yy7 : w6.cell? ⟨b, 7, none⟩ = some (.string txt) := (HA.out.keeps hKK).cell 7 rfl
      all_goals go_simp
      all_goals exact fun L' k => hw.same (by decide) k
    case hend3 =>
    intro X w6 hL hw
    have HK6 := Lib.hid (HK.out.trans (hw.2 (hL 25 (by simp))).1)
    clear hw hL
    go_wp2
    go_ret
    exact ⟨congrArg (fun y => Ending.returned (Value.string y)) HYY.out.symm, HK6.out⟩
end Go.Proofs.Ytdpgphidielajaa
