/-
  What writeLoop and Body of package descr answer. The memory that was there stays.
-/
import Derived.Test.YtlghkdkaifcliaaDoorDsO
namespace Go.Proofs.YtlghkdkaifcliaaDoor
open Go.RowKit Gf Ds
set_option maxRecDepth 100000
set_option linter.unusedVariables false
set_option linter.unusedSimpArgs false
theorem Oth.keeps {b : Nat} {w w' : World} (k : Keeps w w') : Oth b w w' := fun c o hc _ _ => (Below.block k c (Array.getElem?_eq_some_iff.1 hc).1).trans hc
theorem Oth.refl (b : Nat) (w : World) : Oth b w w := fun _ _ h _ _ => h
set_option maxHeartbeats 3200000 in
theorem ewl_any {a : Option Addr} {n cap : Nat} {l : List Dsc} (base b : Nat) (L : List UInt8) (w : World) (hI : IsBk base b L w) (hl : L.length ≤ 100000000) (hb : base ≤ w.heap.size) (h : IsE rowD w a n l) (hn : n ≤ 1000000) (hT : TL w) :
    Calls Tryd.prog 55 #[.pointer (some ⟨b, 0, none⟩), .slice a n cap] w fun e w' => e = .returned (.int .i64 (loop l).2) ∧ ((loop l).2 = 0 → IsBk base b (L ++ lnB l) w') ∧ Below base w w' ∧ Oth b w w' := by
  have HL := Lib.hid (eloop_any (cap := cap) w h hn)
  by_cases hE : (loop l).2 = 0
  · have hok := loop_good hE
    have hlen := hok.2
    rw [loop_ok hok] at HL
    unfold DlPost at HL
    have HE := Lib.hid hE
    obtain ⟨S, hS⟩ : ∃ S, st (lpB l) = S := ⟨_, rfl⟩
    have hSz : S.size = (lpB l).length := by rw [← hS, st_size]
    have hSl : ls S = lpB l := by rw [← hS, ls_st]
    simp only [hS] at HL
    have hz : S.size ≤ 4095 := by omega
    obtain ⟨N, hN⟩ : ∃ N, S.size = N := ⟨_, rfl⟩
    have hNi : (S.size : Int) = (N : Int) := by omega
    have HTX := Lib.hid (fun W => dwtext_any (ws := wsL) (ns := [15, N, 0, 0, 0, 0, 0, 0, 0]) rfl rfl gn_L (fun k hk => by
      have hk' : k = 0 ∨ k = 1 ∨ k = 2 ∨ k = 3 ∨ k = 4 ∨ k = 5 ∨ k = 6 ∨ k = 7 ∨ k = 8 := by omega
      rcases hk' with rfl | rfl | rfl | rfl | rfl | rfl | rfl | rfl | rfl
      · show (15 : Nat) < 16; decide
      · show N < 4096; omega
      all_goals (show (0 : Nat) < 1; decide)) rfl (by decide) W)
    rw [txL N (by omega)] at HTX
    have HLB := Lib.hid (show L ++ lnB l = (L ++ [Ds.u8 (240 + N / 256), Ds.u8 N]) ++ ls S by
      unfold lnB
      rw [← hSz, hN, hSl, List.append_assoc])
    obtain ⟨T, hTT⟩ : ∃ T, [Ds.u8 (240 + N / 256), Ds.u8 N] = T := ⟨_, rfl⟩
    have hTl : T.length = 2 := by rw [← hTT]; rfl
    rw [hTT] at HTX HLB
    obtain ⟨TS, hTS⟩ : ∃ TS, st T = TS := ⟨_, rfl⟩
    have hTSl : ls TS = T := by rw [← hTS, ls_st]
    have hTSz : TS.size = 2 := by rw [← hTS, st_size, hTl]
    rw [hTS] at HTX
    have HW1 := Lib.hid (fun W hI hq => wstrk_any base b L TS W hI (by omega) hq)
    rw [hTSl] at HW1
    have HW2 := Lib.hid (fun W hI hq => wstrk_any base b (L ++ T) S W hI (by rw [List.length_append, hTl]; omega) hq)
    have HB0 := Lib.hid hI
    have HT0 := Lib.hid hT
    have HQ0 := Lib.hid hb
    clear hE hok hlen hS hSz hSl hz hN hTT hTl hTS hTSl hTSz h hI hT hb hl
    go_enter Tryd.func55, Tryd.ntmps55
    go_wp2_with (first | (go_at_call 12; refine HL.out.mono ?_; rintro _ w1 ⟨rfl, k1⟩; have HB1 := Lib.hid (HB0.out.keeps k1); have HT1 := Lib.hid (HT0.out.keeps k1); have HK1 := Lib.hid k1; clear k1) | (refine dwp_ldG (g := 5) (l := wsL) HT1.out rfl _ rfl rfl ?_) | (go_at_call 48; refine (HTX.out _).mono ?_; rintro _ w2 ⟨rfl, k2⟩; have HB2 := Lib.hid (HB1.out.keeps k2); have HK2 := Lib.hid (HK1.out.trans k2); have HQ2 := Lib.hid (Nat.le_trans HQ0.out (Below.size HK2.out)); clear k2) | (go_at_call 40; (with_reducible refine (HW1.out w2 HB2.out HQ2.out).mono ?_); rintro _ w3 ⟨rfl, hI3, k3, o3⟩; have HB3 := Lib.hid hI3; have HK3 := Lib.hid (Below.trans (HK2.out.mono HQ0.out) k3); have HO3 := Lib.hid ((Oth.keeps HK2.out).trans o3); have HQ3 := Lib.hid (Nat.le_trans HQ2.out (Below.size k3)); clear hI3 k3 o3) | (go_at_call 40; (with_reducible refine (HW2.out w3 HB3.out HQ3.out).mono ?_); rintro _ w4 ⟨rfl, hI4, k4, o4⟩; have HB4 := Lib.hid hI4; have HK4 := Lib.hid (Below.trans HK3.out k4); have HO4 := Lib.hid (HO3.out.trans o4); clear hI4 k4 o4))
    go_ret
    exact ⟨by rw [HE.out]; rfl, fun _ => by rw [HLB.out]; exact HB4.out, HK4.out, HO4.out⟩
  · have hbd := loop_bad hE
    obtain ⟨Q, hQ⟩ : ∃ Q, loop l = Q := ⟨_, rfl⟩
    rw [hQ] at HL hE hbd ⊢
    unfold DlPost at HL
    obtain ⟨B, E⟩ := Q
    simp only at hE hbd HL
    have hne : (E != 0) = true := bne_iff_ne.2 hE
    have HNE := Lib.hid hE
    have HQ0 := Lib.hid hb
    obtain ⟨S, hS⟩ : ∃ S, st B = S := ⟨_, rfl⟩
    rw [hS] at HL
    clear hQ hbd hE hb h hI hT hl hS
    go_enter Tryd.func55, Tryd.ntmps55
    go_wp2_with (go_at_call 12; refine HL.out.mono ?_; rintro _ w1 ⟨rfl, k1⟩; have HK1 := Lib.hid k1; clear k1)
    go_ret
    exact ⟨rfl, fun q => absurd q HNE.out, HK1.out.mono HQ0.out, Oth.keeps HK1.out⟩
def WlP (base b : Nat) (L : List UInt8) (l : List Dsc) (w : World) (e : Ending) (w' : World) : Prop := e = .returned (.int .i64 (loop l).2) ∧ ((loop l).2 = 0 → IsBk base b (L ++ lnB l) w') ∧ Below base w w' ∧ Oth b w w'
set_option maxHeartbeats 12800000 in
theorem ebody_any (x : IntD) (a : Option Addr) (n c : Nat) (ae : Option Addr) (ne ce : Nat) (es : List EnR) (w : World) (hx : IntAt w x a n ae ne es) (hn : n ≤ 1000000) (hne : ne ≤ 5000) (hes : ∀ e ∈ es, e.tn ≤ 1000000 ∧ e.on ≤ 1000000) (hI : TI w) (hH : TH w) (hL : TL w) :
    Calls Tryd.prog 33 #[inV x a n c ae ne ce] w (DlPost w (bodyI x)) := by
  obtain ⟨X, hX⟩ : ∃ X, w.heap.size = X := ⟨_, rfl⟩
  obtain ⟨wA, hA⟩ : ∃ W, w.alloc (.cells #[.int .i64 x.act, .int .i64 x.plat, .int .i64 x.ord, .slice a n c, .slice ae ne ce] 78) = W := ⟨_, rfl⟩
  have HKA := Lib.hid (show Keeps w wA by rw [← hA]; exact (Keeps.refl w).alloc _)
  have HX := Lib.hid (show CsAt X (inC x a n c ae ne ce) wA by rw [← hX, ← hA]; exact CsAt.made w #[.int .i64 x.act, .int .i64 x.plat, .int .i64 x.ord, .slice a n c, .slice ae ne ce] _ (by simp))
  have HF := Lib.hid (efits_any x a n c ae ne ce wA (hI.keeps HKA.out))
  have q0 := HX.out.cell 0 rfl
  have q1 := HX.out.cell 1 rfl
  have q2 := HX.out.cell 2 rfl
  have q3 := HX.out.cell 3 rfl
  have q4 := HX.out.cell 4 rfl
  by_cases hnum : numI x
  · rw [decide_eq_true hnum] at HF
    have HM := Lib.hid (fun W (k : Keeps wA W) => hx.keeps (HKA.out.trans k))
    have HTH := Lib.hid (fun W (k : Keeps wA W) => hH.keeps (HKA.out.trans k))
    have HTL := Lib.hid (fun W (k : Keeps wA W) => hL.keeps (HKA.out.trans k))
    have HES := Lib.hid hes
    have HNM := Lib.hid hnum
    have HNE := Lib.hid (show ne = x.ents.length by rw [← hx.ent.len]; exact hx.ent.row.1)
    have HN0 := Lib.hid hn
    have hil : il [x.plat.toNat, x.ord.toNat, 0, 0, 0, 0, 0, 0, 0] = [x.plat, x.ord, 0, 0, 0, 0, 0, 0, 0] := by
      show [((x.plat.toNat : Nat) : Int), ((x.ord.toNat : Nat) : Int), 0, 0, 0, 0, 0, 0, 0] = _
      rw [Int.toNat_of_nonneg hnum.1.1, Int.toNat_of_nonneg hnum.2.1.1]
    have HTX := Lib.hid (fun W => dwtext_any (ws := wsH) (ns := [x.plat.toNat, x.ord.toNat, 0, 0, 0, 0, 0, 0, 0]) rfl rfl gn_H (fun k hk => by
      obtain ⟨⟨_, p⟩, ⟨_, o⟩, _⟩ := hnum
      have hk' : k = 0 ∨ k = 1 ∨ k = 2 ∨ k = 3 ∨ k = 4 ∨ k = 5 ∨ k = 6 ∨ k = 7 ∨ k = 8 := by omega
      rcases hk' with rfl | rfl | rfl | rfl | rfl | rfl | rfl | rfl | rfl
      · show x.plat.toNat < 16777216; omega
      · show x.ord.toNat < 256; omega
      all_goals (show (0 : Nat) < 1; decide)) rfl (by decide) W)
    rw [hil, txH _ _ (by obtain ⟨⟨_, p⟩, ⟨_, o⟩, _⟩ := hnum; omega), show [Ds.u8 (x.plat.toNat / 65536), Ds.u8 (x.plat.toNat / 256), Ds.u8 x.plat.toNat, Ds.u8 x.ord.toNat] = hdI x from rfl] at HTX
    obtain ⟨HD, hHD⟩ : ∃ HD, hdI x = HD := ⟨_, rfl⟩
    have hHDl : HD.length = 4 := by rw [← hHD]; rfl
    rw [hHD] at HTX
    obtain ⟨TS, hTS⟩ : ∃ TS, st HD = TS := ⟨_, rfl⟩
    have hTSl : ls TS = HD := by rw [← hTS, ls_st]
    have hTSz : TS.size = 4 := by rw [← hTS, st_size, hHDl]
    rw [hTS] at HTX
    have HHD := Lib.hid hHD
    obtain ⟨act, plat, ord, info, ents⟩ := x
    simp only at *
    obtain ⟨w1', hw1'⟩ : ∃ W : World, W = wA := ⟨_, rfl⟩
    have HWL := Lib.hid (fun (base b : Nat) (L : List UInt8) (W : World) (k : Keeps wA W) (hI : IsBk base b L W) (hl : L.length ≤ 100000000) (hb : base ≤ W.heap.size) => show Calls Tryd.prog 55 #[.pointer (some ⟨b, 0, none⟩), .slice a n c] W (WlP base b L info W) from ewl_any base b L W hI hl hb (HM.out W k).inf HN0.out (HTL.out W k))
    have HLB := Lib.hid hHDl
    clear hx hes hI hH hL hnum hil hHD hTS hn hw1' w1'
    by_cases hE : (loop info).2 = 0
    · have hokI := loop_good hE
      have HOKI := Lib.hid hokI
      go_enter Tryd.func33, Tryd.ntmps33
      go_wp2_with (first | (go_at_call 54; refine HF.out.mono ?_; rintro _ w1 ⟨rfl, k1⟩; have HK1 := Lib.hid k1; obtain ⟨q, hq⟩ : ∃ q, w1.heap.size = q := ⟨_, rfl⟩; obtain ⟨wX, hXX⟩ : ∃ W, w1.alloc (.cells #[.pointer none, .slice none 0 0] 98) = W := ⟨_, rfl⟩; have HB0 := Lib.hid (show IsBk q q [] wX from (by rw [← hq, ← hXX]; exact IsBk.new w1)); have hkx := (show Keeps w1 wX from (by rw [← hXX]; exact (Keeps.refl w1).alloc _)); have HKX := Lib.hid (HK1.out.trans hkx); have HQ := Lib.hid hq; have HXX := Lib.hid (HX.out.keeps HKX.out); have q1 := HXX.out.cell 1 rfl; have q2 := HXX.out.cell 2 rfl; have HK1X := Lib.hid hkx; clear k1 hkx q0 q3 q4) | (refine dwp_ldG (g := 3) (l := wsH) (HTH.out _ HKX.out) rfl _ rfl rfl ?_) | (go_at_call 48; refine (HTX.out _).mono ?_; rintro _ w2 ⟨rfl, k2⟩; have HK2 := Lib.hid (HKX.out.trans k2); have HB2 := Lib.hid (HB0.out.keeps k2); have HK12 := Lib.hid (HK1X.out.trans k2); clear k2) | (go_at_call 40; refine (wstrk_any q q [] TS w2 HB2.out (by rw [hTSz]; decide) (by rw [← HQ.out]; exact Below.size HK12.out)).mono ?_; rintro _ w3 ⟨rfl, hI3, k3, o3⟩; have HB3 := Lib.hid (show IsBk q q HD w3 from (by rw [← hTSl]; exact hI3)); have HK13 := Lib.hid (HK12.out.on HQ.out k3); have HK3 := Lib.hid (HK1.out.trans HK13.out); have HX3 := Lib.hid (HX.out.keeps HK3.out); have q3 := HX3.out.cell 3 rfl; clear hI3 k3 o3 q1 q2) | (go_at_call 55; refine (HWL.out q q HD w3 HK3.out HB3.out (by rw [HLB.out]; decide) (by rw [← HQ.out]; exact Below.size HK13.out)).mono ?_; rintro _ w4 ⟨rfl, hI4, k4, o4⟩; have HB4 := Lib.hid (hI4 hE); have HK14 := Lib.hid (HK13.out.on HQ.out k4); have HK4 := Lib.hid (HK1.out.trans HK14.out); have HX4 := Lib.hid (HX.out.keeps HK4.out); have q4 := HX4.out.cell 4 rfl; rw [hE]; clear hI4 k4 o4 q3))
      go_loopw [30] (fun i wr => ∃ k : Nat, k ≤ ne ∧ i = .int .i64 (k : Int) ∧ (∀ m ∈ info :: lps (ents.take k), okL m) ∧ IsBk q q (HD ++ bdB (info :: lps (ents.take k))) wr ∧ Keeps w1 wr) (fun i _ => ne - (intOf i).toNat)
      case atStart => exact ⟨0, Nat.zero_le _, rfl, (fun m hm => by rw [List.mem_singleton.1 hm]; exact HOKI.out), (by show IsBk q q (HD ++ (lnB info ++ [])) _; rw [List.append_nil]; exact HB4.out), HK14.out⟩
      case round =>
        obtain ⟨k, hk, rfl, hall, hB, hkw⟩ := hrel
        have HALL := Lib.hid hall
        have HB := Lib.hid hB
        have HKW := Lib.hid hkw
        have HKR := Lib.hid (HK1.out.trans hkw)
        have hqr : q ≤ wr.heap.size := by rw [← HQ.out]; exact Below.size hkw
        have hL0 : (HD ++ bdB (info :: lps (ents.take k))).length ≤ 50000000 := by
          have hb := bdB_bound hall
          have hl : (info :: lps (ents.take k)).length ≤ 10001 := by rw [List.length_cons, lps_length, List.length_take]; omega
          rw [List.length_append, HLB.out]
          omega
        clear hall hB hkw
        by_cases hlt : k < ne
        · have hlI : (k : Int) < (ne : Int) := by omega
          have hkl : k < ents.length := by have := HNE.out; omega
          have hm := HM.out wr HKR.out
          have hke : k < es.length := by have : ne = es.length := hm.ent.row.1; omega
          obtain ⟨g, off, rfl, hg, hcc⟩ := hm.ent.row.get hke
          have hes := HES.out es[k] (List.getElem_mem hke)
          have HON := Lib.hid (fun (W : World) (q : Keeps wA W) => (HM.out W q).ent.one k hke hkl)
          have HSP := Lib.hid (lps_split ents hkl)
          have HTK := Lib.hid (lps_take_succ ents hkl)
          obtain ⟨⟨p1, p2⟩, hpp⟩ : ∃ p, ents[k] = p := ⟨_, rfl⟩
          obtain ⟨⟨ta, tn, tc, oa, on', oc⟩, hp⟩ : ∃ e, es[k] = e := ⟨_, rfl⟩
          rw [hp] at hcc hes
          simp only [hp, hpp] at HON
          rw [hpp] at HSP HTK
          simp only at HSP HTK hes
          obtain ⟨z1, z2⟩ := hes
          have x0 : wr.cell? ⟨g, off + k * 2, none⟩ = some (.slice ta tn tc) := hcc 0 _ rfl
          have x1 : wr.cell? ⟨g, off + k * 2 + 1, none⟩ = some (.slice oa on' oc) := by rw [Nat.add_assoc]; exact hcc 1 _ rfl
          have v1 := wrapI (a := (k : Int) + 1) (by omega) (by omega)
          obtain ⟨L0, hL0e⟩ : ∃ L0, HD ++ bdB (info :: lps (ents.take k)) = L0 := ⟨_, rfl⟩
          rw [hL0e] at HB hL0
          have HL0E := Lib.hid hL0e
          obtain ⟨c0, hc0⟩ : ∃ c, wr.heap.size = c := ⟨_, rfl⟩
          obtain ⟨wC, hwC⟩ : ∃ W, wr.alloc (.cells #[.slice ta tn tc, .slice oa on' oc] 119) = W := ⟨_, rfl⟩
          have kC : Keeps wr wC := by rw [← hwC]; exact (Keeps.refl wr).alloc _
          have hq0 : q < c0 := by rw [← hc0]; exact HB.out.old
          have HBC := Lib.hid (HB.out.keeps kC)
          have HKC := Lib.hid (HKW.out.trans kC)
          have HX0 := Lib.hid (show wC.heap[c0]? = some (.cells #[.slice ta tn tc, .slice oa on' oc] 119 (0, 0)) by rw [← hc0, ← hwC]; exact Array.getElem?_push_size)
          have HC := Lib.hid (show CsAt c0 [.slice ta tn tc, .slice oa on' oc] wC by rw [← hc0, ← hwC]; exact CsAt.made wr #[.slice ta tn tc, .slice oa on' oc] _ (by simp))
          have p0 := HC.out.cell 0 rfl
          have hqC : q ≤ wC.heap.size := Nat.le_trans hqr (Below.size kC)
          have HQ0 := Lib.hid (show c0 ≠ q by omega)
          have HW1 := Lib.hid (show Calls Tryd.prog 55 #[.pointer (some ⟨q, 0, none⟩), .slice ta tn tc] wC (WlP q q L0 p1 wC) from ewl_any q q L0 wC HBC.out (by omega) hqC (HON.out wC (HK1.out.trans HKC.out)).1 z1 (HTL.out wC (HK1.out.trans HKC.out)))
          have HW2 := Lib.hid (fun (W : World) (kk : Keeps w1 W) (hI : IsBk q q (L0 ++ lnB p1) W) (hl : (lnB p1).length ≤ 5000) => show Calls Tryd.prog 55 #[.pointer (some ⟨q, 0, none⟩), .slice oa on' oc] W (WlP q q (L0 ++ lnB p1) p2 W) from ewl_any q q (L0 ++ lnB p1) W hI (by rw [List.length_append]; omega) (by rw [← HQ.out]; exact Below.size kk) (HON.out W (HK1.out.trans kk)).2 z2 (HTL.out W (HK1.out.trans kk)))
          clear hcc hp hpp hg kC hqC hq0 hm hke hL0 hL0e z1 z2
          by_cases h1 : (loop p1).2 = 0
          · have hk1 := loop_good h1
            have hl1 : (lnB p1).length ≤ 5000 := by have := hk1.2; rw [lnB_length]; omega
            by_cases h2 : (loop p2).2 = 0
            · have hk2 := loop_good h2
              have HNX := Lib.hid (show (∀ m ∈ info :: lps (ents.take (k + 1)), okL m) ∧ HD ++ bdB (info :: lps (ents.take (k + 1))) = (L0 ++ lnB p1) ++ lnB p2 by
                rw [HTK.out]
                refine ⟨fun m hm => ?_, ?_⟩
                · rcases List.mem_cons.1 hm with r | r
                  · exact HALL.out m (by rw [r]; exact List.mem_cons_self ..)
                  · rcases List.mem_append.1 r with r | r
                    · exact HALL.out m (List.mem_cons_of_mem _ r)
                    · rcases List.mem_cons.1 r with r | r
                      · rw [r]; exact hk1
                      · rw [List.mem_singleton.1 r]; exact hk2
                · rw [← HL0E.out]
                  show HD ++ (lnB info ++ bdB (lps (ents.take k) ++ [p1, p2])) = ((HD ++ (lnB info ++ bdB (lps (ents.take k)))) ++ lnB p1) ++ lnB p2
                  rw [bdB_append]
                  show HD ++ (lnB info ++ (bdB (lps (ents.take k)) ++ (lnB p1 ++ (lnB p2 ++ [])))) = _
                  simp only [List.append_assoc, List.append_nil])
              clear hk1 hk2
              go_wp2_with (first | (go_at_call 55; (with_reducible refine HW1.out.mono ?_); rintro _ w5 ⟨rfl, hI5, k5, o5⟩; have HB5 := Lib.hid (hI5 h1); have HK5 := Lib.hid (HKC.out.on HQ.out k5); have HC5 := Lib.hid (o5.cs HX0.out (by decide) HQ0.out HC.out); have p1' := HC5.out.cell 1 rfl; rw [h1]; clear hI5 k5 o5 p0) | (go_at_call 55; (with_reducible refine (HW2.out w5 HK5.out HB5.out hl1).mono ?_); rintro _ w6 ⟨rfl, hI6, k6, o6⟩; have HB6 := Lib.hid (hI6 h2); have HK6 := Lib.hid (HK5.out.on HQ.out k6); rw [h2]; clear hI6 k6 o6))
              go_roundw
              case rel => exact ⟨k + 1, by omega, by go_num, HNX.out.1, by rw [HNX.out.2]; exact HB6.out, HK6.out⟩
              case measure => simp [intOf]; omega
            · have HF2 := Lib.hid (show bodyI ⟨act, plat, ord, info, ents⟩ = ([], (loop p2).2) by
                have e : bdE (info :: lps ents) = (loop p2).2 := by
                  rw [HSP.out, show info :: (lps (ents.take k) ++ p1 :: p2 :: lps (ents.drop (k + 1))) = ((info :: lps (ents.take k)) ++ [p1]) ++ p2 :: lps (ents.drop (k + 1)) by simp]
                  refine bdE_bad _ (fun m hm => ?_) h2
                  rcases List.mem_append.1 hm with r | r
                  · exact HALL.out m r
                  · rw [List.mem_singleton.1 r]; exact hk1
                rw [bodyI_err HNM.out (by rw [e]; exact h2), e])
              obtain ⟨E, hEE⟩ : ∃ E, (loop p2).2 = E := ⟨_, rfl⟩
              rw [hEE] at HF2 h2
              have hne2 : (E != 0) = true := bne_iff_ne.2 h2
              clear hk1
              go_wp2_with (first | (go_at_call 55; (with_reducible refine HW1.out.mono ?_); rintro _ w5 ⟨rfl, hI5, k5, o5⟩; have HB5 := Lib.hid (hI5 h1); have HK5 := Lib.hid (HKC.out.on HQ.out k5); have HC5 := Lib.hid (o5.cs HX0.out (by decide) HQ0.out HC.out); have p1' := HC5.out.cell 1 rfl; rw [h1]; clear hI5 k5 o5 p0) | (go_at_call 55; (with_reducible refine (HW2.out w5 HK5.out HB5.out hl1).mono ?_); rintro _ w6 ⟨rfl, hI6, k6, o6⟩; have HK6 := Lib.hid (HK5.out.on HQ.out k6); rw [hEE]; clear hI6 k6 o6))
              go_ret2
              exact DlPost.of HF2.out rfl (HKA.out.trans (HK1.out.trans HK6.out))
          · have HF2 := Lib.hid (show bodyI ⟨act, plat, ord, info, ents⟩ = ([], (loop p1).2) by
              have e : bdE (info :: lps ents) = (loop p1).2 := by
                rw [HSP.out, show info :: (lps (ents.take k) ++ p1 :: p2 :: lps (ents.drop (k + 1))) = (info :: lps (ents.take k)) ++ p1 :: p2 :: lps (ents.drop (k + 1)) by simp]
                exact bdE_bad _ HALL.out h1
              rw [bodyI_err HNM.out (by rw [e]; exact h1), e])
            obtain ⟨E, hEE⟩ : ∃ E, (loop p1).2 = E := ⟨_, rfl⟩
            rw [hEE] at HF2 h1
            have hne2 : (E != 0) = true := bne_iff_ne.2 h1
            go_wp2_with (go_at_call 55; (with_reducible refine HW1.out.mono ?_); rintro _ w5 ⟨rfl, hI5, k5, o5⟩; have HK5 := Lib.hid (HKC.out.on HQ.out k5); rw [hEE]; clear hI5 k5 o5 p0)
            go_ret2
            exact DlPost.of HF2.out rfl (HKA.out.trans (HK1.out.trans HK5.out))
        · have hlI : ¬ (k : Int) < (ne : Int) := by omega
          have HTK := Lib.hid (show ents.take k = ents from List.take_of_length_le (by have := HNE.out; omega))
          rw [HTK.out] at HB HALL
          have HF2 := Lib.hid (bodyI_ok (x := ⟨act, plat, ord, info, ents⟩) ⟨HNM.out, HALL.out⟩)
          have HBS := Lib.hid (bstrk_any q q _ wr HB.out hqr)
          have HBE := Lib.hid (show HD ++ bdB (info :: lps ents) = bytI ⟨act, plat, ord, info, ents⟩ by rw [← HHD.out]; rfl)
          rw [HBE.out] at HBS
          clear hL0
          go_wp2_with (go_at_call 41; refine HBS.out.mono ?_; rintro _ w6 ⟨rfl, k6⟩; have HK6 := Lib.hid (HKW.out.on HQ.out k6); clear k6)
          go_ret2
          exact DlPost.of HF2.out rfl (HKA.out.trans (HK1.out.trans HK6.out))
    · have HF2 := Lib.hid (show bodyI ⟨act, plat, ord, info, ents⟩ = ([], (loop info).2) by
        have e : bdE (info :: lps ents) = (loop info).2 := bdE_bad (a := []) _ (fun m hm => by cases hm) hE
        rw [bodyI_err HNM.out (by rw [e]; exact hE), e])
      obtain ⟨E, hEE⟩ : ∃ E, (loop info).2 = E := ⟨_, rfl⟩
      rw [hEE] at HF2 hE
      have hne2 : (E != 0) = true := bne_iff_ne.2 hE
      go_enter Tryd.func33, Tryd.ntmps33
      go_wp2_with (first | (go_at_call 54; refine HF.out.mono ?_; rintro _ w1 ⟨rfl, k1⟩; have HK1 := Lib.hid k1; obtain ⟨q, hq⟩ : ∃ q, w1.heap.size = q := ⟨_, rfl⟩; obtain ⟨wX, hXX⟩ : ∃ W, w1.alloc (.cells #[.pointer none, .slice none 0 0] 98) = W := ⟨_, rfl⟩; have HB0 := Lib.hid (show IsBk q q [] wX from (by rw [← hq, ← hXX]; exact IsBk.new w1)); have hkx := (show Keeps w1 wX from (by rw [← hXX]; exact (Keeps.refl w1).alloc _)); have HKX := Lib.hid (HK1.out.trans hkx); have HQ := Lib.hid hq; have HXX := Lib.hid (HX.out.keeps HKX.out); have q1 := HXX.out.cell 1 rfl; have q2 := HXX.out.cell 2 rfl; have HK1X := Lib.hid hkx; clear k1 hkx q0 q3 q4) | (refine dwp_ldG (g := 3) (l := wsH) (HTH.out _ HKX.out) rfl _ rfl rfl ?_) | (go_at_call 48; refine (HTX.out _).mono ?_; rintro _ w2 ⟨rfl, k2⟩; have HK2 := Lib.hid (HKX.out.trans k2); have HB2 := Lib.hid (HB0.out.keeps k2); have HK12 := Lib.hid (HK1X.out.trans k2); clear k2) | (go_at_call 40; refine (wstrk_any q q [] TS w2 HB2.out (by rw [hTSz]; decide) (by rw [← HQ.out]; exact Below.size HK12.out)).mono ?_; rintro _ w3 ⟨rfl, hI3, k3, o3⟩; have HB3 := Lib.hid (show IsBk q q HD w3 from (by rw [← hTSl]; exact hI3)); have HK13 := Lib.hid (HK12.out.on HQ.out k3); have HK3 := Lib.hid (HK1.out.trans HK13.out); have HX3 := Lib.hid (HX.out.keeps HK3.out); have q3 := HX3.out.cell 3 rfl; clear hI3 k3 o3 q1 q2) | (go_at_call 55; refine (HWL.out q q HD w3 HK3.out HB3.out (by rw [HLB.out]; decide) (by rw [← HQ.out]; exact Below.size HK13.out)).mono ?_; rintro _ w4 ⟨rfl, hI4, k4, o4⟩; have HK14 := Lib.hid (HK13.out.on HQ.out k4); rw [hEE]; clear hI4 k4 o4 q3))
      go_ret2
      exact DlPost.of HF2.out rfl (HKA.out.trans (HK1.out.trans HK14.out))
  · have HF2 := Lib.hid (bodyI_num hnum)
    rw [decide_eq_false hnum] at HF
    rw [HF2.out]
    clear hnum hx hes hI hH hL
    obtain ⟨act, plat, ord, info, ents⟩ := x
    simp only at *
    go_enter Tryd.func33, Tryd.ntmps33
    go_wp2_with (go_at_call 54; refine HF.out.mono ?_; rintro _ w1 ⟨rfl, k1⟩; have HK1 := Lib.hid (HKA.out.trans k1); clear k1)
    go_ret2
    exact DlPost.of rfl rfl HK1.out
end Go.Proofs.YtlghkdkaifcliaaDoor
