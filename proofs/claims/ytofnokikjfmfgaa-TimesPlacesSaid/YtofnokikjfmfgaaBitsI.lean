/-
  What String of package bits' writer answers: all bits as bytes. For up to a million bits. The memory that was there stays.
-/
import Derived.Test.YtofnokikjfmfgaaBitsH
namespace Go.Proofs.Ytofnokikjfmfgaa
open Go.RowKit Go.Shelf Gf Bit
set_option maxRecDepth 100000
/-- Blocks, one ahead of the other: as Chain, whichever they are. -/
def Chn (w : World) (f : Nat → UInt8) : Nat → Value → Prop
  | 0, v => v = .pointer none
  | m + 1, v => ∃ c u, v = .pointer (some ⟨c, 0, none⟩) ∧ w.cell? ⟨c, 0, none⟩ = some u ∧ (∀ k, k < 128 → w.cell? ⟨c, 1 + k, none⟩ = some (B (f (128 * m + k)))) ∧ Chn w f m u
theorem Chain.chn {w : World} {b : Nat} {f : Nat → UInt8} : ∀ {m : Nat} {v : Value}, Chain w b f m v → Chn w f m v
  | 0, _, h => h
  | m + 1, _, h => by
    obtain ⟨c, u, e, _, h0, hb, hr⟩ := h
    exact ⟨c, u, e, h0, hb, hr.chn⟩
theorem OutR.chn {w : World} {b : Nat} {f : Nat → UInt8} {n : Nat} (h : OutR b f n w) : Chn w f (n / 1024 + 1) (.pointer (some ⟨b, 0, none⟩)) := by
  obtain ⟨v, h1, h2⟩ := h.chain
  exact ⟨b, v, rfl, h1, h.byte, h2.chn⟩
/-- The bytes from k on, bytes 0 ahead of them. -/
def rmix (R : List UInt8) (k : Nat) : List UInt8 := (List.range R.length).map fun i => if i < k then 0 else cf R i
theorem rmix_length (R : List UInt8) (k : Nat) : (rmix R k).length = R.length := by unfold rmix; rw [List.length_map, List.length_range]
theorem cf_rmix {R : List UInt8} {k i : Nat} (h : i < R.length) : cf (rmix R k) i = if i < k then 0 else cf R i := by
  rw [cf_lt (by rw [rmix_length]; exact h)]; unfold rmix; rw [List.getElem_map, List.getElem_range]
theorem rmix_all (R : List UInt8) {k : Nat} (h : R.length ≤ k) : rmix R k = z8 R.length := by
  refine list_ext_cf (by rw [rmix_length]; exact List.length_replicate.symm) fun i hi => ?_
  rw [rmix_length] at hi
  rw [cf_rmix hi, if_pos (by omega), cf_lt (by unfold z8; rw [List.length_replicate]; exact hi)]; unfold z8; rw [List.getElem_replicate]
theorem rmix_none (R : List UInt8) : rmix R 0 = R := list_ext_cf (rmix_length R 0) fun i hi => by rw [rmix_length] at hi; rw [cf_rmix hi, if_neg (by omega)]
theorem cf_part (R : List UInt8) (t c j : Nat) (h : j < c) : cf ((R.drop t).take c) j = cf R (t + j) := by
  unfold cf
  rw [List.getD_eq_getElem?_getD, List.getElem?_take_of_lt h, List.getElem?_drop, List.getD_eq_getElem?_getD]
theorem min_or (a b : Nat) : Nat.min a b = a ∨ Nat.min a b = b := by
  rcases Nat.le_total a b with h | h
  · exact .inl (Nat.min_eq_left h)
  · exact .inr (Nat.min_eq_right h)
/-- The state ahead of block j - 1, of which j are left. -/
def stRel (w : World) (g : Nat) (L : List Bool) (a v : Value) (wr : World) : Prop := ∃ j : Nat, 128 * j ≤ (pack L).length + 128 ∧ a = .int .i64 (128 * (j : Int) - 128) ∧ Chn w (byt L) j v ∧ Blk g (rmix (pack L) (128 * j)) wr ∧ Keeps w wr
def chSize : Value → Int → Nat := fun _ a => (a + 128).toNat
set_option maxHeartbeats 8000000 in
theorem string_any {b : Nat} {L : List Bool} {w : World} (h : OutAt b L w) (hL : L.length ≤ 1000000) :
    Calls Try.prog 39 #[.pointer (some ⟨b, 0, none⟩)] w fun e w' => e = .returned (.string (st (pack L))) ∧ Keeps w w' := by
  have hcn := OutR.cnt h
  have HC := Lib.hid (OutR.chn h)
  clear h
  have hPl := pack_length L
  obtain ⟨N, hN⟩ : ∃ N, (pack L).length = N := ⟨_, rfl⟩
  rw [hN] at hPl
  have hN1 : N ≤ 1000000 := by omega
  have hmk := make8 N hN1 w
  have e1 : ((L.length : Int) + 7) / 8 = (N : Int) := by omega
  have hB := Blk.make w N
  have hA := Keeps.alloc (Keeps.refl w) (.cells (zr N) 5)
  rw [show z8 N = rmix (pack L) (128 * (L.length / 1024 + 1)) by rw [rmix_all _ (by rw [hN]; omega), hN]] at hB
  obtain ⟨n, hn⟩ : ∃ n, L.length = n := ⟨_, rfl⟩
  rw [hn] at hcn HC hPl e1 hB hL
  have HNN := Lib.hid hn
  have HNL := Lib.hid hN
  clear hn hN
  obtain ⟨g, hg⟩ : ∃ g, w.heap.size = g := ⟨_, rfl⟩
  have hcn8 := Below.cell hA (p := ⟨b, 129, none⟩) (there_cell hcn) |>.trans hcn
  obtain ⟨w8, hw8⟩ : ∃ w8, w.alloc (.cells (zr N) 5) = w8 := ⟨_, rfl⟩
  rw [hg, hw8] at hmk
  rw [hg, hw8] at hB
  rw [hw8] at hA hcn8
  have HPL := Lib.hid hPl
  have e3 : (n : Int) / 1024 * 128 = 128 * ((n / 1024 + 1 : Nat) : Int) - 128 := by omega
  have e4 : 128 * (n / 1024 + 1) ≤ N + 128 := by omega
  clear hw8 hPl
  go_enter Try.func39, Try.ntmps39
  go_wp2
  go_loopw [4, 5] (fun a v wr => stRel w g L a v wr) (fun a v _ => (intOf a + 128).toNat)
  case atStart => exact ⟨n / 1024 + 1, by rw [HNL.out]; exact e4, by congr 1, HC.out, hB, hA⟩
  case round =>
    obtain ⟨j, hj, rfl, hc, hbk, hkp⟩ := hrel
    rw [HNL.out] at hj
    have HCH := Lib.hid hc
    have HBK := Lib.hid hbk
    have HKP := Lib.hid hkp
    clear hB hA hcn8 hmk hcn e1 e3 e4
    cases j with
    | zero =>
      have hv : _ = _ := hc
      subst hv
      have hw := hbk.whole N (n := N) (by rw [rmix_length]; exact HNL.out.symm)
      rw [Nat.mul_zero, rmix_none] at hw
      go_wp2
      go_ret
      exact ⟨rfl, HKP.out⟩
    | succ m =>
      obtain ⟨c, u, rfl, hu, hcb, hch⟩ := hc
      have HHC := Lib.hid hch
      have HCB := Lib.hid hcb
      clear hbk hkp hcb hch
      have ea : 128 * ((m + 1 : Nat) : Int) - 128 = ((128 * m : Nat) : Int) := by omega
      rw [ea]
      obtain ⟨t, ht⟩ : ∃ t, 128 * m = t := ⟨_, rfl⟩
      have htN : t ≤ N := by omega
      obtain ⟨l, hl⟩ : ∃ l, ((pack L).drop t).take 128 = l := ⟨_, rfl⟩
      have hll : l.length = Nat.min 128 (N - t) := by rw [← hl, List.length_take, List.length_drop, HNL.out]
      have hmin : l.length = 128 ∨ l.length = N - t := by rw [hll]; exact min_or _ _
      have hl128 : l.length ≤ 128 := by rw [hll]; exact Nat.min_le_left _ _
      have hlN : l.length ≤ N - t := by rw [hll]; exact Nat.min_le_right _ _
      have hcw : c < w.heap.size := there_cell hu
      have HSRC := Lib.hid (show ∀ i, i < l.length → wr.cell? ⟨c, 1 + i, none⟩ = some (B (cf l i)) from fun i hi => by
        rw [Below.cell HKP.out (p := ⟨c, 1 + i, none⟩) hcw, HCB.out i (by omega), ← hl, cf_part _ _ _ _ (by omega), cf_pack, ht])
      have HNB0 := Lib.hid (HBK.out.put t l (rmix (pack L) (128 * m)) (by rw [rmix_length, HNL.out]; omega) (by rw [rmix_length, rmix_length]) (fun i hi => by
        rw [rmix_length] at hi
        rw [cf_rmix hi, cf_rmix hi, ht]
        rw [HNL.out] at hi
        by_cases h1 : i < t
        · rw [if_pos h1, if_neg (by omega), if_pos (by omega)]
        · rw [if_neg h1]
          by_cases h2 : i < t + l.length
          · rw [if_pos ⟨by omega, h2⟩, ← hl, cf_part _ _ _ _ (by omega), show t + (i - t) = i by omega]
          · rw [if_neg (by omega), if_neg (by omega)]))
      have HLEN := Lib.hid hll
      have HTT := Lib.hid ht
      clear ea hl hll hmin
      rw [ht]
      by_cases hlt : t < N
      · obtain ⟨wc, hwc⟩ : ∃ wc, wr.setCells g t (l.map B) = wc := ⟨_, rfl⟩
        have HWC := Lib.hid hwc
        have HDST := Lib.hid (show wr.there g t l.length from fun i hi => ⟨by rw [HBK.out.cell (t + i) (by rw [rmix_length, HNL.out]; omega)]; rfl, HBK.out.free (t + i) (by rw [rmix_length, HNL.out]; omega)⟩)
        have HNB := Lib.hid (show Blk g (rmix (pack L) (128 * m)) wc by rw [← hwc]; exact HNB0.out)
        have HKW := Lib.hid (show Keeps w wc by rw [← hwc]; exact (only_setCells g _ t wr).keeps HKP.out (by omega))
        have htI : (t : Int) < (N : Int) := by omega
        clear hwc
        go_wp2
        refine wp_draw (by kernel_rfl)
          [.slice (some ⟨g, 0, none⟩) N N, .int .i64 (t : Int), .slice (some ⟨g, t, none⟩) (N - t) (N - t), .pointer (some ⟨c, 0, none⟩), .pointer (some ⟨c, 0, none⟩), .pointer (some ⟨c, 1, none⟩), .slice (some ⟨c, 1, none⟩) 128 128, .int .i64 (l.length : Int)]
          (Once 7 (Eqv wr) (Eqv wc))
          rfl (by kernel_rfl) (fin := ?finP) ?hfinP (Once.start (Eqv.drew wr)) ?eachP ?hendP
        case hfinP => simp [seqA, dstOf, Act.put]; rfl
        case eachP =>
          refine ⟨?_, ?_, ?_, ?_, ?_, ?_, ?_, ?_, trivial⟩
          all_goals intro L7 w7 h0 hd hs hw
          all_goals try simp only [Nat.zero_add, Nat.reduceAdd] at h0
          all_goals try (have hsa := slice128a w7 c; unfold Does; go_simp; exact fun L' k => hw.same (by decide) k)
          · unfold Does
            go_simp
            exact ⟨fun e => absurd e (by omega), fun L' k => hw.same (by decide) k⟩
          · have hA := hw.1 h0
            refine Does.copy _ _ _ rfl rfl rfl rfl (copy_row (l := l) HLEN.out (fun i hi => by rw [hA.cell]; exact HSRC.out i hi) (fun i hi => ⟨by rw [hA.cell]; exact (HDST.out i hi).1, by rw [hA.frozen]; exact (HDST.out i hi).2⟩) _) ?_
            refine ⟨fun _ => rfl, fun L' k => Once.done k ?_⟩
            rw [← HWC.out]
            exact hA.setCells g _ _
        case hendP =>
          intro L7 w7 hL7 hw
          have hC := hw.2 (hL7 7 (by simp))
          have HB7 := Lib.hid (HNB.out.eqv hC)
          have HK7 := Lib.hid (HKW.out.eqv hC)
          have hu7 := (HKW.out.cell (p := ⟨c, 0, none⟩) hcw).trans hu
          have hu8 := (hC.cell _).trans hu7
          clear hw hL7 hC hu hu7
          have htI : (t : Int) ≤ 1000000 := by omega
          go_wp2
          go_roundw
          case rel => exact ⟨m, by rw [HNL.out]; omega, by congr 1; omega, HHC.out, HB7.out, HK7.out⟩
          case measure => simp [intOf]; omega
      · obtain rfl : t = N := by omega
        have hl0 : l = [] := List.length_eq_zero_iff.1 (by omega)
        obtain ⟨wc, hwc⟩ : ∃ wc, wr.setCells g 0 (l.map B) = wc := ⟨_, rfl⟩
        have hwc2 : wc = wr := by rw [← hwc, hl0]; rfl
        have HWC := Lib.hid hwc
        have HDST := Lib.hid (show wr.there g 0 l.length from fun i hi => by rw [hl0] at hi; simp at hi)
        have HNB := Lib.hid (show Blk g (rmix (pack L) (128 * m)) wc by have := HNB0.out; rw [hl0] at this; rw [hwc2]; exact this)
        have HKW := Lib.hid (show Keeps w wc by rw [hwc2]; exact HKP.out)
        have HLEN0 := Lib.hid (show l.length = Nat.min 128 0 by rw [hl0]; rfl)
        clear hwc hwc2 hl0
        go_wp2
        refine wp_draw (by kernel_rfl)
          [.slice (some ⟨g, 0, none⟩) t t, .int .i64 (t : Int), .slice (some ⟨g, 0, none⟩) 0 0, .pointer (some ⟨c, 0, none⟩), .pointer (some ⟨c, 0, none⟩), .pointer (some ⟨c, 1, none⟩), .slice (some ⟨c, 1, none⟩) 128 128, .int .i64 (l.length : Int)]
          (Once 7 (Eqv wr) (Eqv wc))
          rfl (by kernel_rfl) (fin := ?finZ) ?hfinZ (Once.start (Eqv.drew wr)) ?eachZ ?hendZ
        case hfinZ => simp [seqA, dstOf, Act.put]; rfl
        case eachZ =>
          refine ⟨?_, ?_, ?_, ?_, ?_, ?_, ?_, ?_, trivial⟩
          all_goals intro L7 w7 h0 hd hs hw
          all_goals try simp only [Nat.zero_add, Nat.reduceAdd] at h0
          all_goals try (have hsa := slice128a w7 c; unfold Does; go_simp; exact fun L' k => hw.same (by decide) k)
          · have hA := hw.1 h0
            refine Does.copy _ _ _ rfl rfl rfl rfl (copy_row (l := l) HLEN0.out (fun i hi => by rw [hA.cell]; exact HSRC.out i hi) (fun i hi => ⟨by rw [hA.cell]; exact (HDST.out i hi).1, by rw [hA.frozen]; exact (HDST.out i hi).2⟩) _) ?_
            refine ⟨fun _ => rfl, fun L' k => Once.done k ?_⟩
            rw [← HWC.out]
            exact hA.setCells g _ _
        case hendZ =>
          intro L7 w7 hL7 hw
          have hC := hw.2 (hL7 7 (by simp))
          have HB7 := Lib.hid (HNB.out.eqv hC)
          have HK7 := Lib.hid (HKW.out.eqv hC)
          have hu7 := (HKW.out.cell (p := ⟨c, 0, none⟩) hcw).trans hu
          have hu8 := (hC.cell _).trans hu7
          clear hw hL7 hC hu hu7
          have htI : (t : Int) ≤ 1000000 := by omega
          go_wp2
          go_roundw
          case rel => exact ⟨m, by rw [HNL.out]; omega, by congr 1; omega, HHC.out, HB7.out, HK7.out⟩
          case measure => simp [intOf]; omega
end Go.Proofs.Ytofnokikjfmfgaa
