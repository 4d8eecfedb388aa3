/-
  What the program's table tells: end, start, text, first and Out. The memory that was there stays.
-/
import Derived.Test.YtpkidopnkofccaaShelf
import Derived.Test.YtpkidopnkofccaaTbW
namespace Go.Proofs.Ytpkidopnkofccaa
open Go.RowKit Gf Fl
set_option maxRecDepth 100000
def endRel (w : World) (T : Tb) (n : Nat) (v : Value) (wr : World) : Prop := ∃ j : Nat, j ≤ kn T n ∧ v = .int .i64 ((n + j : Nat) : Int) ∧ Eqv w wr
set_option maxHeartbeats 1600000 in
theorem tbend_any {S : Nat → Prop} {x : Nat} {T : Tb} {w : World} (h : PtAt S x T w) {n : Nat} (hn : n ≤ 191 * T.R) : Calls Try.prog 37 #[.pointer (some ⟨x, 0, none⟩), .int .i64 (n : Int)] w fun e w' => e = .returned (.int .i64 ((n + kn T n : Nat) : Int)) ∧ Eqv w w' := by
  obtain ⟨hr1, hr2⟩ := h.ok.bd
  have HSZ := Lib.hid (fun (W : World) (e : Eqv w W) => tbsize_any (h.keeps ((Keeps.refl w).eqv e)))
  obtain ⟨rb, h⟩ := h
  have HH := Lib.hid h
  have HKI := Lib.hid (fun j hj => kn_is T n j hj)
  have HKS := Lib.hid (kn_stop T n)
  have hkl := kn_le T hn
  obtain ⟨K, hK⟩ : ∃ K, kn T n = K := ⟨_, rfl⟩
  have HK := Lib.hid hK
  rw [hK] at HKI HKS hkl ⊢
  obtain ⟨R, hR⟩ : ∃ R, T.R = R := ⟨_, rfl⟩
  have HR := Lib.hid hR
  rw [hR] at hr1 hr2 hn HSZ HKI HKS hkl
  clear h hR hK
  go_enter Try.func37, Try.ntmps37
  go_wp2
  go_loopw [1] (fun v wr => endRel w T n v wr) (fun v _ => 191 * R + 1 - (intOf v).toNat)
  case atStart => exact ⟨0, by rw [HK.out]; omega, rfl, Eqv.refl w⟩
  case round =>
    obtain ⟨j, hj, rfl, hw⟩ := hrel
    rw [HK.out] at hj
    have HW := Lib.hid hw
    have HS0 := Lib.hid (HSZ.out wr hw)
    clear hw
    obtain ⟨p, hp⟩ : ∃ p, n + j = p := ⟨_, rfl⟩
    rw [hp]
    have hpb : p ≤ 191 * R := by omega
    have HDA := Lib.hid (fun (hp : p < 191 * R) => tbdata_any (HH.out.eqv HW.out) (n := p) (by rw [HR.out]; omega))
    have HIS := Lib.hid (fun (hp : p < 191 * R) (W : World) (e : Eqv wr W) => ((HH.out.eqv HW.out).eqv e).i p (by rw [HR.out]; omega))
    obtain ⟨q, hq⟩ : ∃ q, cp T.R p = q := ⟨_, rfl⟩
    rw [hq] at HDA HIS
    clear hq
    by_cases hlt : j < K
    · obtain ⟨g1, g2⟩ := HKI.out j hlt
      rw [hp] at g1 g2
      have HD := Lib.hid (HDA.out g1)
      have HI := Lib.hid (HIS.out g1)
      rw [g2] at HI
      have hpI : (p : Int) < 191 * (R : Int) := by omega
      have wr1 := wrapI (a := (p : Int) + 1) (by omega) (by omega)
      clear g1 g2 HDA HIS
      go_wp2_with (first | (go_at_call 28; refine HS0.out.mono ?_; rintro _ w5 ⟨rfl, rfl⟩) | (go_at_call 29; refine HD.out.mono ?_; rintro _ w6 ⟨rfl, he⟩; have d1 := HI.out w6 he; have HE6 := Lib.hid (HW.out.trans he); clear he))
      go_roundw
      case rel => exact ⟨j + 1, by rw [HK.out]; omega, by rw [← hp]; go_num, HE6.out⟩
      case measure => simp [intOf]; omega
    · obtain rfl : j = K := by omega
      have hst := HKS.out
      rw [hp] at hst
      by_cases hpl : p < 191 * R
      · have hIs : T.Is p = false := by
          cases z : T.Is p
          · rfl
          · exact absurd ⟨hpl, z⟩ hst
        have HD := Lib.hid (HDA.out hpl)
        have HI := Lib.hid (HIS.out hpl)
        rw [hIs] at HI
        have hpI : (p : Int) < 191 * (R : Int) := by omega
        clear hst hIs HDA HIS hpl
        go_wp2_with (first | (go_at_call 28; refine HS0.out.mono ?_; rintro _ w5 ⟨rfl, rfl⟩) | (go_at_call 29; refine HD.out.mono ?_; rintro _ w6 ⟨rfl, he⟩; have d1 := HI.out w6 he; have HE6 := Lib.hid (HW.out.trans he); clear he))
        go_ret
        exact ⟨by rw [hp]; rfl, HE6.out⟩
      · have hpI : ¬ ((p : Int) < 191 * (R : Int)) := by omega
        clear hst HDA HIS hpl
        go_wp2_with (go_at_call 28; refine HS0.out.mono ?_; rintro _ w5 ⟨rfl, rfl⟩)
        go_ret
        exact ⟨rfl, HW.out⟩
def startRel (w : World) (T : Tb) (n : Nat) (v : Value) (wr : World) : Prop := ∃ p : Nat, n ≤ p ∧ p ≤ nx T n ∧ v = .int .i64 (p : Int) ∧ Eqv w wr
set_option maxHeartbeats 1600000 in
theorem tbstart_any {S : Nat → Prop} {x : Nat} {T : Tb} {w : World} (h : PtAt S x T w) {n : Nat} (hn : n ≤ 191 * T.R + 1) : Calls Try.prog 39 #[.pointer (some ⟨x, 0, none⟩), .int .i64 (n : Int)] w fun e w' => e = .returned (.int .i64 (nx T n : Int)) ∧ Eqv w w' := by
  obtain ⟨hr1, hr2⟩ := h.ok.bd
  have HSZ := Lib.hid (fun (W : World) (e : Eqv w W) => tbsize_any (h.keeps ((Keeps.refl w).eqv e)))
  obtain ⟨rb, h⟩ := h
  have HH := Lib.hid h
  have HKI := Lib.hid (fun m h1 h2 => nx_lt T n m h1 h2)
  obtain ⟨hnx, hks⟩ := nx_stop T n
  have HKS := Lib.hid hks
  have hxb : nx T n ≤ 191 * T.R + 1 := by
    refine Classical.byContradiction fun z => ?_
    have := (nx_lt T n (nx T n - 1) (by omega) (by omega)).1
    omega
  obtain ⟨K, hK⟩ : ∃ K, nx T n = K := ⟨_, rfl⟩
  have HK := Lib.hid hK
  rw [hK] at HKI HKS hnx hxb ⊢
  obtain ⟨R, hR⟩ : ∃ R, T.R = R := ⟨_, rfl⟩
  have HR := Lib.hid hR
  rw [hR] at hr1 hr2 hn HSZ HKI HKS hxb
  clear h hR hK hks
  go_enter Try.func39, Try.ntmps39
  go_wp2
  go_loopw [1] (fun v wr => startRel w T n v wr) (fun v _ => 191 * R + 2 - (intOf v).toNat)
  case atStart => exact ⟨n, Nat.le_refl _, by rw [HK.out]; exact hnx, rfl, Eqv.refl w⟩
  case round =>
    obtain ⟨p, hp1, hp2, rfl, hw⟩ := hrel
    rw [HK.out] at hp2
    have HW := Lib.hid hw
    have HS0 := Lib.hid (HSZ.out wr hw)
    clear hw
    have HDA := Lib.hid (fun (hp : p < 191 * R) => tbdata_any (HH.out.eqv HW.out) (n := p) (by rw [HR.out]; omega))
    have HIS := Lib.hid (fun (hp : p < 191 * R) (W : World) (e : Eqv wr W) => ((HH.out.eqv HW.out).eqv e).s p (by rw [HR.out]; omega))
    obtain ⟨q, hq⟩ : ∃ q, cp T.R p = q := ⟨_, rfl⟩
    rw [hq] at HDA HIS
    clear hq
    by_cases hlt : p < K
    · obtain ⟨g1, g2⟩ := HKI.out p hp1 hlt
      have HD := Lib.hid (HDA.out g1)
      have HI := Lib.hid (HIS.out g1)
      rw [g2] at HI
      have hpI : (p : Int) < 191 * (R : Int) := by omega
      have wr1 := wrapI (a := (p : Int) + 1) (by omega) (by omega)
      clear g1 g2 HDA HIS
      go_wp2_with (first | (go_at_call 28; refine HS0.out.mono ?_; rintro _ w5 ⟨rfl, rfl⟩) | (go_at_call 29; refine HD.out.mono ?_; rintro _ w6 ⟨rfl, he⟩; have d1 := HI.out w6 he; have HE6 := Lib.hid (HW.out.trans he); clear he))
      go_roundw
      case rel => exact ⟨p + 1, by omega, by rw [HK.out]; omega, by go_num, HE6.out⟩
      case measure => simp [intOf]; omega
    · obtain rfl : p = K := by omega
      have hst := HKS.out
      by_cases hpl : p < 191 * R
      · have hIs : T.St p = true := by
          cases z : T.St p
          · exact absurd ⟨hpl, z⟩ hst
          · rfl
        have HD := Lib.hid (HDA.out hpl)
        have HI := Lib.hid (HIS.out hpl)
        rw [hIs] at HI
        have hpI : (p : Int) < 191 * (R : Int) := by omega
        clear hst hIs HDA HIS hpl
        go_wp2_with (first | (go_at_call 28; refine HS0.out.mono ?_; rintro _ w5 ⟨rfl, rfl⟩) | (go_at_call 29; refine HD.out.mono ?_; rintro _ w6 ⟨rfl, he⟩; have d1 := HI.out w6 he; have HE6 := Lib.hid (HW.out.trans he); clear he))
        go_ret
        exact ⟨rfl, HE6.out⟩
      · have hpI : ¬ ((p : Int) < 191 * (R : Int)) := by omega
        clear hst HDA HIS hpl
        go_wp2_with (go_at_call 28; refine HS0.out.mono ?_; rintro _ w5 ⟨rfl, rfl⟩)
        go_ret
        exact ⟨rfl, HW.out⟩
/-- The bytes of data so far. -/
def upT (T : Tb) (n k : Nat) : List UInt8 := txtT T 0 k ++ List.replicate (n - k) 0
theorem upT_length (T : Tb) {n k : Nat} (h : k ≤ n) : (upT T n k).length = n := by unfold upT; rw [List.length_append, txtT_length, List.length_replicate]; omega
theorem upT_next (T : Tb) {n k : Nat} (h : k < n) : upT T n (k + 1) = (upT T n k).set k (T.B k) := by
  unfold upT
  have e1 : txtT T 0 (k + 1) = txtT T 0 k ++ [T.B k] := by
    unfold txtT
    rw [List.range_succ, List.map_append]
    simp
  rw [e1, List.set_append, if_neg (by rw [txtT_length]; omega), txtT_length, Nat.sub_self, List.append_assoc]
  congr 1
  obtain ⟨m, hm⟩ : ∃ m, n - k = m + 1 := ⟨n - k - 1, by omega⟩
  rw [hm, show n - (k + 1) = m by omega, List.replicate_succ]
  rfl
theorem upT_all (T : Tb) (n : Nat) : upT T n n = txtT T 0 n := by unfold upT; rw [Nat.sub_self]; simp
def textRel (T : Tb) (wA : World) (b n : Nat) (v : Value) (wr : World) : Prop := ∃ k : Nat, k ≤ n ∧ v = .int .i64 (k : Int) ∧ Blk b (upT T n k) wr ∧ Only b wA wr
set_option maxHeartbeats 1600000 in
theorem tbtext_any {S : Nat → Prop} {x : Nat} {T : Tb} {w : World} (h : PtAt S x T w) : Calls Try.prog 36 #[.pointer (some ⟨x, 0, none⟩)] w fun e w' => e = .returned (.string (st (txtT T 0 (191 * T.R)))) ∧ Keeps w w' := by
  obtain ⟨hr1, hr2⟩ := h.ok.bd
  have HSZ := Lib.hid (tbsize_any h)
  obtain ⟨rb, h⟩ := h
  obtain ⟨b, hb⟩ : ∃ b, w.heap.size = b := ⟨_, rfl⟩
  obtain ⟨n, hn⟩ : ∃ n, 191 * T.R = n := ⟨_, rfl⟩
  have hnI : 191 * (T.R : Int) = (n : Int) := by omega
  rw [hnI] at HSZ
  rw [hn]
  have hmk := make8 n (by omega) w
  obtain ⟨wA, hA⟩ : ∃ wA, w.alloc (.cells (zr n) 5) = wA := ⟨_, rfl⟩
  have hkA : Keeps w wA := by rw [← hA]; exact (Keeps.refl w).alloc _
  have HB := Lib.hid (show Blk b (upT T n 0) wA by
    rw [← hA, ← hb]
    have := Blk.make w n
    exact this)
  have HH := Lib.hid (fun (W : World) (e : Only b wA W) => show PtIn S x rb T W from (h.keeps hkA).foot (U := fun k => k = b) (e.foot rfl) fun k hk e => by have := h.o k hk; omega)
  have HKA := Lib.hid hkA
  have hn1000 : n ≤ 1000000 := by omega
  have HN := Lib.hid hn
  have HBW := Lib.hid hb
  rw [hA] at hmk
  rw [hb] at hmk
  clear h hkA hr1 hr2 hnI hA hn hb
  go_enter Try.func36, Try.ntmps36
  go_wp2_with (go_at_call 28; refine HSZ.out.mono ?_; rintro _ w5 ⟨rfl, rfl⟩)
  clear hmk
  go_loopw [10] (fun v wr => textRel T wA b n v wr) (fun v _ => n - (intOf v).toNat)
  case atStart => exact ⟨0, by omega, rfl, HB.out, Only.refl _ _⟩
  case round =>
    obtain ⟨k, hk, rfl, hbk, ho⟩ := hrel
    have HBK := Lib.hid hbk
    have HO := Lib.hid ho
    have HP := Lib.hid (HH.out wr ho)
    clear hbk ho
    by_cases hlt : k < n
    · have hkI : (k : Int) < (n : Int) := by omega
      have HNX := Lib.hid (upT_next T hlt)
      have HDA := Lib.hid (tbdata_any HP.out (n := k) (by have := HN.out; omega))
      have HV := Lib.hid (fun (W : World) (e : Eqv wr W) => (HP.out.eqv e).v k (by have := HN.out; omega))
      obtain ⟨q, hq⟩ : ∃ q, cp T.R k = q := ⟨_, rfl⟩
      rw [hq] at HDA HV
      obtain ⟨y, hy⟩ : ∃ y, T.B k = y := ⟨_, rfl⟩
      rw [hy] at HV HNX
      have wr1 := wrapI (a := (k : Int) + 1) (by omega) (by omega)
      have HL := Lib.hid (show k < (upT T n k).length by rw [upT_length T hk]; exact hlt)
      clear hq hy
      go_wp2_with (first | (go_at_call 29; refine HDA.out.mono ?_; rintro _ w6 ⟨rfl, he⟩; have d1 := HV.out w6 he; have d2 := (HBK.out.eqv he).cell k HL.out; have d3 := (HBK.out.eqv he).free k HL.out; have HB6 := Lib.hid ((HBK.out.eqv he).set HL.out y); have HO6 := Lib.hid ((HO.out.trans (Only.eqv he)).trans (Only.setCell w6 ⟨b, k, none⟩ (.int .u8 (y.toNat : Int)))); clear he))
      go_roundw
      case rel => exact ⟨k + 1, by omega, by go_num, by rw [HNX.out]; exact HB6.out, HO6.out⟩
      case measure => simp [intOf]; omega
    · obtain rfl : k = n := by omega
      have hkI : ¬ ((k : Int) < (k : Int)) := by omega
      have hcv := HBK.out.whole k (n := k) (upT_length T (Nat.le_refl _)).symm
      rw [upT_all] at hcv
      have HKW := Lib.hid (HO.out.keeps HKA.out (by rw [HBW.out]; exact Nat.le_refl _))
      go_wp2
      go_ret
      exact ⟨rfl, HKW.out⟩
set_option maxHeartbeats 3200000 in
theorem tbfirst_any (s : ByteArray) (w : World) (hs : s.size ≤ 1000000) : Calls Try.prog 38 #[.string s] w fun e w' => e = .returned (.string (st ((ls s).take (firstL (ls s))))) ∧ Keeps w w' := by
  have hsz := ls_size s
  have HPK := Lib.hid (fun (W : World) (e : Keeps w W) => show Calls Try.prog 46 #[.string s] W (HdPost w (Dg.peek (ls s))) from dgpeek_any w s W (by omega) e)
  have HCK := Lib.hid (fun (n : Nat) (W : World) => show Calls Try.prog 47 #[.string (s.extract 0 n)] W (ChPost W ((ls s).take n)) by
    have e1 : ls (s.extract 0 n) = (ls s).take n := by rw [ls_part]; simp
    have := dgcheck_any W (s.extract 0 n) W (by rw [ls_size, e1, List.length_take]; omega) (Keeps.refl W)
    rwa [e1] at this)
  have HCL := Lib.hid (fun (n : Nat) (W : World) => show Calls Try.prog 48 #[.string (s.extract 0 n)] W fun e w' => e = .returned (.string (st ((ls s).take n))) ∧ Below W.heap.size W w' by
    have e1 : s.extract 0 n = st ((ls s).take n) := by rw [← st_ls (s.extract 0 n), ls_part]; simp
    have := clone_any (s.extract 0 n) W (by rw [e1, st_size, List.length_take]; omega)
    rwa [e1] at this ⊢)
  unfold HdPost at HPK
  unfold ChPost at HCK
  have hok : (Dg.peek (ls s)).2 = 0 → 20 ≤ (Dg.peek (ls s)).1.l := fun e => by have := Dg.peek_ok e; omega
  have HFL := Lib.hid (show firstL (ls s) = if (Dg.peek (ls s)).2 ≠ 0 ∨ ((ls s).length : Int) < (Dg.peek (ls s)).1.l ∨ Dg.check ((ls s).take (Dg.peek (ls s)).1.l.toNat) ≠ 0 then 0 else (Dg.peek (ls s)).1.l.toNat from rfl)
  obtain ⟨⟨⟨r1, r2, r3, r4⟩, r5⟩, hr⟩ : ∃ r, Dg.peek (ls s) = r := ⟨_, rfl⟩
  rw [hr] at HPK HFL hok
  simp only at HFL hok
  rw [← hsz] at HFL
  obtain ⟨F, hF⟩ : ∃ F, firstL (ls s) = F := ⟨_, rfl⟩
  rw [hF] at HFL ⊢
  clear hr hF hsz
  have HZ := Lib.hid (show st ((ls s).take 0) = ⟨#[]⟩ from by rw [List.take_zero]; rfl)
  by_cases h5 : r5 = 0
  · subst h5
    have h20 := hok rfl
    obtain ⟨n, rfl⟩ : ∃ n : Nat, r3 = (n : Int) := ⟨r3.toNat, by omega⟩
    rw [Int.toNat_natCast] at HFL
    by_cases hlt : (s.size : Int) < (n : Int)
    · have HF := Lib.hid (show F = 0 by rw [HFL.out, if_pos (.inr (.inl hlt))])
      clear HFL hok
      rw [HF.out, HZ.out]
      go_enter Try.func38, Try.ntmps38
      go_wp2_with (go_at_call 46; refine (HPK.out _ (Keeps.refl w)).mono ?_; rintro _ w5 ⟨rfl, k5⟩; unfold hdR)
      go_ret
      exact ⟨rfl, k5.alloc _⟩
    · have hnn : n ≤ s.size := by omega
      have HCN := Lib.hid (HCK.out n)
      have HLN := Lib.hid (HCL.out n)
      obtain ⟨c, hc⟩ : ∃ c, Dg.check ((ls s).take n) = c := ⟨_, rfl⟩
      rw [hc] at HCN HFL
      clear hc HCK HCL
      by_cases hc0 : c = 0
      · subst hc0
        have HF := Lib.hid (show F = n by rw [HFL.out, if_neg]; rintro (y | y | y); exact y rfl; exact hlt y; exact y rfl)
        clear HFL hok
        rw [HF.out]
        go_enter Try.func38, Try.ntmps38
        go_wp2_with (first | (go_at_call 46; refine (HPK.out _ (Keeps.refl w)).mono ?_; rintro _ w5 ⟨rfl, k5⟩; unfold hdR) | (go_at_call 47; refine (HCN.out _).mono ?_; rintro _ w6 ⟨rfl, k6⟩; have c2 : w6.cell? ⟨w5.heap.size, 2, none⟩ = some (.int .i64 (n : Int)) := (Below.cell k6 (p := ⟨w5.heap.size, 2, none⟩) (by simp)).trans (by rw [World.cell?_alloc_new]; rfl); have HK6 := Lib.hid ((k5.alloc _).trans k6); clear k6) | (go_at_call 48; refine (HLN.out _).mono ?_; rintro _ w7 ⟨rfl, k7⟩))
        go_ret
        exact ⟨rfl, HK6.out.trans k7⟩
      · have HF := Lib.hid (show F = 0 by rw [HFL.out, if_pos (.inr (.inr hc0))])
        have hcb : (c != 0) = true := by simpa using hc0
        clear HFL hok
        rw [HF.out, HZ.out]
        go_enter Try.func38, Try.ntmps38
        go_wp2_with (first | (go_at_call 46; refine (HPK.out _ (Keeps.refl w)).mono ?_; rintro _ w5 ⟨rfl, k5⟩; unfold hdR) | (go_at_call 47; refine (HCN.out _).mono ?_; rintro _ w6 ⟨rfl, k6⟩; have c2 : w6.cell? ⟨w5.heap.size, 2, none⟩ = some (.int .i64 (n : Int)) := (Below.cell k6 (p := ⟨w5.heap.size, 2, none⟩) (by simp)).trans (by rw [World.cell?_alloc_new]; rfl); have HK6 := Lib.hid ((k5.alloc _).trans k6); clear k6))
        go_ret
        exact ⟨rfl, HK6.out⟩
  · have HF := Lib.hid (show F = 0 by rw [HFL.out, if_pos (.inl h5)])
    have h5b : (r5 != 0) = true := by simpa using h5
    clear HFL hok
    rw [HF.out, HZ.out]
    go_enter Try.func38, Try.ntmps38
    go_wp2_with (go_at_call 46; refine (HPK.out _ (Keeps.refl w)).mono ?_; rintro _ w5 ⟨rfl, k5⟩; unfold hdR)
    go_ret
    exact ⟨rfl, k5.alloc _⟩
/-- Rows of placed datagrams. -/
def tplT : RowT (Int × List UInt8) where
  E := 63
  S := 53
  sz := 2
  bs := 24
  z := .agg #[.int .i64 0, .string ⟨#[]⟩]
  enc := fun p => [.int .i64 p.1, .string (st p.2)]
  und := Try.underlying53
  info := by kernel_rfl
  zs := rfl
  pos := by decide
  small := by decide
  len := fun _ => rfl
  one := fun p u hu => by
    rcases List.mem_cons.1 hu with rfl | hu
    · rfl
    · rw [List.mem_singleton.1 hu]; rfl
def mkP (T : Tb) (p : Nat × Nat) : Int × List UInt8 := ((p.1 : Int), txtT T p.1 p.2)
structure OutK (w0 : World) (T : Tb) (A E f : Nat) (acc : List (Int × List UInt8)) (v : Value) (w : World) : Prop where
  fa : A ≤ 191 * T.R
  fe : E ≤ 191 * T.R
  fk : ∀ n, A ≤ n → n < E → n < 191 * T.R ∧ T.Is n = true
  ff : 191 * T.R ≤ f + A
  fo : acc ++ (outF T f A).map (mkP T) = outs T
  fl : acc.length ≤ A
  own : OwnE tplT w w0.heap.size v acc
  kp : Keeps w0 w
def OutJ (w0 : World) (T : Tb) (x : Nat) (TX : ByteArray) (a : Act) (w : World) : Prop :=
  ∃ A E f acc v, OutK w0 T A E f acc v w ∧ a.tmps.size = 43 ∧ a.defers = [] ∧ a.tmps.toList.take 7 = [.pointer (some ⟨x, 0, none⟩), undef, .slice none 0 0, v, .string TX, .int .i64 (A : Int), .int .i64 (E : Int)]
theorem OutK.hit {w0 : World} {T : Tb} {A E f : Nat} {acc : List (Int × List UInt8)} {v : Value} {w : World} (h : OutK w0 T A E f acc v w) (hR : 256 ≤ T.R) (hp : 0 < firstT T A) {v' : Value} {w' : World}
    (ho : OwnE tplT w' w0.heap.size v' (acc ++ [((A : Int), txtT T A (firstT T A))])) (hk : Keeps w0 w') : OutK w0 T (A + firstT T A) (A + kn T A) (f - 1) (acc ++ [((A : Int), txtT T A (firstT T A))]) v' w' := by
  have h1 := firstT_kle hR A
  have h2 := kn_le T h.fa
  have hA : A < 191 * T.R := by omega
  have hf := h.ff
  obtain ⟨g, rfl⟩ : ∃ g, f = g + 1 := ⟨f - 1, by omega⟩
  refine ⟨by omega, h2, fun n n1 n2 => ?_, by omega, ?_, ?_, ho, hk⟩
  · have := kn_is T A (n - A) (by omega)
    rwa [show A + (n - A) = n by omega] at this
  · have := h.fo
    rw [outF_hit hA hp] at this
    rw [← this, List.append_assoc]; rfl
  · rw [List.length_append, List.length_singleton]; have := h.fl; omega
theorem OutK.miss {w0 : World} {T : Tb} {A E f : Nat} {acc : List (Int × List UInt8)} {v : Value} {w : World} (h : OutK w0 T A E f acc v w) (hp : ¬ 0 < firstT T A) (hn : nx T (A + 1) < 191 * T.R) {w' : World} (hk : Keeps w w') : OutK w0 T (nx T (A + 1)) (A + kn T A) (f - 1) acc v w' := by
  have hx := (nx_stop T (A + 1)).1
  have hf := h.ff
  obtain ⟨g, rfl⟩ : ∃ g, f = g + 1 := ⟨f - 1, by omega⟩
  refine ⟨by omega, kn_le T h.fa, fun n n1 n2 => ?_, by omega, ?_, by have := h.fl; omega, h.own.keeps hk, h.kp.trans hk⟩
  · have := kn_is T A (n - A) (by omega)
    rwa [show A + (n - A) = n by omega] at this
  · have := h.fo
    rwa [outF_miss (by omega) hp] at this
theorem OutK.ends {w0 : World} {T : Tb} {A E f : Nat} {acc : List (Int × List UInt8)} {v : Value} {w : World} (h : OutK w0 T A E f acc v w) (hp : ¬ 0 < firstT T A) (hn : ¬ nx T (A + 1) < 191 * T.R) : acc = outs T := by
  have := h.fo
  by_cases hA : A < 191 * T.R
  · have hf := h.ff
    obtain ⟨g, rfl⟩ : ∃ g, f = g + 1 := ⟨f - 1, by omega⟩
    rw [outF_miss hA hp, outF_end (by omega)] at this
    simpa using this
  · rw [outF_end (by omega)] at this
    simpa using this
theorem tbout_nil (w : World) : Calls Try.prog 22 #[.pointer none] w fun e w' => e = .returned (.slice none 0 0) ∧ w = w' := by
  go_enter Try.func22, Try.ntmps22
  go_wp2
  refine scope_loop (rest := ?rest) 0 (fun _ _ => False) (fun _ _ => 0) ?hf ?pass ?first
  case hf => rfl
  case pass => intro a w h; exact h.elim
  case first =>
    intro _
    go_wp2
    show bodyPost Try.prog Try.f22 (fun e w' => e = .returned (.slice none 0 0) ∧ w = w') Exit.ret _ _
    go_ret
    exact ⟨rfl, rfl⟩
def ToutPost (w0 : World) (T : Tb) (e : Ending) (w' : World) : Prop := ∃ v, e = .returned v ∧ OwnE tplT w' w0.heap.size v (outs T) ∧ Keeps w0 w'
set_option maxHeartbeats 3200000 in
theorem tbout_any {S : Nat → Prop} {x : Nat} {T : Tb} {w : World} (h : PtAt S x T w) : Calls Try.prog 22 #[.pointer (some ⟨x, 0, none⟩)] w (ToutPost w T) := by
  obtain ⟨hr1, hr2⟩ := h.ok.bd
  have HTX := Lib.hid (tbtext_any h)
  have HSZ := Lib.hid (fun (W : World) (k : Keeps w W) => tbsize_any (h.keeps k))
  have HEN := Lib.hid (fun (n : Nat) (hn : n ≤ 191 * T.R) (W : World) (k : Keeps w W) => tbend_any (h.keeps k) hn)
  have HST := Lib.hid (fun (n : Nat) (hn : n ≤ 191 * T.R + 1) (W : World) (k : Keeps w W) => tbstart_any (h.keeps k) hn)
  have HTL := Lib.hid (show (st (txtT T 0 (191 * T.R))).size = 191 * T.R by rw [st_size, txtT_length])
  have HEX := Lib.hid (fun (A K : Nat) (hA : A + K ≤ 191 * T.R) => show ls ((st (txtT T 0 (191 * T.R))).extract A (A + K)) = txtT T A K by
    rw [ls_part, ls_st, Nat.add_sub_cancel_left, txtT_split T 0 A (191 * T.R) (by omega), List.drop_append_of_le_length (by rw [txtT_length]; exact Nat.le_refl _), List.drop_eq_nil_of_le (by rw [txtT_length]; exact Nat.le_refl _), List.nil_append, Nat.zero_add, txtT_take T A (by omega)])
  obtain ⟨TX, hTX⟩ : ∃ TX, st (txtT T 0 (191 * T.R)) = TX := ⟨_, rfl⟩
  rw [hTX] at HTX HTL HEX
  clear h hTX
  go_enter Try.func22, Try.ntmps22
  go_wp2
  refine scope_loop (rest := ?rest) 0 (OutJ w T x TX) (fun a _ => 191 * T.R + 1 - (intOf (a.tmps.getD 5 undef)).toNat) ?hf ?pass ?first
  case hf => rfl
  case first =>
    intro hrest
    have HREST := Lib.hid hrest
    clear hrest
    go_wp2_with (go_at_call 36; refine HTX.out.mono ?_; rintro _ w1 ⟨rfl, k1⟩)
    go_step3
    rename_i hK
    refine hK _ _ (HREST.out _ _ ⟨0, 0, 191 * T.R, [], .slice none 0 0, ⟨by omega, by omega, fun n h1 h2 => by omega, by omega, rfl, by simp, OwnE.nil _ _, k1⟩, rfl, rfl, rfl⟩)
  case pass =>
    rintro a w' ⟨A, E, f, acc, v, hK, hfs, hfd, hft⟩
    obtain ⟨us, rfl⟩ := frameN 36 [.pointer (some ⟨x, 0, none⟩), undef, .slice none 0 0, v, .string TX, .int .i64 (A : Int), .int .i64 (E : Int)] hfs hfd hft
    simp only [tailF, List.cons_append, List.nil_append, Nat.reduceAdd]
    clear hfs hfd hft
    have hA := hK.fa
    have hE := hK.fe
    have hkA := kn_le T hA
    have hacc := hK.fl
    have HKK := Lib.hid hK
    have HAC := Lib.hid hacc
    obtain ⟨M, hM⟩ : ∃ M : Nat, M = max A E := ⟨_, rfl⟩
    have hMI : max (A : Int) (E : Int) = (M : Int) := by omega
    have hMb : M ≤ 191 * T.R := by omega
    have hfrom := kn_from T (a := A) (e := M) (by omega) fun n n1 n2 => hK.fk n n1 (by omega)
    have HEM := Lib.hid (HEN.out M hMb w' hK.kp)
    rw [hfrom] at HEM
    have HXA := Lib.hid (HEX.out A (kn T A) hkA)
    have hsub := (show (TX.extract A (A + kn T A)).size = kn T A by rw [ls_size, HXA.out, txtT_length])
    have HFI := Lib.hid (fun (W : World) => tbfirst_any (TX.extract A (A + kn T A)) W (by rw [hsub]; omega))
    rw [HXA.out, firstT_kn hr1, txtT_take T A (firstT_kle hr1 A)] at HFI
    have HHIT := Lib.hid (fun hp v' w2 ho hk => hK.hit hr1 hp (v' := v') (w' := w2) ho hk)
    have HMISS := Lib.hid (fun hp hn w2 hk => hK.miss hp hn (w' := w2) hk)
    have HENDS := Lib.hid (fun hp hn => hK.ends hp hn)
    have hfle := firstT_kle hr1 A
    have hxs := (nx_stop T (A + 1)).1
    have hxb : nx T (A + 1) ≤ 191 * T.R + 1 := by
      refine Classical.byContradiction fun z => ?_
      have := (nx_lt T (A + 1) (nx T (A + 1) - 1) (by omega) (by omega)).1
      omega
    have HSA := Lib.hid (fun (W : World) (k : Keeps w W) => HST.out (A + 1) (by omega) W k)
    have HSZ2 := Lib.hid HSZ.out
    have hTL := HTL.out
    obtain ⟨G, hG⟩ : ∃ G, A + kn T A = G := ⟨_, rfl⟩
    rw [hG] at HEM HHIT HMISS HFI hkA hsub
    obtain ⟨F, hF⟩ : ∃ F, firstT T A = F := ⟨_, rfl⟩
    rw [hF] at HHIT HMISS HENDS HFI hfle
    obtain ⟨Y, hY⟩ : ∃ Y, txtT T A F = Y := ⟨_, rfl⟩
    rw [hY] at HHIT HFI
    have hYl : (st Y).size = F := by rw [st_size, ← hY, txtT_length]
    obtain ⟨D, hD⟩ : ∃ D, st Y = D := ⟨_, rfl⟩
    have HDY := Lib.hid hD
    rw [hD] at HFI hYl
    obtain ⟨N, hN⟩ : ∃ N, nx T (A + 1) = N := ⟨_, rfl⟩
    rw [hN] at HMISS HENDS HSA hxs hxb
    obtain ⟨R, hR⟩ : ∃ R, T.R = R := ⟨_, rfl⟩
    have HR := Lib.hid hR
    rw [hR] at hr1 hr2 hA hE hMb hkA hxb HSZ2 hTL HMISS HENDS
    have HGK := Lib.hid hG
    have hGA : A ≤ G := by omega
    have hGF : A + F ≤ G := by omega
    have hg1 : (A : Int) ≤ (G : Int) := by omega
    have hg2 : (G : Int) ≤ (TX.size : Int) := by omega
    have hg3 : A ≤ G := hGA
    have hg4 : G ≤ TX.size := by omega
    have HTL2 := Lib.hid hTL
    have HYL := Lib.hid hYl
    clear hK hfrom hF hY hD hN hR hG HXA hfle hM hTL hsub hGA
    have hacb : acc.length ≤ 100000000 := by omega
    by_cases hF0 : 0 < F
    · have hE1 : D.toList.isEmpty = false := by rw [ls_toList, List.isEmpty_eq_false_iff, ne_eq, ← List.length_eq_zero_iff, ← ls_size]; omega
      have wr1 := wrapI (a := (A : Int) + (F : Int)) (by omega) (by omega)
      have HH := Lib.hid (fun v' w2 ho hk => HHIT.out hF0 v' w2 ho hk)
      have HF0 := Lib.hid hF0
      clear HHIT HMISS HENDS HSA HSZ2 hF0
      go_wp2_with (first | (go_at_call 37; refine HEM.out.mono ?_; rintro _ w2 ⟨rfl, he2⟩; have HK2 := Lib.hid (HKK.out.kp.eqv he2); have HO2 := Lib.hid (HKK.out.own.eqv he2); clear he2) | (go_at_call 38; refine (HFI.out _).mono ?_; rintro _ w3 ⟨rfl, k3⟩; have HK3 := Lib.hid (HK2.out.trans k3); have HO3 := Lib.hid (HO2.out.keeps k3); clear k3) | (at_builtin; refine wp_pushE (T := tplT) rfl _ _ rfl ((A : Int), Y) #[.int .i64 (A : Int), .string D] (by rw [← HDY.out]; rfl) w3.heap.size rfl HO3.out rfl rfl hacb (Below.size HK3.out) _ ?_; intro v5 w5 own5 grow5 at5; have HN5 := Lib.hid (HH.out v5 w5 own5 ((HK3.out.alloc _).grown grow5 HO3.out.block)); clear own5 grow5 at5))
      go_step3
      refine ⟨rfl, ⟨A + F, G, f - 1, acc ++ [((A : Int), Y)], v5, HN5.out, rfl, rfl, by go_num⟩, ?_⟩
      show 191 * T.R + 1 - ((A : Int) + (F : Int)).toNat < 191 * T.R + 1 - (A : Int).toNat
      rw [HR.out]
      have hF0 := HF0.out
      have := HTL2.out
      omega
    · obtain rfl : F = 0 := by omega
      have hE1 : D.toList.isEmpty = true := by rw [ls_toList, List.isEmpty_iff, ← List.length_eq_zero_iff, ← ls_size]; exact hYl
      have wr1 := wrapI (a := (A : Int) + 1) (by omega) (by omega)
      have HN1 := Lib.hid (HENDS.out (by omega))
      have HM1 := Lib.hid (fun hn w2 hk => HMISS.out (by omega) hn w2 hk)
      clear HHIT HMISS HENDS hF0
      by_cases hNR : N < 191 * R
      · have hNI : (N : Int) < 191 * (R : Int) := by omega
        go_wp2_with (first | (go_at_call 37; refine HEM.out.mono ?_; rintro _ w2 ⟨rfl, he2⟩; have HK2 := Lib.hid ((Keeps.refl w').eqv he2); clear he2) | (go_at_call 38; refine (HFI.out _).mono ?_; rintro _ w3 ⟨rfl, k3⟩; have HK3 := Lib.hid (HK2.out.trans k3); clear k3) | (go_at_call 39; refine (HSA.out _ (HKK.out.kp.trans HK3.out)).mono ?_; rintro _ w4 ⟨rfl, he4⟩; have HK4 := Lib.hid (HK3.out.eqv he4); clear he4) | (go_at_call 28; refine (HSZ2.out _ (HKK.out.kp.trans HK4.out)).mono ?_; rintro _ w5 ⟨rfl, rfl⟩))
        go_step3
        refine ⟨rfl, ⟨N, G, f - 1, acc, v, HM1.out hNR _ HK4.out, rfl, rfl, by go_num⟩, ?_⟩
        show 191 * T.R + 1 - (N : Int).toNat < 191 * T.R + 1 - (A : Int).toNat
        rw [HR.out]
        omega
      · have hNI : ¬ ((N : Int) < 191 * (R : Int)) := by omega
        have HE := Lib.hid (HN1.out hNR)
        clear HM1
        go_wp2_with (first | (go_at_call 37; refine HEM.out.mono ?_; rintro _ w2 ⟨rfl, he2⟩; have HK2 := Lib.hid ((Keeps.refl w').eqv he2); clear he2) | (go_at_call 38; refine (HFI.out _).mono ?_; rintro _ w3 ⟨rfl, k3⟩; have HK3 := Lib.hid (HK2.out.trans k3); clear k3) | (go_at_call 39; refine (HSA.out _ (HKK.out.kp.trans HK3.out)).mono ?_; rintro _ w4 ⟨rfl, he4⟩; have HK4 := Lib.hid (HK3.out.eqv he4); clear he4) | (go_at_call 28; refine (HSZ2.out _ (HKK.out.kp.trans HK4.out)).mono ?_; rintro _ w5 ⟨rfl, rfl⟩))
        show bodyPost Try.prog Try.f22 (ToutPost w T) Exit.ret _ _
        go_ret
        exact ⟨v, rfl, by rw [← HE.out]; exact HKK.out.own.keeps HK4.out, HKK.out.kp.trans HK4.out⟩
end Go.Proofs.Ytpkidopnkofccaa
