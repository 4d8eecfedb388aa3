/-
  What layer 13's statements share: few, bytes, column, out, and the chapter's example. The memory that was there stays.
-/
import Derived.Test.YtpkidopnkofccaaMade
import Derived.Test.YtpkidopnkofccaaTbArgs
import Derived.Test.YtpkidopnkofccaaTbOutD
namespace Go.Proofs.Ytpkidopnkofccaa
open Go.RowKit Gf
set_option maxRecDepth 100000
/-- Which calls may be asked. -/
def okO (p : Opt) : Prop := p.t.size ≤ 5000 ∧ p.n ≤ 5000 ∧ -5000 ≤ p.n
instance (p : Opt) : Decidable (okO p) := by unfold okO; infer_instance
def fewO (l : List Opt) : Bool := decide (∀ p ∈ l, okO p) && decide (l.length ≤ 30)
theorem fewO_more {l : List Opt} {k : Nat} (hk : k < l.length) (h : ∀ p ∈ l.take k, okO p) (h5 : okO l[k]) : ∀ p ∈ l.take (k + 1), okO p := by
  intro p hp
  rw [List.take_add_one, List.getElem?_eq_getElem hk, List.mem_append] at hp
  rcases hp with hp | hp
  · exact h p hp
  · simp at hp; subst hp; exact h5
set_option maxHeartbeats 1600000 in
theorem tbfew_any {a : Option Addr} {len cap : Nat} {l : List Opt} (w : World) (h : IsE optT w a len l) (hm : len ≤ maxLen) : Calls Try.prog 8 #[.slice a len cap] w fun e w' => e = .returned (.bool (fewO l)) ∧ w = w' := by
  obtain ⟨N, hN⟩ : ∃ N, l.length = N := ⟨_, rfl⟩
  have hll : len = N := by rw [← hN]; exact h.1
  subst hll
  have HN := Lib.hid hN
  have HM := Lib.hid hm
  have HH := Lib.hid h
  clear h hm hN
  go_enter Try.func8, Try.ntmps8
  go_wp2
  go_loop [3] (fun i => ∃ k : Nat, k ≤ len ∧ i = .int .i64 (k : Int) ∧ Hid (∀ p ∈ l.take k, okO p)) (fun i => len - (intOf i).toNat)
  case atStart => exact ⟨0, by omega, rfl, Lib.hid (by simp)⟩
  case round =>
    obtain ⟨k, hk, rfl, hall⟩ := hrel
    by_cases hlt : k < len
    · have hkl : k < l.length := by rw [HN.out]; exact hlt
      obtain ⟨b, off, rfl, hb, hc⟩ := HH.out.get hkl
      have hs4 : w.cell? ⟨b, off + k * 5 + 4, none⟩ = some (.string l[k].t) := by rw [Nat.add_assoc]; exact hc 4 _ rfl
      have hs2 : w.cell? ⟨b, off + k * 5 + 2, none⟩ = some (.int .i64 l[k].n) := by rw [Nat.add_assoc]; exact hc 2 _ rfl
      have HMO := Lib.hid (fewO_more hkl hall.out)
      have HNO := Lib.hid (fun h5 : ¬ okO l[k] => show fewO l = false by
        unfold fewO
        rw [decide_eq_false (fun x => h5 (x _ (List.getElem_mem hkl))), Bool.false_and])
      obtain ⟨P, hP⟩ : ∃ P, l[k] = P := ⟨_, rfl⟩
      rw [hP] at hs4 hs2 HMO HNO
      obtain ⟨p1, p2, n, b1, T⟩ := P
      simp only at hs4 hs2
      unfold okO at HMO HNO
      simp only at HMO HNO
      have hkI : (k : Int) < (len : Int) := by omega
      have hw1 : IntKind.i64.wrap ((k : Int) + 1) = (k : Int) + 1 := by rw [IntKind.wrap_i64]; have := HM.out; unfold maxLen at this; omega
      clear hc hP hkl
      by_cases h5 : T.size ≤ 5000
      · have h5I : ¬ ((5000 : Int) < (T.size : Int)) := by omega
        by_cases h6 : n ≤ 5000
        · have h6I : ¬ ((5000 : Int) < n) := by omega
          by_cases h7 : -5000 ≤ n
          · have h7I : ¬ (n < -5000) := by omega
            have HX := Lib.hid (HMO.out ⟨h5, h6, h7⟩)
            clear HMO HNO
            go_wp2
            go_round
            case rel => exact ⟨k + 1, by omega, by go_num, HX⟩
            case measure => simp [intOf]; omega
          · have h7I : n < -5000 := by omega
            have HE := Lib.hid (HNO.out fun x => h7 x.2.2)
            clear HMO HNO
            go_wp2
            go_ret
            exact ⟨by rw [HE.out]; rfl, rfl⟩
        · have h6I : (5000 : Int) < n := by omega
          have HE := Lib.hid (HNO.out fun x => h6 x.2.1)
          clear HMO HNO
          go_wp2
          go_ret
          exact ⟨by rw [HE.out]; rfl, rfl⟩
      · have h5I : (5000 : Int) < (T.size : Int) := by omega
        have HE := Lib.hid (HNO.out fun x => h5 x.1)
        clear HMO HNO
        go_wp2
        go_ret
        exact ⟨by rw [HE.out]; rfl, rfl⟩
    · have hkI : ¬ ((k : Int) < (len : Int)) := by omega
      have HE := Lib.hid (show fewO l = decide ((len : Int) ≤ 30) by
        have h1 := hall.out
        rw [List.take_of_length_le (by rw [HN.out]; omega)] at h1
        unfold fewO
        rw [decide_eq_true h1, HN.out, Bool.true_and]
        exact decide_eq_decide.2 ⟨fun h => by omega, fun h => by omega⟩)
      go_wp2
      go_ret
      exact ⟨by rw [HE.out]; rfl, rfl⟩
/-- What a call puts. -/
def optB (p : Opt) : ByteArray := if p.t.size = 0 then st (mdT p.n p.b) else p.t
theorem optB_le {p : Opt} (h : okO p) : (optB p).size ≤ 5000 := by
  unfold optB
  split
  · rw [st_size, mdT_length]; have := bdn_le p.n; omega
  · exact h.1
theorem tbbytes_any (p : Opt) (w : World) : Calls Try.prog 18 #[optV p] w fun e w' => e = .returned (.string (optB p)) ∧ Keeps w w' := by
  have HM := Lib.hid (fun W => made_any W p.n p.b W (Keeps.refl W))
  have HB := Lib.hid (show optB p = if p.t.size = 0 then st (mdT p.n p.b) else p.t from rfl)
  obtain ⟨MT, hMT⟩ : ∃ MT, st (mdT p.n p.b) = MT := ⟨_, rfl⟩
  rw [hMT] at HM HB
  obtain ⟨p1, p2, n, b, T⟩ := p
  simp only at HM HB
  obtain ⟨X, hX⟩ : ∃ X, optB ⟨p1, p2, n, b, T⟩ = X := ⟨_, rfl⟩
  rw [hX] at HB ⊢
  have HK := Lib.hid ((Keeps.refl w).alloc (.cells #[.int .i64 p1, .int .i64 p2, .int .i64 n, .int .u8 (b.toNat : Int), .string T] 35))
  clear hMT hX
  by_cases h0 : T.size = 0
  · have HE := Lib.hid (show X = MT by rw [HB.out, if_pos h0])
    have hE : T.toList.isEmpty = true := by rw [ls_toList, List.isEmpty_iff, ← List.length_eq_zero_iff, ← ls_size, h0]
    clear HB h0
    go_enter Try.func18, Try.ntmps18
    go_wp2_with (go_at_call 24; refine (HM.out _).mono ?_; rintro _ w9 ⟨rfl, k9⟩)
    go_ret
    exact ⟨by rw [HE.out]; rfl, HK.out.trans k9⟩
  · have HE := Lib.hid (show X = T by rw [HB.out, if_neg h0])
    have hE : T.toList.isEmpty = false := by rw [ls_toList, List.isEmpty_eq_false_iff, ne_eq, ← List.length_eq_zero_iff, ← ls_size]; exact h0
    clear HB h0
    go_enter Try.func18, Try.ntmps18
    go_wp2
    go_ret
    exact ⟨by rw [HE.out]; rfl, HK.out⟩
/-- So many bytes, one more each. -/
def colT (n : Nat) (b : UInt8) : List UInt8 := (List.range n).map fun i => b + UInt8.ofNat (i % 256)
theorem colT_length (n : Nat) (b : UInt8) : (colT n b).length = n := by simp [colT]
theorem colT_get {n i : Nat} (b : UInt8) (h : i < n) : cf (colT n b) i = b + UInt8.ofNat (i % 256) := tcf_range _ h
theorem col_nat (b : UInt8) (i : Nat) : ((b.toNat : Int) + (i : Int) % 256) % 256 = ((b + UInt8.ofNat (i % 256)).toNat : Int) := by
  rw [UInt8.toNat_add, UInt8.toNat_ofNat_of_lt' (show i % 256 < 256 by omega)]
  omega
def clRel (wA : World) (rb n : Nat) (b : UInt8) (i : Value) (wr : World) : Prop := ∃ (k : Nat) (l : List UInt8), k ≤ n ∧ i = .int .i64 (k : Int) ∧ l.length = n ∧ (∀ j, j < k → cf l j = cf (colT n b) j) ∧ Blk rb l wr ∧ Only rb wA wr
set_option maxHeartbeats 3200000 in
theorem tbcolumn_any (m : Int) (b : UInt8) (w : World) (hm : m ≤ 1000000) : Calls Try.prog 20 #[.int .i64 m, .int .u8 (b.toNat : Int)] w fun e w' => e = .returned (.string (st (colT m.toNat b))) ∧ Keeps w w' := by
  obtain ⟨n, hn⟩ : ∃ n, m.toNat = n := ⟨_, rfl⟩
  have hmx : max 0 m = (n : Int) := by omega
  have hle : n ≤ 1000000 := by omega
  rw [hn]
  have hmk := make8 n hle w
  have hR := Blk.make w n
  have hkA := (Keeps.refl w).alloc (.cells (zr n) 5)
  clear hn hm
  go_enter Try.func20, Try.ntmps20
  go_wp2
  clear hmk hmx
  obtain ⟨rb, hrb⟩ : ∃ rb, w.heap.size = rb := ⟨_, rfl⟩
  obtain ⟨wA, hwA⟩ : ∃ wA, w.alloc (.cells (zr n) 5) = wA := ⟨_, rfl⟩
  rw [hwA, hrb] at hR
  rw [hwA] at hkA
  rw [hwA, hrb]
  have HK := Lib.hid hkA
  have HRB := Lib.hid hrb
  clear hwA hrb hkA
  go_loopw [6] (fun i wr => clRel wA rb n b i wr) (fun i _ => n - (intOf i).toNat)
  case atStart => exact ⟨0, z8 n, by omega, rfl, List.length_replicate, fun j hj => by omega, hR, Only.refl _ _⟩
  case round =>
    obtain ⟨k, l, hk, rfl, hl, hlx, hbk, ho⟩ := hrel
    clear hR
    by_cases hlt : k < n
    · have hcl := hbk.cell k (by omega)
      have hfr := hbk.free k (by omega)
      have hy := col_nat b k
      have HG := Lib.hid (colT_get b hlt)
      obtain ⟨y, hyy⟩ : ∃ y, b + UInt8.ofNat (k % 256) = y := ⟨_, rfl⟩
      rw [hyy] at hy HG
      have HBL := Lib.hid (hbk.set (k := k) (by omega) y)
      have HO := Lib.hid (ho.trans (Only.setCell wr ⟨rb, k, none⟩ (.int .u8 (y.toNat : Int))))
      have HL := Lib.hid hl
      have HLX := Lib.hid hlx
      clear hbk ho hyy hl hlx
      go_wp2
      go_roundw
      case rel =>
        refine ⟨k + 1, l.set k y, by omega, by go_num, by rw [List.length_set]; exact HL.out, fun j hj => ?_, HBL.out, HO.out⟩
        rw [cf_set _ _ _ (by rw [HL.out]; exact hlt)]
        by_cases e : j = k
        · subst e; rw [if_pos rfl, HG.out]
        · rw [if_neg e]; exact HLX.out j (by omega)
      case measure => simp [intOf]; omega
    · obtain rfl : k = n := by omega
      have hE : l = colT k b := list_ext_cf (by rw [hl, colT_length]) fun i hi => hlx i (by omega)
      have hcv := hbk.whole k (n := k) hl.symm
      rw [hE] at hcv
      have HO := Lib.hid (ho.keeps HK.out (by rw [HRB.out]; exact Nat.le_refl _))
      clear hbk ho hlx hl hE
      go_wp2
      go_ret
      exact ⟨rfl, HO.out⟩
theorem outF_mem {T : Tb} (hR : 256 ≤ T.R) : ∀ f a p, p ∈ outF T f a → p.1 + p.2 ≤ 191 * T.R ∧ p.1 ≤ 191 * T.R
  | 0, _, _, h => by cases h
  | f + 1, a, p, h => by
    by_cases hA : a < 191 * T.R
    · by_cases hp : 0 < firstT T a
      · rw [outF_hit hA hp] at h
        rcases List.mem_cons.1 h with rfl | h
        · have h1 := firstT_kle hR a
          have h2 := kn_le T (a := a) (by omega)
          show a + firstT T a ≤ _ ∧ a ≤ _
          omega
        · exact outF_mem hR f _ p h
      · rw [outF_miss hA hp] at h
        exact outF_mem hR f _ p h
    · rw [outF_end (by omega)] at h; cases h
def outRelL (wB : World) (N : Nat) (v : Value) (wr : World) : Prop := ∃ k : Nat, k ≤ N ∧ v = .int .i64 (k : Int) ∧ Eqv wB wr
set_option maxHeartbeats 6400000 in
theorem tbsame_any {S U : Nat → Prop} {p x : Nat} {T : Tb} {w : World} (hP : PtAt S p T w) (hRt : RtAt U x T w) : Calls Try.prog 13 #[.pointer (some ⟨p, 0, none⟩), .pointer (some ⟨x, 0, none⟩)] w fun e w' => e = .returned (.bool true) ∧ Keeps w w' := by
  have hr1 := hP.ok.bd.1
  have hr2 := hP.ok.bd.2
  have HO := Lib.hid (tbout_any hP)
  have HD := Lib.hid (fun (W : World) (k : Keeps w W) => rtout_any (hRt.keeps k))
  have HRT := Lib.hid (fun (W : World) (k : Keeps w W) => hRt.keeps k)
  have HOM := Lib.hid (fun q hq => outF_mem hr1 (191 * T.R) 0 q hq)
  have HLN : Hid ((outT T).length ≤ 195584 + 1) := Lib.hid (by
    have : ∀ f a, (outF T f a).length ≤ f := by
      intro f
      induction f with
      | zero => intro a; exact Nat.le_refl _
      | succ f ih =>
        intro a
        unfold outF
        split
        · exact Nat.zero_le _
        · split
          · rw [List.length_cons]; exact Nat.succ_le_succ (ih _)
          · exact Nat.le_succ_of_le (ih _)
    have := this (191 * T.R) 0
    show (outF T (191 * T.R) 0).length ≤ _
    omega)
  have HTO := Lib.hid (show outF T (191 * T.R) 0 = outT T from rfl)
  rw [HTO.out] at HOM
  unfold ToutPost at HO
  unfold RtOutPost at HD
  have HOS := Lib.hid (show outs T = (outT T).map (mkP T) from rfl)
  obtain ⟨L, hL⟩ : ∃ L, outT T = L := ⟨_, rfl⟩
  rw [hL] at HD HOM HLN HOS
  obtain ⟨N, hN⟩ : ∃ N, L.length = N := ⟨_, rfl⟩
  have hNb : N ≤ 195585 := by rw [← hN]; exact HLN.out
  have HL1 := Lib.hid (show (L.map (mkP T)).length = N by rw [List.length_map, hN])
  have HL2 := Lib.hid (show (L.map fun p => (p.1 : Int)).length = N by rw [List.length_map, hN])
  have HL3 := Lib.hid (show (L.map fun p => (p.2 : Int)).length = N by rw [List.length_map, hN])
  have HN := Lib.hid hN
  clear hL HTO hP hRt hN
  go_enter Try.func13, Try.ntmps13
  go_wp2_with (first | (go_at_call 22; refine HO.out.mono ?_; rintro _ w1 ⟨vl, rfl, ol, k1⟩; rw [HOS.out] at ol; have HOL := Lib.hid ol; have HK1 := Lib.hid k1; clear ol k1) | (go_at_call 31; refine (HD.out _ HK1.out).mono ?_; rintro _ w2 ⟨vp, vn, rfl, op, on, k2⟩; obtain ⟨al, cl, rfl, hl, -⟩ := (HOL.out.keeps k2).is; obtain ⟨ap, cp, rfl, hp, -⟩ := op.is; obtain ⟨an, cn, rfl, hn, -⟩ := on.is; rw [HL1.out] at hl; rw [HL2.out] at hp; rw [HL3.out] at hn; rw [HL1.out, HL2.out, HL3.out]; have HIL := Lib.hid hl; have HIP := Lib.hid hp; have HIN := Lib.hid hn; have HK2 := Lib.hid (HK1.out.trans k2); clear op on k2 hl hp hn))
  go_loopw [8] (fun i wr => outRelL w2 N i wr) (fun i _ => N - (intOf i).toNat)
  case atStart => exact ⟨0, Nat.zero_le _, rfl, Eqv.refl w2⟩
  case round =>
    obtain ⟨k, hk, rfl, hw⟩ := hrel
    have HW := Lib.hid hw
    clear hw
    by_cases hlt : k < N
    · have hkI : (k : Int) < (N : Int) := by omega
      have hkl : k < L.length := by rw [HN.out]; exact hlt
      obtain ⟨lb, lo, rfl, -, hcl⟩ := HIL.out.get (i := k) (by rw [HL1.out]; exact hlt)
      obtain ⟨pb, po, rfl, -, hcp⟩ := HIP.out.get (i := k) (by rw [HL2.out]; exact hlt)
      obtain ⟨nb, no, rfl, -, hcn⟩ := HIN.out.get (i := k) (by rw [HL3.out]; exact hlt)
      have hM := HOM.out _ (List.getElem_mem hkl)
      obtain ⟨⟨A, F⟩, hq⟩ : ∃ q, L[k] = q := ⟨_, rfl⟩
      rw [List.getElem_map, hq] at hcl hcp hcn
      rw [hq] at hM
      simp only at hM
      have e0 : w2.cell? ⟨lb, lo + k * 2, none⟩ = some (.int .i64 (A : Int)) := hcl 0 _ rfl
      have e1 : w2.cell? ⟨lb, lo + k * 2 + 1, none⟩ = some (.string (st (txtT T A F))) := by rw [Nat.add_assoc]; exact hcl 1 _ rfl
      have e2 : w2.cell? ⟨pb, po + k, none⟩ = some (.int .i64 (A : Int)) := by have := hcp 0 _ rfl; simpa [rowN] using this
      have e3 : w2.cell? ⟨nb, no + k, none⟩ = some (.int .i64 (F : Int)) := by have := hcn 0 _ rfl; simpa [rowN] using this
      obtain ⟨bb, bi, bs, hR⟩ := HRT.out w2 HK2.out
      have HCX := Lib.hid (fun (W : World) (e : Eqv wr W) => ((hR.eqv HW.out).eqv e).c.cell 1 rfl)
      have HCV := Lib.hid (fun (W : World) (e : Eqv wr W) => show (convert 40 9 (.slice (some ⟨bb, A, none⟩) F (255 * T.R - A))).run Try.prog W = .ok (.string (st (txtT T A F))) W from
        BlF.text ((hR.eqv HW.out).eqv e).b A F _ (by omega))
      have HE := Lib.hid (fun (W : World) (e : Eqv wr W) (q : Addr) => (HW.out.trans e).cell q)
      obtain ⟨S1, hS⟩ : ∃ S1, st (txtT T A F) = S1 := ⟨_, rfl⟩
      rw [hS] at e1 HCV
      have E := Lib.hid (And.intro e0 (And.intro e1 (And.intro e2 e3)))
      obtain ⟨R, hRR⟩ : ∃ R, T.R = R := ⟨_, rfl⟩
      rw [hRR] at hr1 hr2 hM HCX HCV
      have wr1 := wrapI (a := (A : Int) + (F : Int)) (by omega) (by omega)
      have wr2 := wrapI (a := (k : Int) + 1) (by omega) (by omega)
      have hA1 : (A : Int) ≤ (A : Int) + (F : Int) := by omega
      have hA2 : (A : Int) + (F : Int) ≤ 255 * (R : Int) := by omega
      have hA3 : A + F ≤ 255 * R := by omega
      have hA4 : ¬ (255 * R = A) := by omega
      have hA5 : ((A : Int) + (F : Int)).toNat - A = F := by omega
      have hA6 : ((A : Int) + (F : Int)).toNat = A + F := by omega
      have hA7 : A + F - A = F := by omega
      clear hcl hcp hcn hq hkl e0 e1 e2 e3 hR hS hRR hM
      go_wp2
      refine wp_draw (by kernel_rfl) [.slice (some ⟨lb, lo, none⟩) N cl, .int .i64 (k : Int), .pointer (some ⟨lb, lo + k * 2, none⟩), .pointer (some ⟨lb, lo + k * 2, none⟩), .int .i64 (A : Int), .slice (some ⟨pb, po, none⟩) N cp, .int .i64 (k : Int), .pointer (some ⟨pb, po + k, none⟩), .int .i64 (A : Int), .bool false, .bool false,
          .slice (some ⟨lb, lo, none⟩) N cl, .int .i64 (k : Int), .pointer (some ⟨lb, lo + k * 2, none⟩), .pointer (some ⟨lb, lo + k * 2 + 1, none⟩), .string S1, .pointer (some ⟨x, 0, none⟩), .pointer (some ⟨x, 0, none⟩), .pointer (some ⟨x, 1, none⟩), sl0 bb (255 * R),
          .slice (some ⟨pb, po, none⟩) N cp, .int .i64 (k : Int), .pointer (some ⟨pb, po + k, none⟩), .int .i64 (A : Int), .slice (some ⟨pb, po, none⟩) N cp, .int .i64 (k : Int), .pointer (some ⟨pb, po + k, none⟩), .int .i64 (A : Int),
          .slice (some ⟨nb, no, none⟩) N cn, .int .i64 (k : Int), .pointer (some ⟨nb, no + k, none⟩), .int .i64 (F : Int), .int .i64 ((A : Int) + (F : Int)), .slice (some ⟨bb, A, none⟩) F (255 * R - A), .string S1, .bool false, .bool false]
        (fun _ W => Eqv wr W) rfl (by kernel_rfl) (fin := ?fin0) ?hfin0 (Eqv.drew wr) ?each0 ?hend0
      case hfin0 => simp [seqA, dstOf, Act.put]; rfl
      case each0 =>
        refine ⟨?_, ?_, ?_, ?_, ?_, ?_, ?_, ?_, ?_, ?_, ?_, ?_, ?_, ?_, ?_, ?_, ?_, ?_, ?_, ?_, ?_, ?_, ?_, ?_, ?_, ?_, ?_, ?_, ?_, ?_, ?_, ?_, ?_, ?_, ?_, ?_, ?_, trivial⟩
        all_goals try rw [if_pos (by rfl)]
        all_goals intro L w5 h0 hd hs hw
        all_goals try rw [if_pos (by rfl)]
        all_goals unfold Does
        all_goals have d0 := (HE.out w5 hw _).trans E.out.1
        all_goals have d1 := (HE.out w5 hw _).trans E.out.2.1
        all_goals have d2 := (HE.out w5 hw _).trans E.out.2.2.1
        all_goals have d3 := (HE.out w5 hw _).trans E.out.2.2.2
        all_goals have d4 := HCX.out w5 hw
        all_goals have d5 := HCV.out w5 hw
        all_goals go_simp
        all_goals first | exact fun L' k => hw
      case hend0 =>
      intro L w5 hL hw
      have HW5 := Lib.hid (HW.out.trans hw)
      clear hL hw
      go_wp2
      go_roundw
      case rel => exact ⟨k + 1, by omega, by go_num, HW5.out⟩
      case measure => simp [intOf]; omega
    · obtain rfl : k = N := by omega
      have hkI : ¬ ((k : Int) < (k : Int)) := by omega
      go_wp2
      go_ret
      exact ⟨rfl, HK2.out.eqv HW.out⟩
/-- The chapter's example. -/
def yD : List UInt8 := mdT 280 1
theorem yD_length : yD.length = 300 := mdT_length 280 1
def yT1 : Tb := putT (tb0 256) 0 yD
def yT2 : Tb := padT yT1 189
theorem yT1_ok : yT1.Ok := putT_ok (tb0_ok (by unfold okR; decide)) (by rw [yD_length]; show 0 + 300 ≤ 191 * 256; decide)
theorem yT2_ok : yT2.Ok := padT_ok yT1_ok 189
theorem y_is (n : Nat) : yT2.Is n = (decide (512 ≤ n ∧ n < 48896) || decide (n < 300)) := by
  show (decide ((191 - 189) * 256 ≤ n ∧ n < 191 * 256) || (decide (0 ≤ n ∧ n < 0 + yD.length) || false)) = _
  rw [yD_length, Bool.or_false]
  congr 1
  exact decide_eq_decide.2 ⟨fun x => by omega, fun x => by omega⟩
theorem y_lost0 : lostT yT2 0 = 64 := by
  show (List.range 255).countP (fun c => !yT2.Is (c * 256 + 0)) = 64
  rw [List.countP_congr (q := fun c => !(decide (512 ≤ c * 256 + 0 ∧ c * 256 + 0 < 48896) || decide (c * 256 + 0 < 300))) (fun c _ => by rw [y_is])]
  kernel_rfl
theorem y_lost44 : lostT yT2 44 = 65 := by
  show (List.range 255).countP (fun c => !yT2.Is (c * 256 + 44)) = 65
  rw [List.countP_congr (q := fun c => !(decide (512 ≤ c * 256 + 44 ∧ c * 256 + 44 < 48896) || decide (c * 256 + 44 < 300))) (fun c _ => by rw [y_is])]
  kernel_rfl
theorem y_b {n : Nat} (h : n < 300) : yT2.B n = cf yD n := by
  show (if 0 ≤ n ∧ n < 0 + yD.length then cf yD (n - 0) else 0) = _
  rw [yD_length, if_pos (by omega), Nat.sub_zero]
theorem y_r : 191 * yT2.R = 48896 := rfl
theorem y_first0 : firstT yT2 0 = 300 := by
  have h1 := knT_is yT2 4080 0
  have h2 := knT_stop yT2 4080 0
  have hK : knT yT2 0 4080 = 300 := by
    rcases Nat.lt_trichotomy (knT yT2 0 4080) 300 with x | x | x
    · exfalso
      refine h2 (by omega) ⟨by rw [y_r]; omega, ?_⟩
      rw [y_is, decide_eq_true (show 0 + knT yT2 0 4080 < 300 by omega), Bool.or_true]
    · exact x
    · exfalso
      have := (h1 300 x).2
      rw [y_is] at this
      revert this; decide
  unfold firstT
  rw [hK]
  have hT : txtT yT2 0 300 = yD := list_ext_cf (by rw [txtT_length, yD_length]) fun i hi => by
    rw [txtT_length] at hi
    rw [txtT_get _ _ hi, Nat.zero_add, y_b hi]
  rw [hT]
  obtain ⟨h3, h4⟩ := Dg.check_ok (mdT_check 280 1)
  have h5 : Dg.check yD = 0 := mdT_check 280 1
  have h6 : (yD.length : Int) = (Dg.peek yD).1.l := h4
  have h7 : (Dg.peek yD).2 = 0 := h3
  rw [yD_length] at h6
  have h8 : (Dg.peek yD).1.l.toNat = 300 := by omega
  unfold firstL
  rw [h8, List.take_of_length_le (by rw [yD_length]; exact Nat.le_refl _), yD_length, if_neg]
  rintro (x | x | x)
  · exact x h7
  · omega
  · exact x h5
theorem y_txt : txtT yT2 0 300 = yD := list_ext_cf (by rw [txtT_length, yD_length]) fun i hi => by
    rw [txtT_length] at hi
    rw [txtT_get _ _ hi, Nat.zero_add, y_b hi]
theorem y_st (n : Nat) : yT2.St n = ((decide (n = 0) && decide (0 < yD.length)) || false) := rfl
theorem y_outs : outs yT2 = [((0 : Nat), 300)].map (mkP yT2) := by
  have e1 : outT yT2 = [(0, 300)] := by
    show outF yT2 (48895 + 1) 0 = _
    rw [outF_hit (by rw [y_r]; omega) (by rw [y_first0]; omega), y_first0]
    show (0, 300) :: outF yT2 (48894 + 1) (0 + 300) = (0, 300) :: []
    refine congrArg (List.cons _) ?_
    have h0 : firstT yT2 (0 + 300) = 0 := by
      have h1 := knT_is yT2 4080 (0 + 300) 0
      have hK : knT yT2 (0 + 300) 4080 = 0 := by
        refine Classical.byContradiction fun x => ?_
        have := (h1 (by omega)).2
        rw [y_is] at this
        revert this; decide
      have := firstT_le yT2 (0 + 300)
      omega
    rw [outF_miss (by rw [y_r]; omega) (by omega)]
    refine outF_end ?_
    have hs := nx_stop yT2 (0 + 300 + 1)
    refine Classical.byContradiction fun x => hs.2 ⟨by omega, ?_⟩
    obtain ⟨m, hm⟩ : ∃ m, nx yT2 (0 + 300 + 1) = m := ⟨_, rfl⟩
    rw [hm] at hs ⊢
    rw [y_st, decide_eq_false (by omega), Bool.false_and, Bool.or_false]
  show (outT yT2).map (mkP yT2) = _
  rw [e1]
/-- A table, made since w0. -/
structure OwnTb (w0 : World) (p : Nat) (T : Tb) (S : Nat → Prop) (W : World) : Prop where
  f : PtAt S p T W
  k : Keeps w0 W
  n : ∀ b, S b → w0.heap.size ≤ b
theorem OwnTb.keeps {w0 : World} {p : Nat} {T : Tb} {S : Nat → Prop} {W W' : World} (h : OwnTb w0 p T S W) (k : Keeps W W') : OwnTb w0 p T S W' := ⟨h.f.keeps k, h.k.trans k, h.n⟩
theorem OwnTb.goes {w0 : World} {p : Nat} {T T' : Tb} {S : Nat → Prop} {W W' : World} (h : OwnTb w0 p T S W) (hf : PtAt S p T' W') (k : Foot S W W') : OwnTb w0 p T' S W' := ⟨hf, k.keeps h.k h.n, h.n⟩
set_option maxHeartbeats 6400000 in
theorem awake13_any (w0 : World) (w : World) (hk : Keeps w0 w) : Calls Try.prog 7 #[] w fun e w' => e = .returned (.bool true) ∧ Keeps w0 w' := by
  have HNW := Lib.hid (fun W => show Calls Try.prog 5 #[.int .i64 256] W fun e w' => ∃ x rb, e = .returned (.tuple #[.pointer (some ⟨x, 0, none⟩), .int .i64 0]) ∧ PtAt (fun k => k = x ∨ k = rb) x (tb0 256) w' ∧ Keeps W w' ∧ W.heap.size ≤ x ∧ W.heap.size ≤ rb from tbnew_ok (r := 256) (by unfold okR; decide) W)
  have HMD := Lib.hid (fun W => show Calls Try.prog 24 #[.int .i64 280, .int .u8 1] W fun e w' => e = .returned (.string (st yD)) ∧ Keeps W w' from made_any W 280 1 W (Keeps.refl W))
  have HPT := Lib.hid (fun (S : Nat → Prop) (p : Nat) (W : World) (h : PtAt S p (tb0 256) W) => show Calls Try.prog 17 #[.pointer (some ⟨p, 0, none⟩), .int .i64 0, .string (st yD)] W fun e w' => e = .returned (.int .i64 0) ∧ PtAt S p yT1 w' ∧ Foot S W w' from by
    have := tbput_ok h 0 (st yD) (by rw [st_size, yD_length]; show 0 + 300 ≤ 191 * 256; decide)
    rw [ls_st] at this; exact this)
  have HPD := Lib.hid (fun (S : Nat → Prop) (p : Nat) (W : World) (h : PtAt S p yT1 W) => show Calls Try.prog 21 #[.pointer (some ⟨p, 0, none⟩), .int .i64 189] W fun e w' => e = .returned (.int .i64 0) ∧ PtAt S p yT2 w' ∧ Foot S W w' from tbpad_ok h (k := 189) (by decide))
  have HL0 := Lib.hid (fun (S : Nat → Prop) (p : Nat) (W : World) (h : PtAt S p yT2 W) => show Calls Try.prog 12 #[.pointer (some ⟨p, 0, none⟩), .int .i64 0] W fun e w' => e = .returned (.tuple #[.int .i64 64, .int .i64 0]) ∧ Keeps W w' from by
    have := tblost_ok h (n := 0) (by show 0 < 256; decide)
    rw [y_lost0] at this; exact this)
  have HL4 := Lib.hid (fun (S : Nat → Prop) (p : Nat) (W : World) (h : PtAt S p yT2 W) => show Calls Try.prog 12 #[.pointer (some ⟨p, 0, none⟩), .int .i64 44] W fun e w' => e = .returned (.tuple #[.int .i64 65, .int .i64 0]) ∧ Keeps W w' from by
    have := tblost_ok h (n := 44) (by show 44 < 256; decide)
    rw [y_lost44] at this; exact this)
  have HOU := Lib.hid (fun (S : Nat → Prop) (p : Nat) (W : World) (h : PtAt S p yT2 W) => show Calls Try.prog 22 #[.pointer (some ⟨p, 0, none⟩)] W fun e w' => (∃ b off cap, e = .returned (.slice (some ⟨b, off, none⟩) 1 cap) ∧ w'.cell? ⟨b, off + 1, none⟩ = some (.string (st yD)) ∧ b < w'.heap.size) ∧ Keeps W w' from by
    refine (tbout_any h).mono ?_
    rintro _ w' ⟨v, rfl, ho, hkk⟩
    rw [y_outs] at ho
    obtain ⟨a, cap, rfl, hI, -⟩ := ho.is
    obtain ⟨b, off, rfl, hb, hc⟩ := hI.get (i := 0) (by simp)
    refine ⟨⟨b, off, cap, rfl, ?_, hb⟩, hkk⟩
    have := hc 1 (.string (st (txtT yT2 0 300))) rfl
    rw [y_txt] at this
    simpa [tplT] using this)
  have HK := Lib.hid hk
  obtain ⟨MT, hMT⟩ : ∃ MT, st yD = MT := ⟨_, rfl⟩
  rw [hMT] at HMD HPT HOU
  clear hMT hk
  go_enter Try.func7, Try.ntmps7
  go_wp2_with (first | (go_at_call 5; refine (HNW.out _).mono ?_; rintro _ w1 ⟨p, rb, rfl, hat, k1, hp, hrb⟩; have H1 := Lib.hid (show OwnTb w0 p (tb0 256) (fun k => k = p ∨ k = rb) w1 from ⟨hat, HK.out.trans k1, fun b hb => by have := Below.size HK.out; rcases hb with rfl | rfl <;> omega⟩); clear hat k1 hp hrb) | (go_at_call 24; refine (HMD.out _).mono ?_; rintro _ w2 ⟨rfl, k2⟩; have H2 := Lib.hid (H1.out.keeps k2); clear k2) | (go_at_call 17; refine (HPT.out _ _ _ H2.out.f).mono ?_; rintro _ w3 ⟨rfl, h3, f3⟩; have H3 := Lib.hid (H2.out.goes h3 f3); clear h3 f3) | (go_at_call 21; refine (HPD.out _ _ _ H3.out.f).mono ?_; rintro _ w4 ⟨rfl, h4, f4⟩; have H4 := Lib.hid (H3.out.goes h4 f4); have tok1 : True := trivial; clear h4 f4) | (go_at_call 12; have _t := tok1; refine (HL0.out _ _ _ H4.out.f).mono ?_; rintro _ w5 ⟨rfl, k5⟩; have H5 := Lib.hid (H4.out.keeps k5); have tok2 : True := trivial; clear k5 tok1 _t) | (go_at_call 12; have _t := tok2; refine (HL4.out _ _ _ H5.out.f).mono ?_; rintro _ w6 ⟨rfl, k6⟩; have H6 := Lib.hid (H5.out.keeps k6); clear k6 tok2 _t) | (go_at_call 22; refine (HOU.out _ _ _ H6.out.f).mono ?_; rintro _ w7 ⟨⟨ob, oo, oc, rfl, hc, hob⟩, k7⟩; have HC := Lib.hid hc; have HOB := Lib.hid hob; have HK7 := Lib.hid (H6.out.k.trans k7); clear hc hob k7))
  refine wp_draw (by kernel_rfl) [.int .i64 0, .bool true, .bool true, .int .i64 0, .bool true, .bool true, .bool true, .int .i64 64, .bool true, .bool true, .bool true, .int .i64 0, .bool true, .bool true, .bool true, .int .i64 65, .bool true, .bool true, .bool true, .int .i64 0, .bool true, .bool true, .bool true, .slice (some ⟨ob, oo, none⟩) 1 oc, .int .i64 1, .bool true, .bool true, .bool true, .slice (some ⟨ob, oo, none⟩) 1 oc, .pointer (some ⟨ob, oo, none⟩), .pointer (some ⟨ob, oo + 1, none⟩), .string MT, .string MT, .bool true, .bool true, .bool true]
    (fun _ W => Keeps w7 W) rfl (by kernel_rfl) (fin := ?fin0) ?hfin0 ((Keeps.refl w7).eqv (Eqv.drew w7)) ?each0 ?hend0
  case hfin0 => simp [seqA, dstOf, Act.put]; rfl
  case each0 =>
    refine ⟨?_, ?_, ?_, ?_, ?_, ?_, ?_, ?_, ?_, ?_, ?_, ?_, ?_, ?_, ?_, ?_, ?_, ?_, ?_, ?_, ?_, ?_, ?_, ?_, ?_, ?_, ?_, ?_, ?_, ?_, ?_, ?_, ?_, ?_, ?_, ?_, trivial⟩
    all_goals try rw [if_pos (by rfl)]
    all_goals intro L w8 h0 hd hs hw
    all_goals try rw [if_pos (by rfl)]
    all_goals unfold Does
    all_goals have d1 := (Below.cell hw (p := ⟨ob, oo + 1, none⟩) HOB.out).trans HC.out
    all_goals go_simp
    all_goals first | exact fun L' k => hw | ((with_reducible refine (HMD.out w8).mono ?_); rintro _ w9 ⟨rfl, k9⟩; exact ⟨_, rfl, rfl, fun _ _ => hw.trans k9⟩)
  case hend0 =>
  intro L w8 hL hw
  have HW8 := Lib.hid (HK7.out.trans hw)
  clear hL hw
  go_wp2
  go_ret
  exact ⟨rfl, HW8.out⟩
theorem tbmend_nil (w : World) : Calls Try.prog 15 #[.pointer none] w fun e w' => e = .returned (.tuple #[.int .i64 0, .int .i64 0]) ∧ w = w' := by
  go_enter Try.func15, Try.ntmps15
  go_wp2
  go_ret2
  exact ⟨rfl, rfl⟩
end Go.Proofs.Ytpkidopnkofccaa
