/-
  The small functions of package fec: beyond, bit, isColumn, carrier, fixed, and what Check and Encode answer. The memory that was there stays.
-/
import Derived.Test.YtdpgphidielajaaFeV
import Derived.Test.YtdpgphidielajaaTmD
import Derived.Test.YtdpgphidielajaaShelf
namespace Go.Proofs.Ytdpgphidielajaa
open Go.RowKit Gf Tm Sct Mpe Fec
set_option maxRecDepth 100000
theorem febeyond_any (n last : Int) (b : Bool) (h : (decide (n < 0) || decide (last < n)) = b) (w : World) :
    Calls Try.prog 23 #[.int .i64 n, .int .i64 last] w fun e w' => e = .returned (.bool b) ∧ w = w' := by
  by_cases h1 : n < 0
  · have : b = true := by rw [← h, decide_eq_true h1]; rfl
    subst this
    clear h
    go_enter Try.func23, Try.ntmps23
    go_wp2
    go_ret
    exact ⟨rfl, rfl⟩
  · by_cases h2 : last < n
    · have : b = true := by rw [← h, decide_eq_true h2, Bool.or_true]
      subst this
      clear h
      go_enter Try.func23, Try.ntmps23
      go_wp2
      go_ret
      exact ⟨rfl, rfl⟩
    · have : b = false := by rw [← h, decide_eq_false h1, decide_eq_false h2]; rfl
      subst this
      clear h
      go_enter Try.func23, Try.ntmps23
      go_wp2
      go_ret
      exact ⟨rfl, rfl⟩
theorem febit_any (b : Bool) (w : World) : Calls Try.prog 47 #[.bool b] w fun e w' => e = .returned (.int .i64 (bn b : Int)) ∧ w = w' := by
  cases b
  all_goals
    go_enter Try.func47, Try.ntmps47
    go_wp2
    go_ret
    exact ⟨rfl, rfl⟩
/-- The lengths that a column may have. -/
abbrev rowsC : List Value := [.int .i64 256, .int .i64 512, .int .i64 768, .int .i64 1024]
theorem rows_get {k : Nat} (h : k < 4) : rowsC[k]? = some (.int .i64 (((k : Int) + 1) * 256)) := by
  have : k = 0 ∨ k = 1 ∨ k = 2 ∨ k = 3 := by omega
  rcases this with rfl | rfl | rfl | rfl <;> rfl
def FixPost (w : World) (n : Nat) (e : Ending) (w' : World) : Prop := ∃ i : Int, e = .returned (.int .i64 i) ∧ (0 ≤ i ↔ okZ n) ∧ -1 ≤ i ∧ i ≤ 4 ∧ w = w'
def rowRel (n : Nat) (i : Value) : Prop := ∃ k : Nat, k ≤ 4 ∧ i = .int .i64 (k : Nat) ∧ ∀ j, j < k → (j + 1) * 256 ≠ n
set_option maxHeartbeats 1600000 in
theorem feindex_any (b : Nat) (n : Nat) (w : World) (hn : n ≤ 1000000000) (hr : CsAt b rowsC w) :
    Calls Try.prog 57 #[.slice (some ⟨b, 0, none⟩) 4 4, .int .i64 (n : Int)] w (FixPost w n) := by
  have HR := Lib.hid hr
  clear hr
  go_enter Try.func57, Try.ntmps57
  go_wp2
  go_loop [8] (fun i => rowRel n i) (fun i => 4 - (intOf i).toNat)
  case atStart => exact ⟨0, Nat.zero_le _, rfl, (fun i hi => by cases hi)⟩
  case round =>
    obtain ⟨k, hk, rfl, hne⟩ := hrel
    have HNE := Lib.hid hne
    clear hne
    by_cases hlt : k < 4
    · have hck := HR.out.cell k (rows_get hlt)
      obtain ⟨x, hx⟩ : ∃ x : Int, ((k : Int) + 1) * 256 = x := ⟨_, rfl⟩
      rw [hx] at hck
      have HX := Lib.hid hx
      have hkl : (k : Int) < 4 := by omega
      clear hx
      by_cases e : (n : Int) = x
      · have HZ := Lib.hid (show okZ n by have := HX.out; unfold okZ; omega)
        have hxn : ((n : Int) == x) = true := by simpa using e
        clear e
        go_wp2
        go_ret
        exact ⟨(k : Int), rfl, ⟨fun _ => HZ.out, fun _ => by omega⟩, by omega, by omega, rfl⟩
      · have hxn : ((n : Int) == x) = false := by simpa using e
        have HE := Lib.hid e
        clear e
        go_wp2
        go_round
        case rel =>
          refine ⟨k + 1, by omega, by go_num, fun m hm => ?_⟩
          by_cases em : m = k
          · subst em; have := HX.out; have := HE.out; omega
          · exact HNE.out m (by omega)
        case measure => simp [intOf]; omega
    · have HZ := Lib.hid (show ¬ okZ n from fun h => by
        obtain rfl : k = 4 := by omega
        have h0 := HNE.out 0 (by omega)
        have h1 := HNE.out 1 (by omega)
        have h2 := HNE.out 2 (by omega)
        have h3 := HNE.out 3 (by omega)
        unfold okZ at h
        omega)
      have hkl : (4 : Int) ≤ (k : Int) := by omega
      go_wp2
      go_ret
      exact ⟨-1, rfl, ⟨fun h => by omega, fun h => absurd h HZ.out⟩, by omega, by omega, rfl⟩
set_option maxHeartbeats 400000 in
theorem fecontains_any (b : Nat) (n : Nat) (w : World) (hn : n ≤ 1000000000) (hr : CsAt b rowsC w) :
    Calls Try.prog 41 #[.slice (some ⟨b, 0, none⟩) 4 4, .int .i64 (n : Int)] w fun e w' => e = .returned (.bool (decide (okZ n))) ∧ w = w' := by
  have H := Lib.hid (feindex_any b n w hn hr)
  go_enter Try.func41, Try.ntmps41
  go_wp2_with (go_at_call 57; refine H.out.mono ?_; rintro e w1 ⟨i, rfl, hi, h0, h1, rfl⟩; have HZ := Lib.hid (show decide (okZ n) = decide (0 ≤ i) from decide_eq_decide.2 hi.symm); clear hi)
  go_ret
  rw [HZ.out]
  exact ⟨rfl, rfl⟩
set_option maxHeartbeats 1600000 in
theorem fecolumn_any (s : ByteArray) (w : World) (hs : s.size ≤ 1000000000) : Calls Try.prog 25 #[.string s] w fun e w' => e = .returned (.bool (decide (okZ s.size))) ∧ Keeps w w' := by
  obtain ⟨b, hb⟩ : ∃ b, w.heap.size = b := ⟨_, rfl⟩
  obtain ⟨wA, hA⟩ : ∃ wA, w.alloc (.cells #[.int .i64 256, .int .i64 512, .int .i64 768, .int .i64 1024] 61) = wA := ⟨_, rfl⟩
  have HC := Lib.hid (show CsAt b rowsC wA by rw [← hb, ← hA]; exact CsAt.made w #[.int .i64 256, .int .i64 512, .int .i64 768, .int .i64 1024] _ (by simp))
  have HK := Lib.hid (show Keeps w wA by rw [← hA]; exact (Keeps.refl w).alloc _)
  have H := Lib.hid (fecontains_any b s.size wA hs HC.out)
  go_enter Try.func25, Try.ntmps25
  go_wp2_with (go_at_call 41; refine H.out.mono ?_; rintro _ w1 ⟨rfl, rfl⟩)
  go_ret
  exact ⟨rfl, HK.out⟩
/-- The section of a part, with any body. -/
def carF (p : Fpt) (B : ByteArray) : Sec := ⟨120, true, p.pad * 256 + 255, 31, true, p.num, p.la, B⟩
theorem carF_sF (p : Fpt) : carF p (st (bod p.tm (ls p.txt))) = sF p := rfl
set_option maxHeartbeats 1600000 in
theorem fecarrier_any (p : Fpt) (B : ByteArray) (w : World) (hp : 0 ≤ p.pad ∧ p.pad ≤ 191) : Calls Try.prog 22 #[feV p, .string B] w fun e w' => e = .returned (secV (carF p B)) ∧ Keeps w w' := by
  obtain ⟨b, hb⟩ : ∃ b, w.heap.size = b := ⟨_, rfl⟩
  obtain ⟨pad, num, la, ⟨dt, tb, fr, ad⟩, txt⟩ := p
  simp only at hp
  obtain ⟨y, hy⟩ : ∃ y, pad * 256 = y := ⟨_, rfl⟩
  have wr0 := wrapI (a := y) (by omega) (by omega)
  have hj : bits .or .i64 y 255 = y + 255 := i64_join 8 (by omega) (by omega) (by decide) (by decide) (by decide) (by omega)
  have HY := Lib.hid (show carF ⟨pad, num, la, ⟨dt, tb, fr, ad⟩, txt⟩ B = ⟨120, true, y + 255, 31, true, num, la, B⟩ by rw [← hy]; rfl)
  rw [HY.out]
  go_enter Try.func22, Try.ntmps22
  go_wp2
  have E := SecAt.made (w.alloc (.cells #[.int .i64 pad, .int .i64 num, .int .i64 la, .int .i64 dt, .bool tb, .bool fr, .int .i64 ad, .string txt] 25)) ⟨120, true, y + 255, 31, true, num, la, B⟩ 52
  refine cs_ret Try.results22 (lvS E) ?_ rfl ⟨rfl, ((Keeps.refl w).alloc _).alloc _⟩
  rw [World.size_alloc, hb]; rfl
def FckPost (w0 : World) (p : Fpt) (e : Ending) (w' : World) : Prop := e = .returned (.int .i64 (ckF p)) ∧ Keeps w0 w'
theorem FckPost.of {w0 W : World} {p : Fpt} {n : Int} (e : ckF p = n) (k : Keeps w0 W) : FckPost w0 p (.returned (.int .i64 n)) W := ⟨by rw [e], k⟩
theorem bey_no {n l : Int} (h : ¬ (0 ≤ n ∧ n ≤ l)) : (decide (n < 0) || decide (l < n)) = true := by
  by_cases k : n < 0
  · rw [decide_eq_true k]; rfl
  · rw [decide_eq_true (show l < n by omega), Bool.or_true]
theorem bey_ok {n l : Int} (h : 0 ≤ n ∧ n ≤ l) : (decide (n < 0) || decide (l < n)) = false := by rw [decide_eq_false (by omega), decide_eq_false (by omega)]; rfl
set_option maxHeartbeats 1600000 in
theorem fecheck_any (w0 : World) (p : Fpt) (w : World) (hs : p.txt.size ≤ 1000000000) (hk : Keeps w0 w) : Calls Try.prog 12 #[feV p] w (FckPost w0 p) := by
  obtain ⟨b, hb⟩ : ∃ b, w.heap.size = b := ⟨_, rfl⟩
  have HA := Lib.hid (show CsAt b (feC p) (w.alloc (.cells #[.int .i64 p.pad, .int .i64 p.num, .int .i64 p.la, .int .i64 p.tm.dt, .bool p.tm.tb, .bool p.tm.fr, .int .i64 p.tm.ad, .string p.txt] 25)) by
    rw [← hb]; exact CsAt.made w #[.int .i64 p.pad, .int .i64 p.num, .int .i64 p.la, .int .i64 p.tm.dt, .bool p.tm.tb, .bool p.tm.fr, .int .i64 p.tm.ad, .string p.txt] _ (by simp))
  have HK := Lib.hid hk
  have HT := Lib.hid (fun W => tmcheck_any W p.tm W (Keeps.refl W))
  unfold TckPost at HT
  have HO := Lib.hid (fun W => fecolumn_any p.txt W hs)
  have HC := Lib.hid (fun n W => FckPost.of (w0 := w0) (p := p) (n := n) (W := W))
  by_cases h0 : 0 ≤ p.pad ∧ p.pad ≤ 191
  · have H0 := Lib.hid (febeyond_any p.pad 191 false (bey_ok h0))
    by_cases h1 : 0 ≤ p.la ∧ p.la ≤ 63
    · have H1 := Lib.hid (febeyond_any p.la 63 false (bey_ok h1))
      by_cases h2 : 0 ≤ p.num ∧ p.num ≤ p.la
      · have H2 := Lib.hid (febeyond_any p.num p.la false (bey_ok h2))
        by_cases h3 : okT p.tm
        · rw [ckT_ok h3] at HT
          by_cases h4 : okZ p.txt.size
          · have HE := Lib.hid (ckF_ok (p := p) ⟨⟨h0, h1, h2⟩, h3⟩ h4)
            rw [decide_eq_true h4] at HO
            obtain ⟨pad, num, la, ⟨dt, tb, fr, ad⟩, txt⟩ := p
            simp only at HA HE H0 H1 H2 HT HO
            clear hs hk h0 h1 h2 h3 h4
            go_enter Try.func12, Try.ntmps12
            go_wp2_with (first | (go_at_call 23; (first | with_reducible refine (H0.out _).mono ?_ | with_reducible refine (H1.out _).mono ?_ | with_reducible refine (H2.out _).mono ?_); rintro _ _ ⟨rfl, rfl⟩) | (go_at_call 24; refine (HT.out _).mono ?_; rintro _ w2 ⟨rfl, k2⟩; have q7 := (HA.out.keeps k2).cell 7 rfl; have HK2 := Lib.hid ((HK.out.alloc _).trans k2); clear k2) | (go_at_call 25; refine (HO.out _).mono ?_; rintro _ w3 ⟨rfl, k3⟩; have HK3 := Lib.hid (HK2.out.trans k3); clear k3))
            go_ret
            exact HC.out _ _ HE.out HK3.out
          · have HE := Lib.hid (ckF_form (p := p) ⟨⟨h0, h1, h2⟩, h3⟩ h4)
            rw [decide_eq_false h4] at HO
            obtain ⟨pad, num, la, ⟨dt, tb, fr, ad⟩, txt⟩ := p
            simp only at HA HE H0 H1 H2 HT HO
            clear hs hk h0 h1 h2 h3 h4
            go_enter Try.func12, Try.ntmps12
            go_wp2_with (first | (go_at_call 23; (first | with_reducible refine (H0.out _).mono ?_ | with_reducible refine (H1.out _).mono ?_ | with_reducible refine (H2.out _).mono ?_); rintro _ _ ⟨rfl, rfl⟩) | (go_at_call 24; refine (HT.out _).mono ?_; rintro _ w2 ⟨rfl, k2⟩; have q7 := (HA.out.keeps k2).cell 7 rfl; have HK2 := Lib.hid ((HK.out.alloc _).trans k2); clear k2) | (go_at_call 25; refine (HO.out _).mono ?_; rintro _ w3 ⟨rfl, k3⟩; have HK3 := Lib.hid (HK2.out.trans k3); clear k3))
            go_ret
            exact HC.out _ _ HE.out HK3.out
        · have HE := Lib.hid (ckF_no (p := p) fun x => h3 x.2)
          rw [ckT_no h3] at HT
          obtain ⟨pad, num, la, ⟨dt, tb, fr, ad⟩, txt⟩ := p
          simp only at HA HE H0 H1 H2 HT
          clear hs hk HO h0 h1 h2 h3
          go_enter Try.func12, Try.ntmps12
          go_wp2_with (first | (go_at_call 23; (first | with_reducible refine (H0.out _).mono ?_ | with_reducible refine (H1.out _).mono ?_ | with_reducible refine (H2.out _).mono ?_); rintro _ _ ⟨rfl, rfl⟩) | (go_at_call 24; refine (HT.out _).mono ?_; rintro _ w2 ⟨rfl, k2⟩; have q7 := (HA.out.keeps k2).cell 7 rfl; have HK2 := Lib.hid ((HK.out.alloc _).trans k2); clear k2))
          go_ret
          exact HC.out _ _ HE.out HK2.out
      · have HE := Lib.hid (ckF_no (p := p) fun x => h2 x.1.2.2)
        have H2 := Lib.hid (febeyond_any p.num p.la true (bey_no h2))
        obtain ⟨pad, num, la, ⟨dt, tb, fr, ad⟩, txt⟩ := p
        simp only at HA HE H0 H1 H2
        clear hs hk HT HO h0 h1 h2
        go_enter Try.func12, Try.ntmps12
        go_wp2_with (first | (go_at_call 23; (first | with_reducible refine (H0.out _).mono ?_ | with_reducible refine (H1.out _).mono ?_ | with_reducible refine (H2.out _).mono ?_); rintro _ _ ⟨rfl, rfl⟩))
        go_ret
        exact HC.out _ _ HE.out (HK.out.alloc _)
    · have HE := Lib.hid (ckF_no (p := p) fun x => h1 x.1.2.1)
      have H1 := Lib.hid (febeyond_any p.la 63 true (bey_no h1))
      obtain ⟨pad, num, la, ⟨dt, tb, fr, ad⟩, txt⟩ := p
      simp only at HA HE H0 H1
      clear hs hk HT HO h0 h1
      go_enter Try.func12, Try.ntmps12
      go_wp2_with (first | (go_at_call 23; (first | with_reducible refine (H0.out _).mono ?_ | with_reducible refine (H1.out _).mono ?_); rintro _ _ ⟨rfl, rfl⟩))
      go_ret
      exact HC.out _ _ HE.out (HK.out.alloc _)
  · have HE := Lib.hid (ckF_no (p := p) fun x => h0 x.1.1)
    have H0 := Lib.hid (febeyond_any p.pad 191 true (bey_no h0))
    obtain ⟨pad, num, la, ⟨dt, tb, fr, ad⟩, txt⟩ := p
    simp only at HA HE H0
    clear hs hk HT HO h0
    go_enter Try.func12, Try.ntmps12
    go_wp2_with (first | (go_at_call 23; (first | with_reducible refine (H0.out _).mono ?_); rintro _ _ ⟨rfl, rfl⟩))
    go_ret
    exact HC.out _ _ HE.out (HK.out.alloc _)
def FecPost (w0 : World) (p : Fpt) (e : Ending) (w' : World) : Prop := e = .returned (.tuple #[.string (st (ecF p).1), .int .i64 (ecF p).2]) ∧ Keeps w0 w'
theorem FecPost.of {w0 W : World} {p : Fpt} {l : List UInt8} {n : Int} {t : ByteArray} (e : ecF p = (l, n)) (ht : t = st l) (k : Keeps w0 W) : FecPost w0 p (.returned (.tuple #[.string t, .int .i64 n])) W := by unfold FecPost; rw [e, ht]; exact ⟨rfl, k⟩
set_option maxHeartbeats 1600000 in
theorem feencode_any (w0 : World) (p : Fpt) (w : World) (hs : p.txt.size ≤ 1000000000) (hk : Keeps w0 w) : Calls Try.prog 11 #[feV p] w (FecPost w0 p) := by
  obtain ⟨b, hb⟩ : ∃ b, w.heap.size = b := ⟨_, rfl⟩
  obtain ⟨wA, hA⟩ : ∃ wA, w.alloc (.cells #[.int .i64 p.pad, .int .i64 p.num, .int .i64 p.la, .int .i64 p.tm.dt, .bool p.tm.tb, .bool p.tm.fr, .int .i64 p.tm.ad, .string p.txt] 25) = wA := ⟨_, rfl⟩
  have HA := Lib.hid (show CsAt b (feC p) wA by
    rw [← hb, ← hA]; exact CsAt.made w #[.int .i64 p.pad, .int .i64 p.num, .int .i64 p.la, .int .i64 p.tm.dt, .bool p.tm.tb, .bool p.tm.fr, .int .i64 p.tm.ad, .string p.txt] _ (by simp))
  have HK := Lib.hid (show Keeps w0 wA by rw [← hA]; exact hk.alloc _)
  have HT := Lib.hid (fun W => fecheck_any W p W hs (Keeps.refl W))
  unfold FckPost at HT
  have HC := Lib.hid (fun l n t W => FecPost.of (w0 := w0) (p := p) (l := l) (n := n) (t := t) (W := W))
  by_cases h1 : ckF p = 0
  · have HE := Lib.hid (ecF_ok h1)
    rw [h1] at HT
    obtain ⟨⟨⟨h2, h2b, h2c⟩, h3⟩, h4⟩ := ckF_good h1
    have HN := Lib.hid (fun W => tmencode_any W p.tm W (Keeps.refl W))
    unfold EcPost at HN
    rw [ecT_ok h3] at HN
    have h5 := (okZ_le h4).2
    obtain ⟨S, hS⟩ : ∃ S, st (by4 (nbr p.tm)) = S := ⟨_, rfl⟩
    have hSs : S.size = 4 := by rw [← hS, st_size, by4_length]
    have HB := Lib.hid (show S ++ p.txt = st (bod p.tm (ls p.txt)) by rw [← hS]; unfold bod; rw [← st_append, st_ls])
    have HX := Lib.hid (fun W => scenc_any W (sF p) W (Keeps.refl W))
    unfold ScEncPost at HX
    rw [ecd_ok (chk_sF h1)] at HX
    obtain ⟨Y, hY⟩ : ∃ Y, st (Sct.bytes (sF p)) = Y := ⟨_, rfl⟩
    have HY := Lib.hid (show Y = st (fby p) from hY.symm)
    have HM := Lib.hid (fun B W => fecarrier_any p B W h2)
    have HSO := Lib.hid (carF_sF p)
    simp only [hS] at HN
    simp only [hY] at HX
    obtain ⟨T, hT⟩ : ∃ T, S ++ p.txt = T := ⟨_, rfl⟩
    rw [hT] at HB
    rw [← HB.out] at HSO
    rw [← HSO.out] at HX
    obtain ⟨c, hc⟩ : ∃ c, carF p T = c := ⟨_, rfl⟩
    have HM2 := Lib.hid (fun W => hc ▸ HM.out T W)
    rw [hc] at HX
    clear hs hk h1 h2 h2b h2c h3 h4 hS hY hc HB HSO HM
    obtain ⟨pad, num, la, ⟨dt, tb, fr, ad⟩, txt⟩ := p
    simp only at HT HA HE hA HN HM2 HY hT h5
    go_enter Try.func11, Try.ntmps11
    go_wp2_with (first | (refine wp_ldF (b := b) (off := 0) HA.out.r rfl _ rfl rfl ?_) | (go_at_call 12; refine (HT.out _).mono ?_; rintro _ w2 ⟨rfl, k2⟩; have HA2 := Lib.hid (HA.out.keeps k2); have HK2 := Lib.hid (HK.out.trans k2); clear k2) | (refine wp_ldT (b := b) (off := 3) (feC_mid HA2.out) rfl _ rfl rfl ?_) | (go_at_call 20; refine (HN.out _).mono ?_; rintro _ w3 ⟨rfl, k3⟩; have HA3 := Lib.hid (HA2.out.keeps k3); have q7 := HA3.out.cell 7 rfl; have HK3 := Lib.hid (HK2.out.trans k3); clear k3) | (refine wp_ldF (b := b) (off := 0) HA3.out.r rfl _ rfl rfl ?_) | (go_at_call 22; refine (HM2.out _).mono ?_; rintro _ w4 ⟨rfl, k4⟩; have HK4 := Lib.hid (HK3.out.trans k4); clear k4) | (go_at_call 21; refine (HX.out _).mono ?_; rintro _ w5 ⟨rfl, k5⟩; have HK5 := Lib.hid (HK4.out.trans k5); clear k5))
    go_ret2
    exact HC.out _ _ _ _ HE.out HY.out HK5.out
  · have HE := Lib.hid (ecF_no h1)
    obtain ⟨n, hn⟩ : ∃ n, ckF p = n := ⟨_, rfl⟩
    have hnb : (n != 0) = true := by rw [← hn]; simpa using h1
    rw [hn] at HE
    simp only [hn] at HT
    obtain ⟨pad, num, la, ⟨dt, tb, fr, ad⟩, txt⟩ := p
    simp only at HT HA HE hA
    clear hs hk h1 hn
    go_enter Try.func11, Try.ntmps11
    go_wp2_with (first | (refine wp_ldF (b := b) (off := 0) HA.out.r rfl _ rfl rfl ?_) | (go_at_call 12; refine (HT.out _).mono ?_; rintro _ w2 ⟨rfl, k2⟩; have HK2 := Lib.hid (HK.out.trans k2); clear k2))
    go_ret2
    exact HC.out _ _ _ _ HE.out rfl HK2.out
end Go.Proofs.Ytdpgphidielajaa
