/-
  What package psi's exported calls answer, as it landed: what layer 17's laws ask. The memory that was there stays.
-/
import Derived.Test.YtebfihghfkcicaaPsJ
namespace Go.Proofs.Ytebfihghfkcicaa
open Go.RowKit Gf Ps Sct
set_option maxRecDepth 100000
theorem psnewer_any (a b : Int) (w : World) :
    Calls Try.prog 16 #[.int .i64 a, .int .i64 b] w fun e w' => e = .returned (.bool (nwI a b)) ∧ Keeps w w' := by
  obtain ⟨q, hq⟩ : ∃ q, RowKit.wrap64 (b - a) % 32 = q := ⟨_, rfl⟩
  have h31 : bits .and .i64 (RowKit.wrap64 (b - a)) 31 = q := by rw [and31, hq]
  have hq0 : 0 ≤ q := by rw [← hq]; exact Int.emod_nonneg _ (by decide)
  have HE := Lib.hid (show nwI a b = decide (1 ≤ q ∧ q ≤ 15) by
    unfold nwI
    rw [show (b - a) % 32 = q by rw [← hq]; unfold RowKit.wrap64; omega])
  clear hq
  by_cases h1 : 0 < q
  · by_cases h2 : q ≤ 15
    · have HF := Lib.hid (show nwI a b = true by rw [HE.out]; exact decide_eq_true ⟨by omega, h2⟩)
      go_enter Try.func16, Try.ntmps16
      go_wp2
      go_ret
      exact ⟨by rw [HF.out]; rfl, Keeps.refl w⟩
    · have HF := Lib.hid (show nwI a b = false by rw [HE.out]; exact decide_eq_false (by omega))
      go_enter Try.func16, Try.ntmps16
      go_wp2
      go_ret
      exact ⟨by rw [HF.out]; rfl, Keeps.refl w⟩
  · have HF := Lib.hid (show nwI a b = false by rw [HE.out]; exact decide_eq_false (by omega))
    go_enter Try.func16, Try.ntmps16
    go_wp2
    go_ret
    exact ⟨by rw [HF.out]; rfl, Keeps.refl w⟩
/-- What is told of what decode of a Pat answers. -/
def patDP.mid (x : Pat) (r : Int) (l : List UInt8) : Prop := (r = 0 ∧ PatOk x ∧ patE x = l) ∨ (r ≠ 0 ∧ x = ⟨0, 0, []⟩ ∧ (∀ z, PatOk z → patE z ≠ l) ∧ ((dec l).2 = 0 → (dec l).1.tb ≠ 0 → r = 14))
set_option maxHeartbeats 1600000 in
theorem psDecPat_any (t : ByteArray) (w : World) (ht : t.size ≤ 1000000) : Calls Try.prog 10 #[.string t] w (patDP w (ls t)) := by
  obtain ⟨b, hb⟩ : ∃ b, w.heap.size = b := ⟨_, rfl⟩
  obtain ⟨wA, hA⟩ : ∃ wA, w.alloc (.cells #[.int .i64 0, .int .i64 0, .slice none 0 0] 24) = wA := ⟨_, rfl⟩
  have A0 := Lib.hid (CsAns.start (Keeps.refl w) (a := #[.int .i64 0, .int .i64 0, .slice none 0 0]) (by simp) hb hA)
  have hzA : wA.heap.size = b + 1 := by rw [← hA, World.size_alloc, hb]
  obtain ⟨Z, hZ⟩ : ∃ Z : Pat → Int → Prop, (fun x r => (patDP.mid x r (ls t))) = Z := ⟨_, rfl⟩
  have HD := Lib.hid (show Calls Try.prog 18 #[.string t, .int .i64 0, .func (.func 19) #[] #[]] wA fun e w' => ∃ (x : Pat) (a : Option Addr) (c : Nat) (r : Int), e = .returned (.tuple #[patV x a c, .int .i64 r]) ∧ Keeps wA w' ∧ IsE rowPr w' a x.l.length x.l ∧ x.l.length ≤ c ∧ c ≤ maxLen ∧ (∀ p, a = some p → wA.heap.size ≤ p.block) ∧ Z x r from (psdecpat_any t wA ht).mono fun e w' ⟨x, a, c, r, h1, h2, h3, h4, h5, h6, h7⟩ => ⟨x, a, c, r, h1, h2, h3, h4, h5, h6, by rw [← hZ]; exact h7⟩)
  have HP := Lib.hid (show ∀ (x : Pat) (a : Option Addr) (c : Nat) (r : Int) (W : World), Keeps w W → IsE rowPr W a x.l.length x.l → x.l.length ≤ c → c ≤ maxLen → (∀ p, a = some p → w.heap.size ≤ p.block) → Z x r → patDP w (ls t) (.returned (.tuple #[patV x a c, .int .i64 r])) W from fun x a c r W h1 h2 h3 h4 h5 h6 => ⟨x, a, c, r, rfl, h1, h2, h3, h4, h5, by rw [← hZ] at h6; exact h6⟩)
  have HB0 := Lib.hid hb
  have HBA := Lib.hid hzA
  clear hZ
  go_enter Try.func10, Try.ntmps10
  go_wp2_with fail
  refine HD.out.mono ?_
  rintro _ w2 ⟨⟨str, ver, L⟩, a, c, r, rfl, k2, hi, hc1, hc2, hap, hz⟩
  have A2 := Lib.hid (A0.out.keeps k2)
  have HI := Lib.hid (show IsE rowPr w2 a L.length L from hi)
  have HC := Lib.hid (show L.length ≤ c ∧ c ≤ maxLen from ⟨hc1, hc2⟩)
  have HAP := Lib.hid hap
  have HZ := Lib.hid hz
  clear hi hc1 hc2 hap hz k2
  go_wp2_with (refine wp_stPat (b := b) str ver a L.length c (A2.out.z.there (show 0 + 3 ≤ 3 by decide)) rfl _ _ rfl rfl rfl ?_)
  have E := A2.out.ends (patC str ver a L.length c) rfl
  have ko : Only b w2 (w2.setCells b 0 (patC str ver a L.length c)) := only_setCells b (patC str ver a L.length c) 0 w2
  exact cs_ret2 Try.results10 (lvPat E.z) rfl rfl rfl (HP.out ⟨str, ver, L⟩ a c r _ E.k (HI.out.foot (ko.foot (S := fun k => k = b) rfl) (fun p hp e => by have := HAP.out p hp; have := HBA.out; omega)) HC.out.1 HC.out.2 (fun p hp => by have := HAP.out p hp; have := HBA.out; have := HB0.out; omega) HZ.out)
/-- What is told of what decode of a Pmt answers. -/
def pmtDP.mid (x : Pmt) (r : Int) (l : List UInt8) : Prop := (r = 0 ∧ PmtOk x ∧ pmtE x = l) ∨ (r ≠ 0 ∧ x = ⟨0, 0, 0, ⟨#[]⟩, []⟩ ∧ (∀ z, PmtOk z → pmtE z ≠ l) ∧ ((dec l).2 = 0 → (dec l).1.tb ≠ 2 → r = 14))
set_option maxHeartbeats 1600000 in
theorem psDecPmt_any (t : ByteArray) (w : World) (ht : t.size ≤ 1000000) : Calls Try.prog 11 #[.string t] w (pmtDP w (ls t)) := by
  obtain ⟨b, hb⟩ : ∃ b, w.heap.size = b := ⟨_, rfl⟩
  obtain ⟨wA, hA⟩ : ∃ wA, w.alloc (.cells #[.int .i64 0, .int .i64 0, .int .i64 0, .string ⟨#[]⟩, .slice none 0 0] 27) = wA := ⟨_, rfl⟩
  have A0 := Lib.hid (CsAns.start (Keeps.refl w) (a := #[.int .i64 0, .int .i64 0, .int .i64 0, .string ⟨#[]⟩, .slice none 0 0]) (by simp) hb hA)
  have hzA : wA.heap.size = b + 1 := by rw [← hA, World.size_alloc, hb]
  obtain ⟨Z, hZ⟩ : ∃ Z : Pmt → Int → Prop, (fun x r => (pmtDP.mid x r (ls t))) = Z := ⟨_, rfl⟩
  have HD := Lib.hid (show Calls Try.prog 20 #[.string t, .int .i64 2, .func (.func 21) #[] #[]] wA fun e w' => ∃ (x : Pmt) (a : Option Addr) (c : Nat) (r : Int), e = .returned (.tuple #[pmtV x a c, .int .i64 r]) ∧ Keeps wA w' ∧ IsE rowSt w' a x.l.length x.l ∧ x.l.length ≤ c ∧ c ≤ maxLen ∧ (∀ p, a = some p → wA.heap.size ≤ p.block) ∧ Z x r from (psdecpmt_any t wA ht).mono fun e w' ⟨x, a, c, r, h1, h2, h3, h4, h5, h6, h7⟩ => ⟨x, a, c, r, h1, h2, h3, h4, h5, h6, by rw [← hZ]; exact h7⟩)
  have HP := Lib.hid (show ∀ (x : Pmt) (a : Option Addr) (c : Nat) (r : Int) (W : World), Keeps w W → IsE rowSt W a x.l.length x.l → x.l.length ≤ c → c ≤ maxLen → (∀ p, a = some p → w.heap.size ≤ p.block) → Z x r → pmtDP w (ls t) (.returned (.tuple #[pmtV x a c, .int .i64 r])) W from fun x a c r W h1 h2 h3 h4 h5 h6 => ⟨x, a, c, r, rfl, h1, h2, h3, h4, h5, by rw [← hZ] at h6; exact h6⟩)
  have HB0 := Lib.hid hb
  have HBA := Lib.hid hzA
  clear hZ
  go_enter Try.func11, Try.ntmps11
  go_wp2_with fail
  refine HD.out.mono ?_
  rintro _ w2 ⟨⟨pr, ve, cl, inf, L⟩, a, c, r, rfl, k2, hi, hc1, hc2, hap, hz⟩
  have A2 := Lib.hid (A0.out.keeps k2)
  have HI := Lib.hid (show IsE rowSt w2 a L.length L from hi)
  have HC := Lib.hid (show L.length ≤ c ∧ c ≤ maxLen from ⟨hc1, hc2⟩)
  have HAP := Lib.hid hap
  have HZ := Lib.hid hz
  clear hi hc1 hc2 hap hz k2
  go_wp2_with (refine wp_stPmt (b := b) pr ve cl inf a L.length c (A2.out.z.there (show 0 + 5 ≤ 5 by decide)) rfl _ _ rfl rfl rfl ?_)
  have E := A2.out.ends (pmtC pr ve cl inf a L.length c) rfl
  have ko : Only b w2 (w2.setCells b 0 (pmtC pr ve cl inf a L.length c)) := only_setCells b (pmtC pr ve cl inf a L.length c) 0 w2
  exact cs_ret2 Try.results11 (lvPmt E.z) rfl rfl rfl (HP.out ⟨pr, ve, cl, inf, L⟩ a c r _ E.k (HI.out.foot (ko.foot (S := fun k => k = b) rfl) (fun p hp e => by have := HAP.out p hp; have := HBA.out; omega)) HC.out.1 HC.out.2 (fun p hp => by have := HAP.out p hp; have := HBA.out; have := HB0.out; omega) HZ.out)
theorem few_sizes {x : Pmt} (h : fewM x = true) : x.l.length ≤ 1000 ∧ (∀ p ∈ x.l, p.info.size ≤ 5000) ∧ x.info.size ≤ 5000 := by
  unfold fewM at h
  simp only [Bool.and_eq_true, decide_eq_true_eq] at h
  obtain ⟨h1, h2, h3⟩ := h
  exact ⟨by omega, fun p hp => by have := h1 p hp; omega, by omega⟩
theorem ok_sizes {x : Pmt} (h : PmtOk x) : x.l.length ≤ 1000 ∧ (∀ p ∈ x.l, p.info.size ≤ 5000) ∧ x.info.size ≤ 5000 := by
  have h4 := h.2.2.2.2.2
  rw [pmtB_length] at h4
  have h5 : ∀ m : List Strm, 5 * m.length ≤ (stsB m).length := fun m => by
    induction m with
    | nil => exact Nat.le_refl _
    | cons s t ih =>
      show _ ≤ (stB s ++ stsB t).length
      rw [List.length_append, stB_length, List.length_cons]; omega
  have := h5 x.l
  exact ⟨by omega, fun p hp => by have := stsB_mem hp; omega, by omega⟩
theorem size_patE {x : Pat} {t : ByteArray} (h : PatOk x) (e : ls t = patE x) : t.size ≤ 1000000 := by
  have := h.2.2.2.2
  rw [ls_size, e, patE_length]; omega
theorem size_pmtE {x : Pmt} {t : ByteArray} (h : PmtOk x) (e : ls t = pmtE x) : t.size ≤ 1000000 := by
  have := h.2.2.2.2.2
  rw [ls_size, e, pmtE_length]; omega
def psiApi : PsApi where
  Ok := fun _ => True
  okK := fun _ _ => trivial
  epOk := fun {x a cap w} h h1 h2 _ ho => (patEnc_any (cap := cap) w h (by have := ho.2.2.2.2; omega)).mono fun e w' ⟨t, r, he, ha, _, hk⟩ => by
    obtain ⟨e1, e2⟩ := ha ((patK_ok x).2 ho)
    subst e1 e2
    exact ⟨he, hk⟩
  epNo := fun {x a cap w} h h1 h2 _ ho hn => (patEnc_any (cap := cap) w h (by omega)).mono fun e w' ⟨t, r, he, _, hb, hk⟩ => by
    obtain ⟨e1, e2⟩ := hb (fun k => ho ((patK_ok x).1 k))
    subst e1
    exact ⟨⟨r, he, by rw [e2]; exact fun k => ho ((patK_ok x).1 k)⟩, hk⟩
  emOk := fun {x a cap w} h h1 h2 _ ho => (pmtEnc_any (cap := cap) w h (ok_sizes ho).1 (ok_sizes ho).2.1 (ok_sizes ho).2.2).mono fun e w' ⟨t, r, he, ha, _, hk⟩ => by
    obtain ⟨e1, e2⟩ := ha ((pmtK_ok x).2 ho)
    subst e1 e2
    exact ⟨he, hk⟩
  emNo := fun {x a cap w} h h1 h2 _ ho hf => (pmtEnc_any (cap := cap) w h (few_sizes hf).1 (few_sizes hf).2.1 (few_sizes hf).2.2).mono fun e w' ⟨t, r, he, _, hb, hk⟩ => by
    obtain ⟨e1, e2⟩ := hb (fun k => ho ((pmtK_ok x).1 k))
    subst e1
    exact ⟨⟨r, he, by rw [e2]; exact fun k => ho ((pmtK_ok x).1 k)⟩, hk⟩
  dpOk := fun {x} t {w} _ ho ht => (psDecPat_any t w (size_patE ho ht)).mono fun e w' ⟨y, a, c, r, he, hk, hi, h1, h2, _, h3⟩ => by
    rcases h3 with ⟨e1, e2, e3⟩ | ⟨_, _, e3, _⟩
    · have hyx : y = x := patE_inj e2 ho (by rw [e3, ht])
      subst hyx e1
      exact ⟨⟨a, c, he, hi, h1, h2⟩, hk⟩
    · exact absurd ht.symm (e3 x ho)
  dpPmt := fun {y} t {w} _ ho ht => (psDecPat_any t w (size_pmtE ho ht)).mono fun e w' ⟨z, a, c, r, he, hk, hi, h1, h2, _, h3⟩ => by
    rcases h3 with ⟨e1, e2, e3⟩ | ⟨_, e2, _, e4⟩
    · exact absurd (by rw [e3, ht]) (pat_pmt e2 ho)
    · have hr : r = 14 := e4 (by rw [ht, pmtE_dec ho]) (by rw [ht, pmtE_dec ho]; show (2 : Int) ≠ 0; decide)
      subst e2 hr
      exact ⟨⟨a, c, he⟩, hk⟩
  dpNo := fun t {w} _ ht hz => (psDecPat_any t w (by omega)).mono fun e w' ⟨z, a, c, r, he, hk, hi, h1, h2, _, h3⟩ => by
    rcases h3 with ⟨_, e2, e3⟩ | ⟨e1, e2, _, _⟩
    · exact absurd e3 (hz z e2)
    · subst e2
      exact ⟨⟨a, c, r, he, e1⟩, hk⟩
  dmOk := fun {x} t {w} _ ho ht => (psDecPmt_any t w (size_pmtE ho ht)).mono fun e w' ⟨y, a, c, r, he, hk, hi, h1, h2, _, h3⟩ => by
    rcases h3 with ⟨e1, e2, e3⟩ | ⟨_, _, e3, _⟩
    · have hyx : y = x := pmtE_inj e2 ho (by rw [e3, ht])
      subst hyx e1
      exact ⟨⟨a, c, he, hi, h1, h2⟩, hk⟩
    · exact absurd ht.symm (e3 x ho)
  dmPat := fun {y} t {w} _ ho ht => (psDecPmt_any t w (size_patE ho ht)).mono fun e w' ⟨z, a, c, r, he, hk, hi, h1, h2, _, h3⟩ => by
    rcases h3 with ⟨e1, e2, e3⟩ | ⟨_, e2, _, e4⟩
    · exact absurd (by rw [e3, ht]) (pat_pmt ho e2)
    · have hr : r = 14 := e4 (by rw [ht, patE_dec ho]) (by rw [ht, patE_dec ho]; show (0 : Int) ≠ 2; decide)
      subst e2 hr
      exact ⟨⟨a, c, he⟩, hk⟩
  dmNo := fun t {w} _ ht hz => (psDecPmt_any t w (by omega)).mono fun e w' ⟨z, a, c, r, he, hk, hi, h1, h2, _, h3⟩ => by
    rcases h3 with ⟨_, e2, e3⟩ | ⟨e1, e2, _, _⟩
    · exact absurd e3 (hz z e2)
    · subst e2
      exact ⟨⟨a, c, r, he, e1⟩, hk⟩
  newer := fun a b w _ _ _ => psnewer_any a b w
theorem psiOk (w : World) : psiApi.Ok w := trivial
end Go.Proofs.Ytebfihghfkcicaa
