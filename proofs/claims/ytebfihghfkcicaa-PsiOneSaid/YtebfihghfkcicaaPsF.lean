/-
  Which bytes a Pat and a Pmt are, or why none (package psi's encode, its methods called through an interface). The memory that was there stays.
-/
import Derived.Test.YtebfihghfkcicaaPsE
namespace Go.Proofs.Ytebfihghfkcicaa
open Go.RowKit Gf Ps Sct
set_option maxRecDepth 100000
/-- Which functions the methods of an interface are. -/
theorem metPatC (f : Nat) (v : Array Value) (w : World) : (method (f + 1) 24 (.agg v) "clarion/psi.check").run Try.prog w = .ok (75, .agg v) w := by kernel_rfl
theorem metPatS (f : Nat) (v : Array Value) (w : World) : (method (f + 1) 24 (.agg v) "clarion/psi.carrier").run Try.prog w = .ok (74, .agg v) w := by kernel_rfl
theorem metPmtC (f : Nat) (v : Array Value) (w : World) : (method (f + 1) 27 (.agg v) "clarion/psi.check").run Try.prog w = .ok (89, .agg v) w := by kernel_rfl
theorem metPmtS (f : Nat) (v : Array Value) (w : World) : (method (f + 1) 27 (.agg v) "clarion/psi.carrier").run Try.prog w = .ok (88, .agg v) w := by kernel_rfl
def patEncP (w : World) (x : Pat) (e : Ending) (w' : World) : Prop := (patK x = 0 → e = .returned (.tuple #[.string (st (patE x)), .int .i64 0])) ∧ (patK x ≠ 0 → e = .returned (.tuple #[.string ⟨#[]⟩, .int .i64 (patK x)])) ∧ Keeps w w'
set_option maxHeartbeats 1600000 in
theorem patenc_any {x : Pat} {a : Option Addr} {cap : Nat} (w : World) (h : IsE rowPr w a x.l.length x.l) (hl : x.l.length ≤ 1000) :
    Calls Try.prog 17 #[.iface 24 (patV x a cap)] w (patEncP w x) := by
  have HCK := Lib.hid (patchk_any (cap := cap) w h hl)
  have HCA := Lib.hid (fun W (k : Keeps w W) (hok : PatOk x) => patcar_any (cap := cap) W (h.keeps k) hl hok.2.2.1)
  have HEN := Lib.hid (fun W => scenc_any W (patS x) W (Keeps.refl W))
  unfold ScEncPost at HEN
  have m1 := metPatC
  have m2 := metPatS
  unfold ChkP at HCK
  obtain ⟨K, hK⟩ : ∃ K, patK x = K := ⟨_, rfl⟩
  by_cases h0 : K = 0
  · have hok := (patK_ok x).1 (hK.trans h0)
    have hen := ecd_ok (pat_chk hok)
    simp only [hen] at HEN
    have HE := Lib.hid (show ∀ W, Keeps w W → patEncP w x (.returned (.tuple #[.string (st (Sct.bytes (patS x))), .int .i64 0])) W from fun W k => ⟨fun _ => rfl, fun hh => absurd (hK.trans h0) hh, k⟩)
    replace HCA := Lib.hid (fun W k => HCA.out W k hok)
    rw [hK, h0] at HCK
    obtain ⟨E, hE⟩ : ∃ E, patEncP w x = E := ⟨_, rfl⟩
    rw [hE] at HE ⊢
    obtain ⟨V, hV⟩ : ∃ V, patV x a cap = V := ⟨_, rfl⟩
    obtain ⟨S, hS⟩ : ∃ S, patS x = S := ⟨_, rfl⟩
    simp only [hS] at HCA HEN HE
    unfold patV at HCA HCK ⊢
    clear hK h0 hok hen h hE hl
    clear hV
    obtain ⟨str, ver, l⟩ := x
    simp only at HCA HCK ⊢
    clear hS
    go_enter Try.func17, Try.ntmps17
    go_wp2_with (first | (go_at_call 75; refine HCK.out.mono ?_; rintro _ w2 ⟨rfl, k2⟩; have HK2 := Lib.hid k2; clear k2) | (go_at_call 74; refine (HCA.out _ HK2.out).mono ?_; rintro _ w3 ⟨rfl, k3⟩; have HK3 := Lib.hid (Keeps.trans HK2.out k3); clear k3) | (go_at_call 22; refine (HEN.out _).mono ?_; rintro _ w4 ⟨rfl, k4⟩; have HK4 := Lib.hid (Keeps.trans HK3.out k4); clear k4))
    exact HE.out _ HK4.out
  · have HE := Lib.hid (show ∀ W, Keeps w W → patEncP w x (.returned (.tuple #[.string ⟨#[]⟩, .int .i64 K])) W from fun W k => ⟨fun hh => absurd (hK.symm.trans hh) h0, fun _ => by rw [hK], k⟩)
    rw [hK] at HCK
    obtain ⟨E, hE⟩ : ∃ E, patEncP w x = E := ⟨_, rfl⟩
    rw [hE] at HE ⊢
    have hb : (K != 0) = true := by simpa using h0
    unfold patV at HCK ⊢
    clear hK h0 h hE hl HCA HEN
    obtain ⟨str, ver, l⟩ := x
    simp only at HCK ⊢
    go_enter Try.func17, Try.ntmps17
    go_wp2_with (go_at_call 75; refine HCK.out.mono ?_; rintro _ w2 ⟨rfl, k2⟩; have HK2 := Lib.hid k2; clear k2)
    exact HE.out _ HK2.out
set_option maxHeartbeats 1600000 in
theorem patEnc_any {x : Pat} {a : Option Addr} {cap : Nat} (w : World) (h : IsE rowPr w a x.l.length x.l) (hl : x.l.length ≤ 1000) :
    Calls Try.prog 9 #[patV x a cap] w fun e w' => ∃ t r, e = .returned (.tuple #[.string t, .int .i64 r]) ∧ (patK x = 0 → t = st (patE x) ∧ r = 0) ∧ (patK x ≠ 0 → t = ⟨#[]⟩ ∧ r = patK x) ∧ Keeps w w' := by
  have HX := Lib.hid (fun W (k : Keeps w W) => show Calls Try.prog 17 #[.iface 24 (patV x a cap)] W fun e w' => ∃ t r, e = .returned (.tuple #[.string t, .int .i64 r]) ∧ (patK x = 0 → t = st (patE x) ∧ r = 0) ∧ (patK x ≠ 0 → t = ⟨#[]⟩ ∧ r = patK x) ∧ Keeps W w' from by
    refine (patenc_any (cap := cap) W (h.keeps k) hl).mono ?_
    rintro e w' ⟨h1, h2, h3⟩
    by_cases hk : patK x = 0
    · exact ⟨_, _, h1 hk, fun _ => ⟨rfl, rfl⟩, fun hh => absurd hk hh, h3⟩
    · exact ⟨_, _, h2 hk, fun hh => absurd hh hk, fun _ => ⟨rfl, rfl⟩, h3⟩)
  obtain ⟨A, hA⟩ : ∃ A : ByteArray → Int → Prop, (fun t r => (patK x = 0 → t = st (patE x) ∧ r = 0) ∧ (patK x ≠ 0 → t = ⟨#[]⟩ ∧ r = patK x)) = A := ⟨_, rfl⟩
  have HA := Lib.hid (show ∀ t r, A t r → (patK x = 0 → t = st (patE x) ∧ r = 0) ∧ (patK x ≠ 0 → t = ⟨#[]⟩ ∧ r = patK x) by rw [← hA]; exact fun _ _ h => h)
  replace HX := Lib.hid (fun W (k : Keeps w W) => show Calls Try.prog 17 #[.iface 24 (patV x a cap)] W fun e w' => ∃ t r, e = .returned (.tuple #[.string t, .int .i64 r]) ∧ A t r ∧ Keeps W w' from (HX.out W k).mono fun e w' ⟨t, r, h1, h2, h3, h4⟩ => ⟨t, r, h1, by rw [← hA]; exact ⟨h2, h3⟩, h4⟩)
  refine Calls.mono (R := fun e w' => ∃ t r, e = .returned (.tuple #[.string t, .int .i64 r]) ∧ A t r ∧ Keeps w w') ?_ (fun e w' ⟨t, r, h1, h2, h3⟩ => ⟨t, r, h1, (HA.out t r h2).1, (HA.out t r h2).2, h3⟩)
  clear HA hA h hl
  unfold patV at HX ⊢
  obtain ⟨str, ver, l⟩ := x
  simp only at HX ⊢
  go_enter Try.func9, Try.ntmps9
  go_wp2_with (go_at_call 17; refine (HX.out _ ((Keeps.refl w).alloc _)).mono ?_; rintro _ w2 ⟨t, r, rfl, ha, k2⟩; have HAA := Lib.hid ha; have HK2 := Lib.hid (((Keeps.refl w).alloc _).trans k2); clear ha k2)
  go_ret2
  exact ⟨t, r, rfl, HAA.out, HK2.out⟩
def pmtEncP (w : World) (x : Pmt) (e : Ending) (w' : World) : Prop := (pmtK x = 0 → e = .returned (.tuple #[.string (st (pmtE x)), .int .i64 0])) ∧ (pmtK x ≠ 0 → e = .returned (.tuple #[.string ⟨#[]⟩, .int .i64 (pmtK x)])) ∧ Keeps w w'
set_option maxHeartbeats 1600000 in
theorem pmtenc_any {x : Pmt} {a : Option Addr} {cap : Nat} (w : World) (h : IsE rowSt w a x.l.length x.l) (hl : x.l.length ≤ 1000) (hs : ∀ s ∈ x.l, s.info.size ≤ 5000) (hi : x.info.size ≤ 5000) :
    Calls Try.prog 17 #[.iface 27 (pmtV x a cap)] w (pmtEncP w x) := by
  have HCK := Lib.hid (pmtchk_any (cap := cap) w h hl hs hi)
  have HCA := Lib.hid (fun W (k : Keeps w W) (hok : PmtOk x) => pmtcar_any (cap := cap) W (h.keeps k) hok)
  have HEN := Lib.hid (fun W => scenc_any W (pmtS x) W (Keeps.refl W))
  unfold ScEncPost at HEN
  have m1 := metPmtC
  have m2 := metPmtS
  unfold ChkP at HCK
  obtain ⟨K, hK⟩ : ∃ K, pmtK x = K := ⟨_, rfl⟩
  by_cases h0 : K = 0
  · have hok := (pmtK_ok x).1 (hK.trans h0)
    have hen := ecd_ok (pmt_chk hok)
    simp only [hen] at HEN
    have HE := Lib.hid (show ∀ W, Keeps w W → pmtEncP w x (.returned (.tuple #[.string (st (Sct.bytes (pmtS x))), .int .i64 0])) W from fun W k => ⟨fun _ => rfl, fun hh => absurd (hK.trans h0) hh, k⟩)
    replace HCA := Lib.hid (fun W k => HCA.out W k hok)
    rw [hK, h0] at HCK
    obtain ⟨E, hE⟩ : ∃ E, pmtEncP w x = E := ⟨_, rfl⟩
    rw [hE] at HE ⊢
    obtain ⟨V, hV⟩ : ∃ V, pmtV x a cap = V := ⟨_, rfl⟩
    obtain ⟨S, hS⟩ : ∃ S, pmtS x = S := ⟨_, rfl⟩
    simp only [hS] at HCA HEN HE
    unfold pmtV at HCA HCK ⊢
    clear hK h0 hok hen h hE hl
    clear hV
    obtain ⟨pr, ve, cl, inf, l⟩ := x
    simp only at HCA HCK ⊢
    clear hS
    go_enter Try.func17, Try.ntmps17
    go_wp2_with (first | (go_at_call 89; refine HCK.out.mono ?_; rintro _ w2 ⟨rfl, k2⟩; have HK2 := Lib.hid k2; clear k2) | (go_at_call 88; refine (HCA.out _ HK2.out).mono ?_; rintro _ w3 ⟨rfl, k3⟩; have HK3 := Lib.hid (Keeps.trans HK2.out k3); clear k3) | (go_at_call 22; refine (HEN.out _).mono ?_; rintro _ w4 ⟨rfl, k4⟩; have HK4 := Lib.hid (Keeps.trans HK3.out k4); clear k4))
    exact HE.out _ HK4.out
  · have HE := Lib.hid (show ∀ W, Keeps w W → pmtEncP w x (.returned (.tuple #[.string ⟨#[]⟩, .int .i64 K])) W from fun W k => ⟨fun hh => absurd (hK.symm.trans hh) h0, fun _ => by rw [hK], k⟩)
    rw [hK] at HCK
    obtain ⟨E, hE⟩ : ∃ E, pmtEncP w x = E := ⟨_, rfl⟩
    rw [hE] at HE ⊢
    have hb : (K != 0) = true := by simpa using h0
    unfold pmtV at HCK ⊢
    clear hK h0 h hE hl HCA HEN
    obtain ⟨pr, ve, cl, inf, l⟩ := x
    simp only at HCK ⊢
    go_enter Try.func17, Try.ntmps17
    go_wp2_with (go_at_call 89; refine HCK.out.mono ?_; rintro _ w2 ⟨rfl, k2⟩; have HK2 := Lib.hid k2; clear k2)
    exact HE.out _ HK2.out
set_option maxHeartbeats 1600000 in
theorem pmtEnc_any {x : Pmt} {a : Option Addr} {cap : Nat} (w : World) (h : IsE rowSt w a x.l.length x.l) (hl : x.l.length ≤ 1000) (hs : ∀ s ∈ x.l, s.info.size ≤ 5000) (hi : x.info.size ≤ 5000) :
    Calls Try.prog 14 #[pmtV x a cap] w fun e w' => ∃ t r, e = .returned (.tuple #[.string t, .int .i64 r]) ∧ (pmtK x = 0 → t = st (pmtE x) ∧ r = 0) ∧ (pmtK x ≠ 0 → t = ⟨#[]⟩ ∧ r = pmtK x) ∧ Keeps w w' := by
  have HX := Lib.hid (fun W (k : Keeps w W) => show Calls Try.prog 17 #[.iface 27 (pmtV x a cap)] W fun e w' => ∃ t r, e = .returned (.tuple #[.string t, .int .i64 r]) ∧ (pmtK x = 0 → t = st (pmtE x) ∧ r = 0) ∧ (pmtK x ≠ 0 → t = ⟨#[]⟩ ∧ r = pmtK x) ∧ Keeps W w' from by
    refine (pmtenc_any (cap := cap) W (h.keeps k) hl hs hi).mono ?_
    rintro e w' ⟨h1, h2, h3⟩
    by_cases hk : pmtK x = 0
    · exact ⟨_, _, h1 hk, fun _ => ⟨rfl, rfl⟩, fun hh => absurd hk hh, h3⟩
    · exact ⟨_, _, h2 hk, fun hh => absurd hh hk, fun _ => ⟨rfl, rfl⟩, h3⟩)
  obtain ⟨A, hA⟩ : ∃ A : ByteArray → Int → Prop, (fun t r => (pmtK x = 0 → t = st (pmtE x) ∧ r = 0) ∧ (pmtK x ≠ 0 → t = ⟨#[]⟩ ∧ r = pmtK x)) = A := ⟨_, rfl⟩
  have HA := Lib.hid (show ∀ t r, A t r → (pmtK x = 0 → t = st (pmtE x) ∧ r = 0) ∧ (pmtK x ≠ 0 → t = ⟨#[]⟩ ∧ r = pmtK x) by rw [← hA]; exact fun _ _ h => h)
  replace HX := Lib.hid (fun W (k : Keeps w W) => show Calls Try.prog 17 #[.iface 27 (pmtV x a cap)] W fun e w' => ∃ t r, e = .returned (.tuple #[.string t, .int .i64 r]) ∧ A t r ∧ Keeps W w' from (HX.out W k).mono fun e w' ⟨t, r, h1, h2, h3, h4⟩ => ⟨t, r, h1, by rw [← hA]; exact ⟨h2, h3⟩, h4⟩)
  refine Calls.mono (R := fun e w' => ∃ t r, e = .returned (.tuple #[.string t, .int .i64 r]) ∧ A t r ∧ Keeps w w') ?_ (fun e w' ⟨t, r, h1, h2, h3⟩ => ⟨t, r, h1, (HA.out t r h2).1, (HA.out t r h2).2, h3⟩)
  clear HA hA h hl
  unfold pmtV at HX ⊢
  obtain ⟨pr, ve, cl, inf, l⟩ := x
  simp only at HX ⊢
  go_enter Try.func14, Try.ntmps14
  go_wp2_with (go_at_call 17; refine (HX.out _ ((Keeps.refl w).alloc _)).mono ?_; rintro _ w2 ⟨t, r, rfl, ha, k2⟩; have HAA := Lib.hid ha; have HK2 := Lib.hid (((Keeps.refl w).alloc _).trans k2); clear ha k2)
  go_ret2
  exact ⟨t, r, rfl, HAA.out, HK2.out⟩
end Go.Proofs.Ytebfihghfkcicaa
