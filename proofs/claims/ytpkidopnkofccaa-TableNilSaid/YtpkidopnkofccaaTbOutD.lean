/-
  The document's table: Out. The memory that was there stays.
-/
import Derived.Test.YtpkidopnkofccaaTbDoc
namespace Go.Proofs.Ytpkidopnkofccaa
open Go.RowKit Gf
set_option maxRecDepth 100000
structure OutD (w : World) (T : Tb) (A f : Nat) (done : List (Nat × Nat)) (v4 v5 : Value) (W : World) : Prop where
  fa : A ≤ 191 * T.R
  ff : 191 * T.R ≤ f + A
  fo : done ++ outF T f A = outT T
  fl : done.length ≤ A
  o4 : OwnE rowN W w.heap.size v4 (done.map fun p => (p.1 : Int))
  o5 : OwnE rowN W w.heap.size v5 (done.map fun p => (p.2 : Int))
  ne : ∀ g, v4.ownBlock = some g → v5.ownBlock ≠ some g
  kp : Keeps w W
def outRelD (w : World) (T : Tb) (v4 v5 v6 : Value) (wr : World) : Prop := ∃ (A f : Nat) (done : List (Nat × Nat)), v6 = .int .i64 (A : Int) ∧ OutD w T A f done v4 v5 wr
theorem OutD.hit {w : World} {T : Tb} {A f : Nat} {done : List (Nat × Nat)} {v4 v5 : Value} {W : World} (h : OutD w T A f done v4 v5 W) (hR : 256 ≤ T.R) (hA : A < 191 * T.R) (hp : 0 < firstT T A) {u4 u5 : Value} {W' : World}
    (h4 : OwnE rowN W' w.heap.size u4 (done.map (fun p => (p.1 : Int)) ++ [(A : Int)])) (h5 : OwnE rowN W' w.heap.size u5 (done.map (fun p => (p.2 : Int)) ++ [(firstT T A : Int)])) (hne : ∀ g, u4.ownBlock = some g → u5.ownBlock ≠ some g) (hk : Keeps w W') :
    OutD w T (A + firstT T A) (f - 1) (done ++ [(A, firstT T A)]) u4 u5 W' := by
  have h1 := firstT_kle hR A
  have h2 := kn_le T h.fa
  have hf := h.ff
  obtain ⟨g, rfl⟩ : ∃ g, f = g + 1 := ⟨f - 1, by omega⟩
  refine ⟨by omega, by omega, ?_, ?_, by rw [List.map_append]; exact h4, by rw [List.map_append]; exact h5, hne, hk⟩
  · have := h.fo
    rw [outF_hit hA hp] at this
    rw [← this, List.append_assoc]; rfl
  · rw [List.length_append, List.length_singleton]; have := h.fl; omega
theorem OutD.miss {w : World} {T : Tb} {A f : Nat} {done : List (Nat × Nat)} {v4 v5 : Value} {W : World} (h : OutD w T A f done v4 v5 W) (hA : A < 191 * T.R) (hp : ¬ 0 < firstT T A) {W' : World} (hk : Keeps W W') : OutD w T (nx T (A + 1)) (f - 1) done v4 v5 W' := by
  have hx := (nx_stop T (A + 1)).1
  have hxb : nx T (A + 1) ≤ 191 * T.R := by
    refine Classical.byContradiction fun z => ?_
    have := (nx_lt T (A + 1) (nx T (A + 1) - 1) (by omega) (by omega)).1
    omega
  have hf := h.ff
  obtain ⟨g, rfl⟩ : ∃ g, f = g + 1 := ⟨f - 1, by omega⟩
  refine ⟨hxb, by omega, ?_, by have := h.fl; omega, h.o4.keeps hk, h.o5.keeps hk, h.ne, h.kp.trans hk⟩
  have := h.fo
  rwa [outF_miss hA hp] at this
theorem OutD.ends {w : World} {T : Tb} {A f : Nat} {done : List (Nat × Nat)} {v4 v5 : Value} {W : World} (h : OutD w T A f done v4 v5 W) (hA : ¬ A < 191 * T.R) : done = outT T := by
  have := h.fo
  rw [outF_end (by omega)] at this
  simpa using this
def RtOutPost (w : World) (T : Tb) (e : Ending) (w' : World) : Prop := ∃ v4 v5, e = .returned (.tuple #[v4, v5]) ∧ OwnE rowN w' w.heap.size v4 ((outT T).map fun p => (p.1 : Int)) ∧ OwnE rowN w' w.heap.size v5 ((outT T).map fun p => (p.2 : Int)) ∧ Keeps w w'
/-- What is appended to one of two rows leaves the other one. -/
theorem two_first {w w5 w6 : World} {v4 v5 u4 : Value} {m : List Int} {o : Obj} (h5 : OwnE rowN w5 w.heap.size v5 m) (hne : ∀ g, v4.ownBlock = some g → v5.ownBlock ≠ some g) (g4 : (w5.alloc o).grownBy w6 v4.ownBlock)
    (a4 : u4.ownBlock = v4.ownBlock ∨ u4.ownBlock = some (w5.heap.size + 1)) : OwnE rowN w6 w.heap.size v5 m ∧ ∀ g, u4.ownBlock = some g → v5.ownBlock ≠ some g := by
  refine ⟨(h5.keeps ((Keeps.refl w5).alloc o)).stays g4 fun b hb => hne b hb, fun g hg e => ?_⟩
  rcases a4 with a4 | a4
  · exact hne g (by rw [← a4]; exact hg) e
  · rw [a4] at hg
    have := h5.old e
    injection hg with hg
    omega
def skipRel (wB : World) (T : Tb) (A : Nat) (v : Value) (wr : World) : Prop := ∃ p : Nat, A + 1 ≤ p ∧ p ≤ nx T (A + 1) ∧ v = .int .i64 (p : Int) ∧ Eqv wB wr
set_option maxHeartbeats 6400000 in
theorem rtout_any {S : Nat → Prop} {x : Nat} {T : Tb} {w : World} (h : RtAt S x T w) : Calls Try.prog 31 #[.pointer (some ⟨x, 0, none⟩)] w (RtOutPost w T) := by
  have HFI := Lib.hid (fun (a : Nat) (ha : a < 191 * T.R) (W : World) (k : Keeps w W) => rtfirst_any (h.keeps k) ha)
  obtain ⟨bb, bi, bs, h⟩ := h
  obtain ⟨hr1, hr2⟩ := h.ok.bd
  have HC := Lib.hid (fun (W : World) (k : Keeps w W) => (h.keeps k).c)
  have HS := Lib.hid (fun (W : World) (k : Keeps w W) => (h.keeps k).s)
  obtain ⟨R, hR⟩ : ∃ R, T.R = R := ⟨_, rfl⟩
  have HR := Lib.hid hR
  rw [hR] at hr1 hr2 HC HS HFI
  clear h hR
  have wr1 := wrapI (a := 191 * (R : Int)) (by omega) (by omega)
  go_enter Try.func31, Try.ntmps31
  go_wp2
  go_loopw [4, 5, 6] (fun v4 v5 v6 wr => outRelD w T v4 v5 v6 wr) (fun _ _ v6 _ => 191 * R - (intOf v6).toNat)
  case atStart => exact ⟨0, 191 * T.R, [], rfl, by omega, by omega, rfl, by simp, OwnE.nil _ _, OwnE.nil _ _, (fun g hg => by cases hg), Keeps.refl w⟩
  case round =>
    obtain ⟨A, f, done, rfl, hD⟩ := hrel
    have hA := hD.fa
    have hdl := hD.fl
    rw [HR.out] at hA
    have c0 := (HC.out wr hD.kp).cell 0 rfl
    have HDD := Lib.hid hD
    clear hD
    by_cases hlt : A < 191 * R
    · have hAI : (A : Int) < 191 * (R : Int) := by omega
      have HF1 := Lib.hid (HFI.out A hlt wr HDD.out.kp)
      have HHIT := Lib.hid (fun hp u4 u5 W' h4 h5 hne hk => HDD.out.hit (by rw [HR.out]; exact hr1) (by rw [HR.out]; exact hlt) hp (u4 := u4) (u5 := u5) (W' := W') h4 h5 hne hk)
      have HMISS := Lib.hid (fun hp W' hk => HDD.out.miss (by rw [HR.out]; exact hlt) hp (W' := W') hk)
      have hfb := firstT_kle (T := T) (by rw [HR.out]; exact hr1) A
      have hkb := kn_le T (a := A) (by rw [HR.out]; exact hA)
      rw [HR.out] at hkb
      obtain ⟨F, hF⟩ : ∃ F, firstT T A = F := ⟨_, rfl⟩
      rw [hF] at HF1 HHIT HMISS hfb
      have hFb : A + F ≤ 191 * R := by omega
      clear hF hfb hkb
      by_cases hF0 : 0 < F
      · have hFI : (0 : Int) < (F : Int) := by omega
        have wr2 := wrapI (a := (A : Int) + (F : Int)) (by omega) (by omega)
        have HH := Lib.hid (fun u4 u5 W' h4 h5 hne hk => HHIT.out hF0 u4 u5 W' h4 h5 hne hk)
        have hl1 : (done.map fun p => (p.1 : Int)).length ≤ 100000000 := by rw [List.length_map]; omega
        have hl2 : (done.map fun p => (p.2 : Int)).length ≤ 100000000 := by rw [List.length_map]; omega
        have HF0 := Lib.hid hF0
        clear HHIT HMISS hF0
        go_wp2_with (first | (go_at_call 43; refine HF1.out.mono ?_; rintro _ w5 ⟨rfl, k5⟩; have HO4 := Lib.hid (HDD.out.o4.keeps k5); have HO5 := Lib.hid (HDD.out.o5.keeps k5); have HK5 := Lib.hid (HDD.out.kp.trans k5); have tok1 : True := trivial; clear k5) | (at_builtin; have _t := tok1; refine wp_pushE (T := rowN) rfl _ _ rfl (A : Int) #[.int .i64 (A : Int)] rfl w5.heap.size rfl HO4.out rfl rfl hl1 (Below.size HK5.out) _ ?_; intro v6 w6 own6 grow6 at6; have HT6 := Lib.hid (two_first HO5.out HDD.out.ne grow6 at6); have HO6 := Lib.hid own6; have HK6 := Lib.hid ((HK5.out.alloc _).grown grow6 HO4.out.block); have tok2 : True := trivial; clear own6 grow6 at6 tok1 _t) | (at_builtin; have _t := tok2; refine wp_pushE (T := rowN) rfl _ _ rfl (F : Int) #[.int .i64 (F : Int)] rfl w6.heap.size rfl HT6.out.1 rfl rfl hl2 (Below.size HK6.out) _ ?_; intro v7 w7 own7 grow7 at7; have HT7 := Lib.hid (two_first HO6.out (fun g hg e => HT6.out.2 g e hg) grow7 at7); have HO7 := Lib.hid own7; have HK7 := Lib.hid ((HK6.out.alloc _).grown grow7 HT6.out.1.block); clear own7 grow7 at7 tok2 _t))
        go_roundw
        case rel => exact ⟨A + F, f - 1, done ++ [(A, F)], by go_num, HH.out v6 v7 w7 HT7.out.1 HO7.out (fun g hg e => HT7.out.2 g e hg) HK7.out⟩
        case measure => have := HF0.out; simp [intOf]; omega
      · obtain rfl : F = 0 := by omega
        have hFI : ¬ ((0 : Int) < (0 : Int)) := by omega
        have wr2 := wrapI (a := (A : Int) + 1) (by omega) (by omega)
        have HM := Lib.hid (fun W' hk => HMISS.out (by omega) W' hk)
        have HNL := Lib.hid (fun m h1 h2 => nx_lt T (A + 1) m h1 h2)
        obtain ⟨hns, hnst⟩ := nx_stop T (A + 1)
        have HNS := Lib.hid hnst
        rw [HR.out] at HNL HNS
        have hxb : nx T (A + 1) ≤ 191 * R := by
          refine Classical.byContradiction fun z => ?_
          have := (HNL.out (nx T (A + 1) - 1) (by omega) (by omega)).1
          omega
        obtain ⟨N, hN⟩ : ∃ N, nx T (A + 1) = N := ⟨_, rfl⟩
        have HN := Lib.hid hN
        rw [hN] at HM HNL HNS hns hxb
        clear HHIT HMISS hF0 hN hnst
        go_wp2_with (go_at_call 43; refine HF1.out.mono ?_; rintro _ w5 ⟨rfl, k5⟩; have HKW := Lib.hid (HDD.out.kp.trans k5); have HMW := Lib.hid (fun W (e : Eqv w5 W) => HM.out W (k5.eqv e)); clear k5 c0)
        go_loopw [6] (fun v wr => skipRel w5 T A v wr) (fun v _ => 191 * R - (intOf v).toNat)
        case atStart => exact ⟨A + 1, Nat.le_refl _, by rw [HN.out]; exact hns, by go_num, Eqv.refl w5⟩
        case round =>
          obtain ⟨p, hp1, hp2, rfl, hw⟩ := hrel
          rw [HN.out] at hp2
          have c0 := (HC.out _ (HKW.out.eqv hw)).cell 0 rfl
          have c3 := (HC.out _ (HKW.out.eqv hw)).cell 3 rfl
          have HSC := Lib.hid (fun (hp : p < 191 * R) => (HS.out _ (HKW.out.eqv hw)).cell p hp)
          have HW := Lib.hid hw
          clear hw
          by_cases hpN : p < N
          · obtain ⟨g1, g2⟩ := HNL.out p hp1 hpN
            have d1 := HSC.out g1
            rw [g2] at d1
            have hpI : (p : Int) < 191 * (R : Int) := by omega
            have wr3 := wrapI (a := (p : Int) + 1) (by omega) (by omega)
            clear g1 g2
            go_wp2
            go_roundw
            case rel => exact ⟨p + 1, by omega, by rw [HN.out]; omega, by go_num, HW.out⟩
            case measure => simp [intOf]; omega
          · obtain rfl : p = N := by omega
            have hst := HNS.out
            by_cases hpl : p < 191 * R
            · have hIs : T.St p = true := by
                cases z : T.St p
                · exact absurd ⟨hpl, z⟩ hst
                · rfl
              have d1 := HSC.out hpl
              rw [hIs] at d1
              have hpI : (p : Int) < 191 * (R : Int) := by omega
              clear hst hIs hpl
              go_wp2
              go_roundw
              case rel => exact ⟨p, f - 1, done, rfl, HMW.out _ HW.out⟩
              case measure => simp [intOf]; omega
            · have hpI : ¬ ((p : Int) < 191 * (R : Int)) := by omega
              clear hst hpl
              go_wp2
              go_roundw
              case rel => exact ⟨p, f - 1, done, rfl, HMW.out _ HW.out⟩
              case measure => simp [intOf]; omega
    · have hAI : ¬ ((A : Int) < 191 * (R : Int)) := by omega
      have HE := Lib.hid (HDD.out.ends (by rw [HR.out]; exact hlt))
      go_wp2
      go_ret2
      exact ⟨u4, u5, rfl, by rw [← HE.out]; exact HDD.out.o4, by rw [← HE.out]; exact HDD.out.o5, HDD.out.kp⟩
end Go.Proofs.Ytpkidopnkofccaa
