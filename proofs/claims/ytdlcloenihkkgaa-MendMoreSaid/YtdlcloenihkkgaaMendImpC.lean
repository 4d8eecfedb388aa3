/-
  What unknown of package mend answers: where Euclid's steps end. The memory that was there stays.
-/
import Derived.Test.YtdlcloenihkkgaaMendImpB
namespace Go.Proofs.Ytdlcloenihkkgaa
open Go.RowKit Go.Shelf Gf
set_option maxRecDepth 100000
/-- A frame of 42 slots of which the first nine are known. -/
theorem frame42 {a : Act} {v0 v1 v2 v3 v4 v5 v6 v7 v8 : Value} (hs : a.tmps.size = 42) (hd : a.defers = []) (ht : a.tmps.toList.take 9 = [v0, v1, v2, v3, v4, v5, v6, v7, v8]) :
    ∃ us : Nat → Value, a = { tmps := List.toArray (v0 :: v1 :: v2 :: v3 :: v4 :: v5 :: v6 :: v7 :: v8 :: us 9 :: us 10 :: us 11 :: us 12 :: us 13 :: us 14 :: us 15 :: us 16 :: us 17 :: us 18 :: us 19 :: us 20 :: us 21 :: us 22 :: us 23 :: us 24 :: us 25 :: us 26 :: us 27 :: us 28 :: us 29 :: us 30 :: us 31 :: us 32 :: us 33 :: us 34 :: us 35 :: us 36 :: us 37 :: us 38 :: us 39 :: us 40 :: us 41 :: []), defers := [] } := by
  obtain ⟨⟨l⟩, d⟩ := a
  simp only at hd ht
  subst hd
  have hl : l.length = 42 := by simpa using hs
  refine ⟨fun i => (l.drop 9).getD (i - 9) undef, ?_⟩
  have e1 : l = [v0, v1, v2, v3, v4, v5, v6, v7, v8] ++ l.drop 9 := by rw [← ht, List.take_append_drop]
  have e2 := list_eta (l.drop 9)
  rw [List.length_drop, hl] at e2
  generalize hf : (fun i => (l.drop 9).getD i undef) = f at e2
  have e3 : ∀ k, (l.drop 9).getD k undef = f k := fun k => by rw [← hf]
  simp only [e3]
  rw [e2] at e1
  rw [e1]
  rfl
def trimLen : Value → Nat | .string s => (trim (ls s)).length | _ => 0
def UnkPost (w0 : World) (S K : List UInt8) (nu : Nat) (e : Ending) (w' : World) : Prop :=
  ∃ hi lo bef now : List UInt8, e = .returned (.string (st now)) ∧ Euc (low64 S K) hi lo bef now ∧ 64 + nu + 2 ≤ 2 * (trim hi).length ∧ 2 * (trim lo).length < 64 + nu + 2 ∧ Keeps w0 w'
def UnkJ (w0 : World) (S K : List UInt8) (nu : Nat) (a : Act) (w : World) : Prop :=
  ∃ hi lo bef now : List UInt8, (hi.length ≤ 65 ∧ lo.length ≤ 64) ∧ Euc (low64 S K) hi lo bef now ∧ 64 + nu + 2 ≤ 2 * (trim hi).length ∧ Keeps w0 w ∧ a.tmps.size = 42 ∧ a.defers = [] ∧
    a.tmps.toList.take 9 = [.string (st S), .string (st K), undef, undef, .string ⟨#[]⟩, .string (st hi), .string (st lo), .string (st bef), .string (st now)]
theorem x64_st : st (z8 64) ++ ⟨#[1]⟩ = st (List.replicate 64 0 ++ [1]) := by
  have h : ls (st (z8 64) ++ ⟨#[1]⟩) = List.replicate 64 0 ++ [1] := by kernel_rfl
  rw [← h, st_ls]
set_option maxHeartbeats 1600000 in
theorem unk_any (w0 : World) (S K : List UInt8) (nu : Nat) (w : World) (hS : S.length ≤ 1000) (hK : K.length ≤ 1000) (hnu : (trim K).length = nu + 1) (hnu2 : nu ≤ 64) (hk : Keeps w0 w) :
    Calls Try.prog 33 #[.string (st S), .string (st K)] w (UnkPost w0 S K nu) := by
  have HS := Lib.hid (show (st S).size ≤ 100000 by rw [st_size]; omega)
  have HKS := Lib.hid (show (st K).size ≤ 100000 by rw [st_size]; omega)
  have HNU := Lib.hid hnu
  clear hnu
  go_enter Try.func33, Try.ntmps33
  go_wp2
  refine scope_loop (rest := ?rest) 0 (UnkJ w0 S K nu) (fun a _ => trimLen (a.tmps.getD 6 undef)) ?hf ?pass ?first
  case hf => rfl
  case first =>
    intro hrest
    have HREST := Lib.hid hrest
    clear hrest
    go_wp2_with fail
    refine (repeat0 64 w (by omega)).mono ?_
    rintro e w1 ⟨rfl, hb1⟩
    have hk1 := hk.trans hb1
    clear hb1 hk
    go_wp2_with fail
    refine (pmul_any w0 _ _ w1 HS.out HKS.out hk1).mono ?_
    rintro e w2 ⟨rfl, hk2⟩
    rw [ls_st, ls_st]
    have HML := Lib.hid (show (st (pmul S K)).size ≤ 1000000 by
      rw [st_size]
      have : (pmul S K).length ≤ S.length + K.length := by rw [← pmul_trim]; exact trim_len_le fun i hi => by rw [cf_pmul]; exact pmul_upto S K i hi
      omega)
    clear hk1
    go_wp2_with fail
    refine (mlowest_any _ w2 HML.out).mono ?_
    rintro e w3 ⟨rfl, rfl⟩
    rw [ls_st]
    go_wp2
    rw [x64_st]
    go_step3
    rename_i hK
    refine hK _ _ (HREST.out _ _ ⟨List.replicate 64 0 ++ [1], low64 S K, [], [1], ⟨by simp, low64_length _ _⟩, Euc.start (low64_length _ _), ?_, hk2, rfl, rfl, rfl⟩)
    rw [x64_trim, List.length_append, List.length_replicate]
    show 64 + nu + 2 ≤ 2 * (64 + 1)
    omega
  case pass =>
    rintro a w' ⟨hi, lo, bef, now, ⟨hhi, hlo⟩, heuc, hdeg, hkw, hfs, hfd, hft⟩
    obtain ⟨us, rfl⟩ := frame42 hfs hfd hft
    clear hfs hfd hft
    have HEU := Lib.hid heuc
    have HDG := Lib.hid hdeg
    have HHI := Lib.hid (show (st hi).size ≤ 100000 by rw [st_size]; omega)
    have HLO := Lib.hid (show (st lo).size ≤ 100000 by rw [st_size]; omega)
    have HNW := Lib.hid (show (st now).size ≤ 66 by have := heuc.deg; rw [st_size]; omega)
    have HBF := Lib.hid (show (st bef).size ≤ 100000 by have := heuc.deg; have := heuc.less; rw [st_size]; omega)
    have HTL := Lib.hid (Nat.le_trans (trim_le lo) hlo)
    have HLL := Lib.hid hlo
    clear heuc hdeg hlo hhi hk
    go_wp2_with fail
    refine (pdeg_any w0 _ w' HLO.out hkw).mono ?_
    rintro e w1 ⟨rfl, hk1⟩
    rw [ls_st]
    clear hkw
    obtain ⟨t, ht⟩ : ∃ t, (trim lo).length = t := ⟨_, rfl⟩
    have htl := HTL.out
    rw [ht] at htl
    rw [ht]
    have HT := Lib.hid ht
    clear ht
    go_wp2_with fail
    refine (pdeg_any w0 _ w1 HKS.out hk1).mono ?_
    rintro e w2 ⟨rfl, hk2⟩
    rw [ls_st, HNU.out]
    clear hk1
    by_cases hc : 64 + nu + 2 ≤ 2 * t
    · have hc2 : 64 + (((nu + 1 : Nat) : Int) - 1) ≤ 2 * ((t : Int) - 1) := by omega
      go_wp2_with fail
      refine (pdiv_any w0 _ _ w2 HHI.out HLO.out (fun e => ?_) hk2).mono ?_
      · rw [ls_st] at e
        have := HT.out
        rw [e] at this
        simp only [List.length_nil] at this
        omega
      rintro e w3 ⟨q, r, rfl, hq, hr, hrl, hd, hk3⟩
      rw [ls_st] at hrl hd
      rw [ls_st] at hd
      have htn : trim lo ≠ [] := fun e => by
        have := HT.out
        rw [e] at this
        simp only [List.length_nil] at this
        omega
      have HST := Lib.hid (HEU.out.step htn hq hr hrl hd)
      have HRL := Lib.hid hrl
      have HR := Lib.hid hr
      have HQS := Lib.hid (show (st q).size ≤ 1000 by
        rw [st_size]
        by_cases e : q = []
        · rw [e]; simp
        have h1 := pmul_length (a := q) (b := lo) (by rw [hq]; exact e) htn
        rw [hq] at h1
        have h4 := HEU.out.deg
        have h5 := HEU.out.fall
        have h6 : pmul q lo = padd (trim hi) r := by rw [← hd, padd_assoc, padd_self, padd_nil, pmul_trim]
        have h7 := padd_length (trim hi) r
        rw [← h6, trim_trim, hr] at h7
        omega)
      clear hq hr hrl hd htn hk2
      go_wp2_with fail
      refine (pmul_any w0 _ _ w3 (Nat.le_trans HQS.out (by omega)) (Nat.le_trans HNW.out (by omega)) hk3).mono ?_
      rintro e w4 ⟨rfl, hk4⟩
      rw [ls_st, ls_st]
      have HMS := Lib.hid (show (st (pmul q now)).size ≤ 100000 by
        have h1 := HQS.out
        have h2 := HNW.out
        rw [st_size] at h1 h2 ⊢
        have : (pmul q now).length ≤ q.length + now.length := by rw [← pmul_trim]; exact trim_len_le fun i hi => by rw [cf_pmul]; exact pmul_upto q now i hi
        omega)
      clear hk3
      go_wp2_with fail
      refine (padd_two w0 _ _ _ w4 HBF.out HMS.out hk4).mono ?_
      rintro e w5 ⟨rfl, hk5⟩
      rw [ls_st, ls_st]
      clear hk4
      go_wp2
      go_step3
      have hlo2 := HLL.out
      have hrl2 := HRL.out
      have htt := HT.out
      refine ⟨rfl, ⟨lo, r, now, padd bef (pmul q now), ⟨by omega, by omega⟩, HST.out, by omega, hk5, rfl, rfl, rfl⟩, ?_⟩
      show (trim (ls (st r))).length < (trim (ls (st lo))).length
      rw [ls_st, ls_st, HR.out]; exact hrl2
    · have hc2 : 2 * ((t : Int) - 1) < 64 + (((nu + 1 : Nat) : Int) - 1) := by omega
      go_wp2
      show bodyPost Try.prog Try.f33 (UnkPost w0 S K nu) Exit.ret _ _
      go_ret
      exact ⟨hi, lo, bef, now, rfl, HEU.out, HDG.out, by rw [HT.out]; omega, hk2⟩
end Go.Proofs.Ytdlcloenihkkgaa
