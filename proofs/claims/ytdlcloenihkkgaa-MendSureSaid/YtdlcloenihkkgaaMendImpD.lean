/-
  What places of package mend answers: the lost places, and those that the locator of others tells. The memory that was there stays.
-/
import Derived.Test.YtdlcloenihkkgaaMendImpC
namespace Go.Proofs.Ytdlcloenihkkgaa
open Go.RowKit Go.Shelf Gf
set_option maxRecDepth 100000
theorem ge_fi {n : Nat} (hn : n ≤ 254) : ge (-(254 - (n : Int))) = ((fi (px n)).toNat : Int) := by
  have h1 : (px n).toNat = expN (254 - n) := by
    unfold px
    rw [pw_toNat, show (254 - (n : Int)).toNat = 254 - n by omega, Nat.mod_eq_of_lt (by omega)]
  rw [fi_toNat, h1, invN, log_exp (by omega)]
  unfold ge
  congr 2
  omega
theorem OwnI.base {w : World} {base base' : Nat} {v : Value} {l : List Int} (h : OwnI w base v l) (hb : base' ≤ base) : OwnI w base' v l := by
  obtain ⟨hl, h⟩ := h
  refine ⟨hl, ?_⟩
  rcases h with h | ⟨g, cap, cur, hv, hg, h5⟩
  · exact .inl h
  · exact .inr ⟨g, cap, cur, hv, Nat.le_trans hb hg, h5⟩
def plcRel (wB : World) (L : List Int) (q : List UInt8) (v i : Value) (wr : World) : Prop :=
  ∃ n : Nat, n ≤ 255 ∧ i = .int .i64 (n : Int) ∧ OwnI wr wB.heap.size v (plc L q n) ∧ Keeps wB wr
def PlcPost (w : World) (L : List Int) (q : List UInt8) (e : Ending) (w' : World) : Prop := ∃ v, e = .returned v ∧ OwnI w' w.heap.size v (plc L q 255) ∧ Keeps w w'
theorem plc_length_le (L : List Int) (q : List UInt8) (n : Nat) : (plc L q n).length ≤ n := by
  rw [plc_count]
  have := List.countP_le_length (p := hitB L q) (l := List.range n)
  rwa [List.length_range] at this
set_option maxHeartbeats 1600000 in
theorem plc_any (a : Option Addr) (len cap : Nat) (L : List Int) (q : List UInt8) (w : World) (hr : IsI w a len L) (hlen : len ≤ 1000) (ht : trim q = q) (hq : q ≠ []) (hql : q.length ≤ 1000) :
    Calls Try.prog 32 #[.slice a len cap, .string (st q)] w (PlcPost w L q) := by
  have hl := hr.1
  have HR := Lib.hid hr
  have HQ := Lib.hid (show (st q).size ≤ 100000 by rw [st_size]; omega)
  have HT := Lib.hid ht
  have HN := Lib.hid hq
  have hq0 := List.length_pos_iff.2 hq
  clear hr ht hq
  go_enter Try.func32, Try.ntmps32
  go_wp2
  refine scope_loop (rest := ?rest) 0 (fun _ _ => False) (fun _ _ => 0) ?hf ?pass ?first
  case hf => rfl
  case pass => exact fun _ _ h => h.elim
  case first =>
    intro hrest
    clear hrest
    go_wp2_with fail
    refine (new_any w).mono ?_
    rintro e w1 ⟨rfl, hf, hbel⟩
    go_wp2_with fail
    refine (pdeg_any w1 _ w1 HQ.out (Keeps.refl _)).mono ?_
    rintro e w2 ⟨rfl, hk2⟩
    rw [ls_st, HT.out]
    have HF := Lib.hid (hf.below hf.old hk2)
    have HK := Lib.hid (Keeps.trans (show Keeps w w1 from hbel) hk2)
    clear hf hbel hk2
    obtain ⟨fb, hfb⟩ : ∃ fb, w.heap.size = fb := ⟨_, rfl⟩
    rw [hfb] at HF
    rw [hfb]
    go_wp2
    refine wp_label ?_
    go_wp2
    go_loopw [7, 15] (fun v i wr => plcRel w2 L q v i wr) (fun _ i _ => 255 - (intOf i).toNat)
    case atStart => exact ⟨0, by omega, rfl, OwnI.nil _ _, Keeps.refl _⟩
    case round =>
      obtain ⟨n, hn, rfl, hown, hkp⟩ := hrel
      have hml := plc_length_le L q n
      have HPL := Lib.hid (plc_le (L := L) HT.out HN.out hn)
      have HFU := Lib.hid (plc_full (L := L) HT.out HN.out hn)
      have HSZ := Lib.hid (Below.size HK.out)
      by_cases hlt : n < 255
      · have HNX := Lib.hid (show plc L q (n + 1) = plc L q n ++ (if hitB L q n then [(n : Int)] else []) from rfl)
        obtain ⟨A, hA⟩ : ∃ A, plc L q n = A := ⟨_, rfl⟩
        rw [hA] at hown hml HPL HFU HNX
        clear hA
        obtain ⟨ax, cx, rfl, hisx⟩ := hown.isI
        have hnl : (n : Int) < 255 := by omega
        by_cases hmost : A.length + 1 = len + q.length
        · have hb : ((A.length : Int) == (len : Int) + ((q.length : Int) - 1)) = true := by rw [beq_iff_eq]; omega
          have HE := Lib.hid (HFU.out (by rw [hl]; omega))
          go_wp2
          go_ret
          exact ⟨_, rfl, by rw [← HE.out]; exact hown.base (by have := HSZ.out; omega), HK.out.trans hkp⟩
        · have hb : ((A.length : Int) == (len : Int) + ((q.length : Int) - 1)) = false := by rw [beq_eq_false_iff_ne]; omega
          have hisL := HR.out.kept (HK.out.trans hkp)
          go_wp2_with fail
          refine (contains_any a len cap L n wr hisL (by omega)).mono ?_
          rintro e w3 ⟨rfl, rfl⟩
          by_cases hm : (n : Int) ∈ L
          · have hin : inL L n = true := decide_eq_true hm
            have HH := Lib.hid (show hitB L q n = true by unfold hitB; simp [hm])
            rw [hin]
            rw [HH.out, if_pos rfl] at HNX
            have HOW := Lib.hid hown
            clear hown hisx hisL hm
            have hle : A.length ≤ 1000000000 := by omega
            go_wp2_with (at_builtin; refine wp_pushI rfl _ _ rfl (n : Int) HOW.out rfl rfl hle hkp ?_; intro v4 w4 hown4 hkp4)
            go_roundw
            case rel => exact ⟨n + 1, by omega, by go_num, by rw [HNX.out]; exact hown4, hkp4⟩
            case measure => simp [intOf]; omega
          · have hin : inL L n = false := decide_eq_false hm
            rw [hin]
            have HOW := Lib.hid hown
            have HM := Lib.hid hm
            clear hown hisx hisL hm
            go_wp2_with fail
            refine (mpower_any _ _ (by omega) (by omega)).mono ?_
            rintro e w3 ⟨rfl, rfl⟩
            go_wp2_with fail
            refine (fexp_any fb _ _ (HF.out.below HF.out.old hkp)).mono ?_
            rintro e w3 ⟨rfl, hb3⟩
            rw [ge_fi (by omega)]
            have HK3 := Lib.hid (Keeps.trans hkp (show Keeps wr w3 from hb3))
            have HOW3 := Lib.hid (HOW.out.kept (show Keeps wr w3 from hb3))
            clear hb3 hkp
            go_wp2_with fail
            refine (pat_any w3 _ (fi (px n)) w3 HQ.out (Keeps.refl _)).mono ?_
            rintro e w4 ⟨rfl, hk4⟩
            rw [ls_st]
            have HK4 := Lib.hid (HK3.out.trans hk4)
            have HOW4 := Lib.hid (HOW3.out.kept hk4)
            clear hk4
            have hle : A.length ≤ 1000000000 := by omega
            obtain ⟨y, hy⟩ : ∃ y, pat q (fi (px n)) = y := ⟨_, rfl⟩
            rw [hy]
            have HH := Lib.hid (show hitB L q n = decide (y = 0) by unfold hitB; rw [hy]; simp [HM.out])
            clear hy
            by_cases e0 : y = 0
            · subst e0
              rw [HH.out, decide_eq_true rfl, if_pos rfl] at HNX
              have hz : ((0 : UInt8).toNat : Int) = 0 := rfl
              rw [hz]
              have hkp4 := HK4.out
              go_wp2_with (at_builtin; refine wp_pushI rfl _ _ rfl (n : Int) HOW4.out rfl rfl hle hkp4 ?_; intro v5 w5 hown5 hkp5)
              go_roundw
              case rel => exact ⟨n + 1, by omega, by go_num, by rw [HNX.out]; exact hown5, hkp5⟩
              case measure => simp [intOf]; omega
            · rw [HH.out, decide_eq_false e0, if_neg (by decide), List.append_nil] at HNX
              have hz : ((y.toNat : Int) == 0) = false := by
                rw [beq_eq_false_iff_ne]
                intro h
                exact toNat_ne e0 (by omega)
              go_wp2
              go_roundw
              case rel => exact ⟨n + 1, by omega, by go_num, by rw [HNX.out]; exact HOW4.out, HK4.out⟩
              case measure => simp [intOf]; omega
      · have hnl : 255 ≤ (n : Int) := by omega
        have HE := Lib.hid (show n = 255 by omega)
        rw [HE.out] at hown
        go_wp2
        go_ret
        exact ⟨_, rfl, hown.base (by have := HSZ.out; omega), HK.out.trans hkp⟩
end Go.Proofs.Ytdlcloenihkkgaa
