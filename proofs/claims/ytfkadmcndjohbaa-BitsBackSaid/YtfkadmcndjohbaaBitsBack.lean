/-
  For any calls BitsBack returns true: what was written is read again, in order, and fewer than eight bits are left, all 0; nothing that was there is changed. No condition.
-/
import Derived.Test.YtfkadmcndjohbaaRows
import Derived.Test.YtfkadmcndjohbaaBitsOp
namespace Go.Proofs.Ytfkadmcndjohbaa.bitsBack
open Go.ChangeShapes Go.WideShapes Go.ChangeAt Go.RowKit Gf Bit
set_option maxRecDepth 100000
set_option linter.unusedVariables false
/-- What of all bits is read from a call's place on. -/
theorem part_all {l : List OpD} {k : Nat} {o : OpD} (h : l[k]? = some o) : ((ob (ls (st (pack (allBits l))))).drop (allBits (l.take k)).length).take o.bits.length = o.bits := by
  have e : allBits l = allBits (l.take k) ++ o.bits ++ allBits (l.drop (k + 1)) := by rw [← allBits_succ h]; exact allBits_split l (k + 1)
  rw [ls_st]
  have := part_pack (allBits (l.take k)) o.bits (allBits (l.drop (k + 1)))
  rwa [← e] at this
theorem fits {l : List OpD} {k : Nat} {o : OpD} (h : l[k]? = some o) : (allBits (l.take k)).length + o.bits.length ≤ 8 * (st (pack (allBits l))).size := by
  have e : (allBits l).length = (allBits (l.take (k + 1))).length + (allBits (l.drop (k + 1))).length := by rw [← List.length_append, ← allBits_split]
  rw [allBits_succ h, List.length_append] at e
  rw [st_size, pack_length]; omega
theorem back_text {l : List OpD} {k : Nat} {o : OpD} (h : l[k]? = some o) (ht : o.t = true) : nx (st (pack (allBits l))) (allBits (l.take k)).length o.s.size = ls o.s := by
  have hb : o.bits = ob (ls o.s) := by unfold OpD.bits; rw [if_pos ht]
  have := part_all h
  rw [hb, ob_length, ← ls_size] at this
  unfold nx
  rw [this, pack_ob]
theorem back_num {l : List OpD} {k : Nat} {o : OpD} (h : l[k]? = some o) (ht : o.t = false) (hb : o.bad = false) : num (((ob (ls (st (pack (allBits l))))).drop (allBits (l.take k)).length).take o.n.toNat) = o.x % 2 ^ o.n.toNat := by
  have hbt : o.bits = lb o.x o.n.toNat := by unfold OpD.bits; rw [if_neg (by simp [ht]), if_neg (by simp [hb])]
  have := part_all h
  rw [hbt, lb_length] at this
  rw [this, num_lb]
/-- While calls are written. -/
def wrRel (w : World) (b : Nat) (l : List OpD) (i : Value) (wr : World) : Prop := ∃ k : Nat, k ≤ l.length ∧ i = .int .i64 (k : Int) ∧ OutAt b (allBits (l.take k)) wr ∧ Keeps w wr
/-- While they are read. -/
def rdRel (w : World) (r : Nat) (P : ByteArray) (l : List OpD) (i : Value) (wr : World) : Prop := ∃ k : Nat, k ≤ l.length ∧ i = .int .i64 (k : Int) ∧ InAt r 0 P (allBits (l.take k)).length wr ∧ Keeps w wr
/-- While a unit is doubled. -/
def unRel (w : World) (N : Nat) (u i : Value) (wr : World) : Prop := ∃ k : Nat, k ≤ N ∧ i = .int .i64 (k : Int) ∧ u = .int .u64 (un (2 ^ k)) ∧ w = wr
theorem un_two {k : Nat} (h : k < 63) : IntKind.u64.wrap (2 * un (2 ^ k)) = un (2 ^ (k + 1)) := by
  have h1 : 2 ^ k ≤ 2 ^ 62 := Nat.pow_le_pow_right (by decide) (by omega)
  unfold un
  rw [IntKind.wrap_u64, Nat.pow_succ]
  omega
theorem once3 {wa w7 : World} {r g : Nat} {X : World → Prop} {v : Value} {L : Nat → Bool} (hw : Once 4 (Eqv wa) (fun w7 => X w7 ∧ Only r wa w7) L w7) (hgw : g < wa.heap.size) (hgr : g ≠ r) (d : wa.cell? ⟨g, 3, none⟩ = some v) : w7.cell? ⟨g, 3, none⟩ = some v := by
  rcases Bool.eq_false_or_eq_true (L 4) with h4 | h4
  · exact ((hw.2 h4).2.cell (p := ⟨g, 3, none⟩) hgw hgr).trans d
  · exact ((hw.1 h4).cell _).trans d
set_option maxHeartbeats 8000000 in
theorem core (a : Option Addr) (len cap : Nat) (l : List OpD) (w : World) (h : IsO w a len l) (hm : len ≤ maxLen) (hf : fewB l = true) :
    Calls Try.prog 5 #[.slice a len cap] w fun e w' => e = .returned (.bool true) ∧ Below w.heap.size w w' := by
  obtain ⟨h60, hs60⟩ := few_yes hf
  have HF := Lib.hid (few_any (cap := cap) w h hm)
  rw [hf] at HF
  obtain ⟨N, hN⟩ : ∃ N, l.length = N := ⟨_, rfl⟩
  have hll : len = N := by rw [← hN]; exact h.1
  subst hll
  have hlen60 : len ≤ 60 := by omega
  have HN := Lib.hid hN
  have HH := Lib.hid h
  have HS := Lib.hid hs60
  have HAL := Lib.hid (show (allBits l).length ≤ 28800 by have := all_le hs60; omega)
  have HAK := Lib.hid (show ∀ k, (allBits (l.take k)).length ≤ 28800 from fun k => by have := congrArg List.length (allBits_split l k); rw [List.length_append] at this; have := HAL.out; omega)
  have hO := out_zero w
  have hk := Keeps.alloc (Keeps.refl w) (.cells zout 30)
  obtain ⟨w1, hw1⟩ : ∃ w1, w.alloc (.cells zout 30) = w1 := ⟨_, rfl⟩
  rw [hw1] at hO hk
  obtain ⟨b, hb⟩ : ∃ b, w.heap.size = b := ⟨_, rfl⟩
  rw [hb] at hO
  have HB := Lib.hid hb
  have HO := Lib.hid hO
  have HK := Lib.hid hk
  clear hO hk h hN hs60 h60 hf hm
  go_enter Try.func5, Try.ntmps5
  go_wp2_with (first | (go_at_call 9; refine HF.out.mono ?_; rintro _ _ ⟨rfl, rfl⟩) | (with_reducible refine wpList_allocZ infoOut rfl rfl ?_; rw [hw1, hb]))
  go_loopw [4] (fun i wr => wrRel w b l i wr) (fun i _ => len - (intOf i).toNat)
  case atStart => exact ⟨0, by omega, rfl, HO.out, HK.out⟩
  case round =>
    obtain ⟨k, hk, rfl, hO2, hk2⟩ := hrel
    rw [HN.out] at hk
    have HO2 := Lib.hid hO2
    have HK2 := Lib.hid hk2
    clear hO2 hk2
    by_cases hlt : k < len
    · obtain ⟨rb, off, rfl, hrb, hc⟩ := HH.out.2.2 (by rw [HN.out]; omega)
      obtain ⟨o, ho⟩ : ∃ o, l[k]? = some o := ⟨l[k]'(by rw [HN.out]; exact hlt), List.getElem?_eq_getElem _⟩
      have hok := HH.out.2.1 o (List.mem_of_getElem? ho)
      have hos := HS.out o (List.mem_of_getElem? ho)
      have q0 := (Below.cell HK2.out (p := ⟨rb, off + k * 4, none⟩) hrb).trans (hc k o ho 0 _ rfl)
      have q1 := (Below.cell HK2.out (p := ⟨rb, off + k * 4 + 1, none⟩) hrb).trans (hc k o ho 1 _ rfl)
      have q2 := (Below.cell HK2.out (p := ⟨rb, off + k * 4 + 2, none⟩) hrb).trans (hc k o ho 2 _ rfl)
      have q3 := (Below.cell HK2.out (p := ⟨rb, off + k * 4 + 3, none⟩) hrb).trans (hc k o ho 3 _ rfl)
      have HW := Lib.hid (lwrite_any HO2.out o hok (by omega) (by have := HAK.out k; omega))
      unfold OpD.cells at HW
      have HSU := Lib.hid (allBits_succ ho)
      have hkI : (k : Int) < (len : Int) := by omega
      clear hc hok hos
      go_wp2_with (go_at_call 11; refine HW.out.mono ?_; rintro _ w3 ⟨rfl, hO3, k3⟩; have HO3 := Lib.hid hO3; have HK3 := Lib.hid (k3.kept HK2.out (by rw [HB.out]; exact Nat.le_refl _)); clear hO3 k3)
      go_roundw
      case rel => exact ⟨k + 1, by rw [HN.out]; omega, by go_num, by rw [HSU.out]; exact HO3.out, HK3.out⟩
      case measure => simp [intOf]; omega
    · have ht : l.take k = l := List.take_of_length_le (by rw [HN.out]; omega)
      rw [ht] at HO2
      have hkI : ¬ ((k : Int) < (len : Int)) := by omega
      obtain ⟨P, hP⟩ : ∃ P, st (pack (allBits l)) = P := ⟨_, rfl⟩
      have HP := Lib.hid hP
      have HPB := Lib.hid (show P.size ≤ 10000 by rw [← hP, st_size, pack_length]; have := HAL.out; omega)
      go_wp2_with (first | (go_at_call 14; refine (string_any HO2.out (by have := HAL.out; omega)).mono ?_; rintro _ w4 ⟨rfl, k4⟩; rw [hP]; have HO4 := Lib.hid (OutR.keeps HO2.out k4); have HK4 := Lib.hid (HK2.out.more k4); clear k4) | (go_at_call 16; refine (read_any P w4).mono ?_; rintro _ w5 ⟨rfl, hR5, k5⟩; have HR5 := Lib.hid hR5; have HK5 := Lib.hid k5; clear hR5 k5))
      obtain ⟨r, hr⟩ : ∃ r, w4.heap.size = r := ⟨_, rfl⟩
      rw [hr] at HR5
      rw [hr]
      have HR := Lib.hid hr
      clear hr hP
      go_loopw [6] (fun i wr => rdRel w4 r P l i wr) (fun i _ => len - (intOf i).toNat)
      case atStart => exact ⟨0, by omega, rfl, HR5.out, HK5.out⟩
      case round =>
        obtain ⟨m, hm, rfl, hR6, hk6⟩ := hrel
        rw [HN.out] at hm
        have HR6 := Lib.hid hR6
        have HK6 := Lib.hid hk6
        clear hR6 hk6
        by_cases hmt : m < len
        · obtain ⟨rb, off, rfl, hrb, hc⟩ := HH.out.2.2 (by rw [HN.out]; omega)
          obtain ⟨o, ho⟩ : ∃ o, l[m]? = some o := ⟨l[m]'(by rw [HN.out]; exact hmt), List.getElem?_eq_getElem _⟩
          have hos := HS.out o (List.mem_of_getElem? ho)
          have hokx := (HH.out.2.1 o (List.mem_of_getElem? ho)).1
          have q0 := (Below.cell (HK4.out.more HK6.out) (p := ⟨rb, off + m * 4, none⟩) hrb).trans (hc m o ho 0 _ rfl)
          have q1 := (Below.cell (HK4.out.more HK6.out) (p := ⟨rb, off + m * 4 + 1, none⟩) hrb).trans (hc m o ho 1 _ rfl)
          have q2 := (Below.cell (HK4.out.more HK6.out) (p := ⟨rb, off + m * 4 + 2, none⟩) hrb).trans (hc m o ho 2 _ rfl)
          have q3 := (Below.cell (HK4.out.more HK6.out) (p := ⟨rb, off + m * 4 + 3, none⟩) hrb).trans (hc m o ho 3 _ rfl)
          have HSU := Lib.hid (allBits_succ ho)
          have HFT := Lib.hid (fits ho)
          rw [HP.out] at HFT
          have HBT := Lib.hid (back_text ho)
          have HBN := Lib.hid (back_num ho)
          rw [HP.out] at HBT HBN
          have hmI : (m : Int) < (len : Int) := by omega
          have HOX := Lib.hid hokx
          obtain ⟨t, x, n, s⟩ := o
          simp only at q0 q1 q2 q3 hos
          clear hc hokx
          obtain ⟨g, hg⟩ : ∃ g, wr.heap.size = g := ⟨_, rfl⟩
          obtain ⟨wa, hwa⟩ : ∃ wa, wr.alloc (.cells #[.bool t, .int .u64 (un x), .int .i64 n, .string s] 37) = wa := ⟨_, rfl⟩
          have d0 : wa.cell? ⟨g, 0, none⟩ = some (.bool t) := by rw [← hwa, ← hg, World.cell?_alloc_new]; rfl
          have d1 : wa.cell? ⟨g, 1, none⟩ = some (.int .u64 (un x)) := by rw [← hwa, ← hg, World.cell?_alloc_new]; rfl
          have d2 : wa.cell? ⟨g, 2, none⟩ = some (.int .i64 n) := by rw [← hwa, ← hg, World.cell?_alloc_new]; rfl
          have d3 : wa.cell? ⟨g, 3, none⟩ = some (.string s) := by rw [← hwa, ← hg, World.cell?_alloc_new]; rfl
          have hka : Keeps wr wa := by rw [← hwa]; exact (Keeps.refl wr).alloc _
          have HRA := Lib.hid (HR6.out.keeps hka)
          have HKA := Lib.hid (HK6.out.more hka)
          have hgr : g ≠ r := by have := HR6.out.old; omega
          have hgw : g < wa.heap.size := there_cell d0
          have HR4 := Lib.hid (show w4.heap.size ≤ r by rw [HR.out]; exact Nat.le_refl _)
          obtain ⟨p, hp⟩ : ∃ p, (allBits (l.take m)).length = p := ⟨_, rfl⟩
          rw [hp] at HRA HFT HBT HBN
          have HPP := Lib.hid hp
          have hpb : p ≤ 28800 := by rw [← hp]; exact HAK.out m
          clear hka hp HR6
          cases t
          · by_cases hn0 : n < 0
            · have HBE := Lib.hid (show (OpD.mk false x n s).bits = [] by unfold OpD.bits; rw [if_neg (by simp), if_pos (by simp [OpD.bad, hn0])])
              go_wp2
              go_roundw
              case rel => exact ⟨m + 1, by rw [HN.out]; omega, by go_num, by rw [HSU.out, HBE.out, List.append_nil, HPP.out]; exact HRA.out, HKA.out⟩
              case measure => simp [intOf]; omega
            by_cases hn1 : 64 < n
            · have HBE := Lib.hid (show (OpD.mk false x n s).bits = [] by unfold OpD.bits; rw [if_neg (by simp), if_pos (by simp [OpD.bad, hn1])])
              go_wp2
              go_roundw
              case rel => exact ⟨m + 1, by rw [HN.out]; omega, by go_num, by rw [HSU.out, HBE.out, List.append_nil, HPP.out]; exact HRA.out, HKA.out⟩
              case measure => simp [intOf]; omega
            · obtain ⟨Q, rfl⟩ : ∃ Q : Nat, n = (Q : Int) := ⟨n.toNat, by omega⟩
              have hbad : (OpD.mk false x (Q : Int) s).bad = false := by simp [OpD.bad, hn0, hn1]
              have HBE := Lib.hid (show (OpD.mk false x (Q : Int) s).bits = lb x Q by unfold OpD.bits; rw [if_neg (by simp), if_neg (by simp [hbad])]; rfl)
              have hbn : num (((ob (ls P)).drop p).take Q) = x % 2 ^ Q := HBN.out rfl hbad
              have hft := HFT.out
              rw [HBE.out, lb_length] at hft
              have HG := Lib.hid (get_ok HRA.out Q (by omega) (by have := HPB.out; omega) hft)
              rw [hbn] at HG
              obtain ⟨V, hV⟩ : ∃ V, x % 2 ^ Q = V := ⟨_, rfl⟩
              rw [hV] at HG
              have HV := Lib.hid hV
              clear hbn hft hbad hV
              have hQ : Q ≤ 64 := by omega
              go_wp2_with (go_at_call 20; refine HG.out.mono ?_; rintro _ w7 ⟨rfl, hR7, k7⟩; have f1 := (k7.cell (p := ⟨g, 1, none⟩) hgw hgr).trans d1; have f2 := (k7.cell (p := ⟨g, 2, none⟩) hgw hgr).trans d2; have HR7 := Lib.hid hR7; have HK7 := Lib.hid (k7.kept HKA.out HR4.out); clear hR7 k7)
              have HRL := Lib.hid (show InAt r 0 P (allBits (l.take (m + 1))).length w7 by rw [HSU.out, HBE.out, List.length_append, HPP.out, lb_length]; exact HR7.out)
              by_cases h64 : Q < 64
              · go_loopw [9, 10] (fun u i wr => unRel w7 Q u i wr) (fun _ i _ => Q - (intOf i).toNat)
                case atStart => exact ⟨0, by omega, rfl, rfl, rfl⟩
                case round =>
                  obtain ⟨j, hj, rfl, rfl, rfl⟩ := hrel
                  have h64I : (Q : Int) < 64 := by omega
                  by_cases hjQ : j < Q
                  · have hjI : (j : Int) < (Q : Int) := by omega
                    have e2 := un_two (k := j) (by omega)
                    have HE2 := Lib.hid e2
                    go_wp2
                    go_roundw
                    case rel => exact ⟨j + 1, by omega, by go_num, rfl, rfl⟩
                    case measure => simp [intOf]; omega
                  · obtain rfl : Q = j := by omega
                    have hjI : ¬ ((Q : Int) < (Q : Int)) := by omega
                    have e3 : (un x).tmod (un (2 ^ Q)) = un V := by rw [← HV.out]; unfold un; rw [Int.tmod_eq_emod_of_nonneg (by omega)]; exact (Int.natCast_emod ..).symm
                    have e4 : un (2 ^ Q) ≠ 0 := by unfold un; have : 0 < 2 ^ Q := Nat.two_pow_pos Q; omega
                    go_wp2
                    go_roundw
                    case rel => exact ⟨m + 1, by rw [HN.out]; omega, by go_num, HRL.out, HK7.out⟩
                    case measure => simp [intOf]; omega
              · have hV64 : V = x := by
                  rw [← HV.out, show Q = 64 by omega]; exact Nat.mod_eq_of_lt HOX.out
                have hQ64 : (Q : Int) = 64 := by omega
                subst hV64
                go_loopw [9, 10] (fun u i wr => unRel w7 0 u i wr) (fun _ i _ => 0)
                case atStart => exact ⟨0, by omega, rfl, rfl, rfl⟩
                case round =>
                  obtain ⟨j, hj, rfl, rfl, rfl⟩ := hrel
                  obtain rfl : j = 0 := by omega
                  go_wp2
                  go_roundw
                  case rel => exact ⟨m + 1, by rw [HN.out]; omega, by go_num, HRL.out, HK7.out⟩
                  case measure => simp [intOf]; omega
          · have hft := HFT.out
            have hbe : (OpD.mk true x n s).bits = ob (ls s) := rfl
            rw [hbe, ob_length, ← ls_size] at hft
            have hbt : nx P p s.size = ls s := HBT.out rfl
            have HT := Lib.hid (show ∀ W, Eqv wa W → Calls Try.prog 19 #[.pointer (some ⟨r, 0, none⟩), .int .i64 (s.size : Int)] W fun e w' => e = .returned (.string s) ∧ InAt r 0 P (p + 8 * s.size) w' ∧ Only r wa w' from fun W q =>
              (text_ok (HRA.out.eqv q) s.size (by have := HPB.out; omega) hft).mono fun e w' hh => ⟨by rw [hh.1, hbt, st_ls], hh.2.1, (Only.eqv q).trans hh.2.2⟩)
            have HRL := Lib.hid fun W (h : InAt r 0 P (p + 8 * s.size) W) => show InAt r 0 P (allBits (l.take (m + 1))).length W by rw [HSU.out, hbe, List.length_append, HPP.out, ob_length, ← ls_size]; exact h
            clear hft hbe hbt
            go_wp2
            refine wp_draw (by kernel_rfl)
              [.pointer (some ⟨r, 0, none⟩), .pointer (some ⟨g, 3, none⟩), .string s, .int .i64 (s.size : Int), .string s, .pointer (some ⟨g, 3, none⟩), .string s, .bool false]
              (Once 4 (Eqv wa) (fun w7 => InAt r 0 P (p + 8 * s.size) w7 ∧ Only r wa w7)) rfl (by kernel_rfl) (fin := ?fin) ?hfin (Once.start (Eqv.drew wa)) ?each ?hend
            case hfin => simp [seqA, dstOf, Act.put]; rfl
            case each =>
              refine ⟨?_, ?_, ?_, ?_, ?_, ?_, ?_, ?_, trivial⟩
              all_goals intro L w7 h0 hd hs hw
              all_goals try simp only [Nat.zero_add, Nat.reduceAdd] at h0
              all_goals have hc3 := once3 hw hgw hgr d3
              all_goals unfold Does
              all_goals try (go_simp; exact fun L' k => hw.same (by decide) k)
              · go_simp
                refine (HT.out w7 (hw.1 h0)).mono ?_
                rintro _ w6 ⟨rfl, hh⟩
                exact ⟨_, rfl, rfl, fun L' k => Once.done k hh⟩
            case hend =>
              intro L w7 hL hw
              obtain ⟨hR7, k7⟩ := hw.2 (hL 4 (by simp))
              have HRR := Lib.hid (HRL.out w7 hR7)
              have HKK := Lib.hid (k7.kept HKA.out HR4.out)
              clear hw hL hR7 k7
              go_wp2
              go_roundw
              case rel => exact ⟨m + 1, by rw [HN.out]; omega, by go_num, HRR.out, HKK.out⟩
              case measure => simp [intOf]; omega
        · have ht2 : l.take m = l := List.take_of_length_le (by rw [HN.out]; omega)
          rw [ht2] at HR6
          have hmI : ¬ ((m : Int) < (len : Int)) := by omega
          obtain ⟨A, hA⟩ : ∃ A, (allBits l).length = A := ⟨_, rfl⟩
          have hPs : P.size = (A + 7) / 8 := by rw [← HP.out, st_size, pack_length, hA]
          obtain ⟨z, hz⟩ : ∃ z, 8 * P.size - A = z := ⟨_, rfl⟩
          have ez : 8 * (P.size : Int) - (A : Int) = (z : Int) := by omega
          have hz8 : z < 8 := by omega
          have hzI : (z : Int) < 8 := by omega
          have hfit : A + z ≤ 8 * P.size := by omega
          have hAb : A ≤ 28800 := by rw [← hA]; exact HAL.out
          have hzero : un (num (((ob (ls P)).drop A).take z)) = 0 := by
            rw [num_zero fun i => ?_]
            · rfl
            · by_cases h : i < z
              · rw [bt_take h, ← HP.out, ls_st, ← hA]; exact rest_pack _ i
              · exact bt_big (by rw [List.length_take]; omega)
          rw [hA] at HR6
          have HOA := Lib.hid (OutR.keeps HO4.out HK6.out)
          have HOL := Lib.hid fun (W : World) (q : Eqv wr W) => (olen_any (OutR.eqv HOA.out q))
          rw [hA] at HOL
          have HLF := Lib.hid (left_any HR6.out (by have := HPB.out; omega) (by omega))
          rw [ez] at HLF
          have HPB2 := HPB.out
          have HR4 := Lib.hid (show w4.heap.size ≤ r by rw [HR.out]; exact Nat.le_refl _)
          have HZ := Lib.hid hzero
          have HA := Lib.hid hA
          clear hA hPs hz ez hzero
          go_wp2_with (first | (go_at_call 22; refine HLF.out.mono ?_; rintro _ w8 ⟨rfl, q8⟩; have HR8 := Lib.hid (HR6.out.eqv q8); have HQ8 := Lib.hid q8; clear q8) | (go_at_call 23; first | (refine (rerr_any HR9.out).mono ?_; rintro _ _ ⟨rfl, rfl⟩) | (refine (rerr_any HR8.out).mono ?_; rintro _ _ ⟨rfl, rfl⟩)) | (go_at_call 21; refine (rat_any HR8.out).mono ?_; rintro _ _ ⟨rfl, rfl⟩) | (go_at_call 13; refine (HOL.out _ HQ8.out).mono ?_; rintro _ _ ⟨rfl, rfl⟩) | (go_at_call 20; refine (get_ok HR8.out z (by omega) (by omega) hfit).mono ?_; rintro _ w9 ⟨rfl, hR9, k9⟩; rw [HZ.out]; have HR9 := Lib.hid hR9; have HK9 := Lib.hid k9; clear hR9 k9) | (go_at_call 10; refine (awake6_any _).mono ?_; rintro _ w15 ⟨rfl, k15⟩))
          go_ret
          exact ⟨rfl, (HK4.out.more (HK9.out.kept (HK6.out.eqv HQ8.out) HR4.out)).more k15⟩
theorem off (a : Option Addr) (len cap : Nat) (l : List OpD) (w : World) (h : IsO w a len l) (hm : len ≤ maxLen) (hf : fewB l = false) :
    Calls Try.prog 5 #[.slice a len cap] w fun e w' => e = .returned (.bool true) ∧ Below w.heap.size w w' := by
  have HF := Lib.hid (few_any (cap := cap) w h hm)
  rw [hf] at HF
  clear h hm hf
  go_enter Try.func5, Try.ntmps5
  go_wp2_with (first | (go_at_call 9; refine HF.out.mono ?_; rintro _ _ ⟨rfl, rfl⟩) | (go_at_call 10; refine (awake6_any _).mono ?_; rintro _ w15 ⟨rfl, k15⟩))
  go_ret
  exact ⟨rfl, k15⟩
theorem walk (a : Option Addr) (len cap : Nat) (l : List OpD) (w : World) (h : IsO w a len l ∧ len ≤ maxLen) :
    Calls Try.prog 5 #[.slice a len cap] w fun e w' => e = .returned (.bool true) ∧ Below w.heap.size w w' := by
  cases hf : fewB l
  · exact off a len cap l w h.1 h.2 hf
  · exact core a len cap l w h.1 h.2 hf

theorem own : ownKnob Try.prog.godebug = none := by kernel_rfl
theorem laidOut : laidOutB Try.prog = true := by kernel_rfl
set_option maxRecDepth 100000 in
theorem lifted (os : Os) (started : os.Started) (H : Type) (enc : TypeId × Value → H) :
    ReturnsInHanded {} Try.checked os 5 .any (Rows.bitsBackSpec.pre6 enc Try.prog Try.f5 Rows.bitsBackRow.domain false) (Rows.bitsBackSpec.post enc Try.prog Try.f5 false true false false) := by
  refine returnsInHanded_of_change (C := Try.checked) own started (by kernel_rfl) Try.func5
    (ChangeSpec.witness6 (enc := enc) (C := Try.checked) false ⟨#[], #[.slice none 0 0], []⟩ 8 (by kernel_rfl) (by kernel_rfl) (by kernel_rfl) (by kernel_rfl)) ?_
  intro W base args ds gs before hval0 hW hcnd _
  have hval : ∀ (j : Nat) t v, Try.f5.params[j]? = some t → args[j]? = some v → Value.okWide Try.prog W .any base t v := hval0
  have hW' := hW
  obtain ⟨p, q, hA0, hV, rfl, hfz, hnd⟩ := hW
  have hA : DataW.TrodAll enc Try.prog W 0 (fun _ => true) true Try.f5.params.toList args.toList ds p := hA0
  rw [Try.params5] at hA hval
  obtain ⟨v0, vs0, d0, ds0, p0, q0, hargs, rfl, rfl, h0, r0⟩ := trodAll_cons hA
  obtain ⟨rfl, rfl, rfl⟩ := trodAll_nil r0
  obtain rfl : args = #[v0] := by cases args; simp_all
  obtain ⟨rfl, rfl⟩ := trodVars_none hV
  obtain ⟨a0, len0, cap0, rfl⟩ := okWide_slice Try.underlying22 (hval 0 22 v0 rfl rfl)
  have k0 := h0
  have lt0 : ∀ x ∈ p0, x.block < W.heap.size := by obtain ⟨m, hm⟩ := k0; exact DataW.trod_lt m _ _ _ hm
  obtain ⟨z0, w0⟩ := open_oprow h0
  clear hA0 hval0
  refine (walk a0 len0 cap0 z0 W w0).mono fun e W' ⟨he, bel⟩ => ?_
  subst he
  exact ⟨_, rfl, _, _, _, [], _, [], hW', trodAll_mk1 (shut_bool Try.underlying4 _), (trodAll_cons_mk (Below.trod laidOut (by kernel_rfl) (of_decide_eq_true (by kernel_rfl)) k0 bel lt0) trodAll_mk0), rfl, bel.frame _, fun h => by cases h⟩

theorem over : Rows.bitsBackRow.holds Try.pinned (OpenSpec.ofChange Rows.bitsBackSpec) :=
  OpenClaim.holds_of_wide 5 Try.f5 rfl rfl rfl rfl rfl rfl rfl ⟨rfl, rfl, rfl, rfl, rfl⟩ rfl rfl rfl rfl rfl (by kernel_rfl) Try.func5 (by kernel_rfl)
    (of_decide_eq_true (by kernel_rfl)) (by unfold Func.isWrapper; first | (rw [if_pos (by decide +kernel)]; kernel_rfl) | (rw [if_neg (by decide +kernel)]; exact ⟨rfl, rfl⟩))
    (fun os started H enc _ => lifted os started H enc)

theorem proved : Rows.BitsBackSaid := over
#print axioms proved
end Go.Proofs.Ytfkadmcndjohbaa.bitsBack
