/-
  What Loop of package descr answers. The memory that was there stays.
-/
import Derived.Test.YtlghkdkaifcliaaDoorDsF
import Derived.Test.YtlghkdkaifcliaaDoorBdk
namespace Go.Proofs.YtlghkdkaifcliaaDoor
open Go.RowKit Gf Ds
set_option maxRecDepth 100000
set_option linter.unusedVariables false
set_option linter.unusedSimpArgs false
theorem lpB_le (l : List Dsc) (k : Nat) : (lpB (l.take k)).length ≤ (lpB l).length := by
  conv => rhs; rw [← List.take_append_drop k l]
  rw [lpB_append, List.length_append]; omega
set_option maxHeartbeats 6400000 in
theorem eloop_any {a : Option Addr} {n cap : Nat} {l : List Dsc} (w : World) (h : IsE rowD w a n l) (hn : n ≤ 1000000) :
    Calls Tryd.prog 12 #[.slice a n cap] w (DlPost w (loop l)) := by
  have HI := Lib.hid h
  have HN := Lib.hid h.1
  clear h
  go_enter Tryd.func12, Tryd.ntmps12
  go_wp2
  go_loopw [4, 13] (fun g i wr => ∃ k : Nat, k ≤ n ∧ i = .int .i64 (k : Int) ∧ g = .int .i64 (((lpB (l.take k)).length : Nat) : Int) ∧ (∀ d ∈ l.take k, okD d) ∧ Keeps w wr) (fun _ i _ => n - (intOf i).toNat)
  case atStart => exact ⟨0, Nat.zero_le _, rfl, rfl, by simp, Keeps.refl _⟩
  case round =>
    obtain ⟨k, hk, rfl, rfl, hall, hkp⟩ := hrel
    have HALL := Lib.hid hall
    have HK := Lib.hid hkp
    have hbd : (lpB (l.take k)).length ≤ 257000000 := by
      have := lpB_bound hall
      rw [List.length_take] at this
      omega
    clear hall hkp
    by_cases hlt : k < n
    · have hlI : (k : Int) < (n : Int) := by omega
      have hkL : k < l.length := by have := HN.out; omega
      obtain ⟨g, off, rfl, hg, hcc⟩ := (HI.out.keeps HK.out).get hkL
      have HAT := Lib.hid (fun e => lpE_at hkL HALL.out e)
      have HNX := Lib.hid (show okD l[k] → ∀ s ∈ l.take (k + 1), okD s from fun h s hs => by
        rw [List.take_add_one, List.getElem?_eq_getElem hkL] at hs
        rcases List.mem_append.1 hs with y | y
        · exact HALL.out s y
        · rw [List.mem_singleton.1 y]; exact h)
      have HLN := Lib.hid (show (lpB (l.take (k + 1))).length = (lpB (l.take k)).length + (2 + l[k].body.size) by rw [lpB_take_succ l hkL, List.length_append, dsB_length]; omega)
      obtain ⟨⟨t1, t2⟩, hp⟩ : ∃ q : Dsc, l[k] = q := ⟨_, rfl⟩
      rw [hp] at hcc HAT HNX HLN
      have x0 : wr.cell? ⟨g, off + k * 2, none⟩ = some (.int .i64 t1) := hcc 0 _ rfl
      have x1 : wr.cell? ⟨g, off + k * 2 + 1, none⟩ = some (.string t2) := by rw [Nat.add_assoc]; exact hcc 1 _ rfl
      have v1 := wrapI (a := (k : Int) + 1) (by omega) (by omega)
      have HCK := Lib.hid (fun W => echeck_any ⟨t1, t2⟩ W)
      have HKA := Lib.hid (HK.out.alloc (.cells #[.int .i64 t1, .string t2] 37))
      obtain ⟨G, hG⟩ : ∃ G, (lpB (l.take k)).length = G := ⟨_, rfl⟩
      rw [hG] at hbd HLN
      rw [hG]
      obtain ⟨c0, hc0⟩ : ∃ c, wr.heap.size = c := ⟨_, rfl⟩
      obtain ⟨wC, hwC⟩ : ∃ W, wr.alloc (.cells #[.int .i64 t1, .string t2] 37) = W := ⟨_, rfl⟩
      rw [hwC] at HKA
      have HC := Lib.hid (show CsAt c0 (dsC ⟨t1, t2⟩) wC by rw [← hc0, ← hwC]; exact CsAt.made wr #[.int .i64 t1, .string t2] _ (by simp))
      have p0 := HC.out.cell 0 rfl
      have p1 := HC.out.cell 1 rfl
      clear hcc hp hg hG
      by_cases hE : dsE ⟨t1, t2⟩ = 0
      · have hok := dsE_ok.1 hE
        have hz : t2.size ≤ 255 := hok.2
        rw [hE] at HCK
        have HNY := Lib.hid (HNX.out hok)
        have v2 := wrapI (a := 2 + (t2.size : Int)) (by omega) (by omega)
        have v3 := wrapI (a := (G : Int) + (2 + (t2.size : Int))) (by omega) (by omega)
        clear hE hok
        go_wp2_with (go_at_call 38; refine (HCK.out _).mono ?_; rintro _ w3 ⟨rfl, k3⟩; have HK3 := Lib.hid (HKA.out.trans k3); have p1 := (HC.out.keeps k3).cell 1 rfl; clear k3)
        go_roundw
        case rel => exact ⟨k + 1, by omega, by go_num, by rw [HLN.out]; go_num, HNY.out, HK3.out⟩
        case measure => simp [intOf]; omega
      · have HE1 := Lib.hid (HAT.out hE)
        obtain ⟨E, hEE⟩ : ∃ E, dsE ⟨t1, t2⟩ = E := ⟨_, rfl⟩
        rw [hEE] at HCK HE1 hE
        have HF := Lib.hid (show loop l = ([], E) by unfold loop; rw [HE1.out, if_pos hE])
        have hne : (E != 0) = true := bne_iff_ne.2 hE
        clear hE hEE
        go_wp2_with (go_at_call 38; refine (HCK.out _).mono ?_; rintro _ w3 ⟨rfl, k3⟩; have HK3 := Lib.hid (HKA.out.trans k3); clear k3 p0 p1)
        go_ret2
        exact DlPost.of HF.out rfl HK3.out
    · have hlI : ¬ (k : Int) < (n : Int) := by omega
      have htk : l.take k = l := List.take_of_length_le (by have := HN.out; omega)
      rw [htk] at HALL hbd
      rw [htk]
      have HLE := Lib.hid (lpE_ok.2 HALL.out)
      clear htk
      by_cases hbig : 4095 < (lpB l).length
      · have HF := Lib.hid (show loop l = ([], 11) by unfold loop; rw [if_neg (fun x => x HLE.out), if_pos hbig])
        obtain ⟨G, hG⟩ : ∃ G, (lpB l).length = G := ⟨_, rfl⟩
        rw [hG] at hbig
        rw [hG]
        have hgi : (4095 : Int) < (G : Int) := by omega
        clear hbig hG
        go_wp2
        go_ret2
        exact DlPost.of HF.out rfl HK.out
      · have HF := Lib.hid (loop_ok (l := l) ⟨HALL.out, by omega⟩)
        have HBG := Lib.hid hbig
        obtain ⟨G, hG⟩ : ∃ G, (lpB l).length = G := ⟨_, rfl⟩
        rw [hG] at hbig
        rw [hG]
        have hgi : ¬ (4095 : Int) < (G : Int) := by omega
        obtain ⟨q, hq⟩ : ∃ q, wr.heap.size = q := ⟨_, rfl⟩
        obtain ⟨wX, hX⟩ : ∃ W, wr.alloc (.cells #[.pointer none, .slice none 0 0] 98) = W := ⟨_, rfl⟩
        have HB0 := Lib.hid (show IsBk q q [] wX by rw [← hq, ← hX]; exact IsBk.new wr)
        have HKX := Lib.hid (show Keeps wr wX by rw [← hX]; exact (Keeps.refl wr).alloc _)
        have HQ := Lib.hid hq
        have HGG := Lib.hid hG
        clear hbig hG
        go_wp2
        obtain ⟨wJ, hwJ⟩ : ∃ wJ, wJ = wr := ⟨_, rfl⟩
        subst hwJ
        clear hX hq
        go_loopw [33] (fun i wr2 => ∃ k : Nat, k ≤ n ∧ i = .int .i64 (k : Int) ∧ IsBk q q (lpB (l.take k)) wr2 ∧ Keeps wJ wr2) (fun i _ => n - (intOf i).toNat)
        case atStart => exact ⟨0, Nat.zero_le _, rfl, HB0.out, HKX.out⟩
        case round =>
          obtain ⟨m, hm, rfl, hB, hkw⟩ := hrel
          have HB := Lib.hid hB
          have HKW := Lib.hid hkw
          have hqr : q ≤ wr.heap.size := by rw [← HQ.out]; exact Below.size hkw
          clear hB hkw
          by_cases hlt2 : m < n
          · have hlI2 : (m : Int) < (n : Int) := by omega
            have hmL : m < l.length := by have := HN.out; omega
            obtain ⟨g, off, rfl, hg, hcc⟩ := (HI.out.keeps (HK.out.trans HKW.out)).get hmL
            have hok := HALL.out l[m] (List.getElem_mem hmL)
            have hle := lpB_le l m
            have HS := Lib.hid (show lpB (l.take (m + 1)) = ((lpB (l.take m) ++ [u8 l[m].tag.toNat]) ++ [u8 l[m].body.size]) ++ ls l[m].body by
              rw [lpB_take_succ l hmL]
              unfold dsB
              simp)
            obtain ⟨⟨t1, t2⟩, hp⟩ : ∃ q : Dsc, l[m] = q := ⟨_, rfl⟩
            rw [hp] at hcc hok HS
            obtain ⟨⟨ht1, ht2⟩, ht3⟩ := hok
            simp only at ht1 ht2 ht3 HS
            have x0 : wr.cell? ⟨g, off + m * 2, none⟩ = some (.int .i64 t1) := hcc 0 _ rfl
            have x1 : wr.cell? ⟨g, off + m * 2 + 1, none⟩ = some (.string t2) := by rw [Nat.add_assoc]; exact hcc 1 _ rfl
            have v1 := wrapI (a := (m : Int) + 1) (by omega) (by omega)
            obtain ⟨y1, hy1⟩ : ∃ y, Ds.u8 t1.toNat = y := ⟨_, rfl⟩
            obtain ⟨y2, hy2⟩ : ∃ y, Ds.u8 t2.size = y := ⟨_, rfl⟩
            have e1 : t1 % 256 = (y1.toNat : Int) := by rw [← hy1, u8_nat (by omega)]; omega
            have e2 : (t2.size : Int) % 256 = (y2.toNat : Int) := by rw [← hy2, u8_nat (by omega)]; omega
            rw [hy1, hy2] at HS
            obtain ⟨L0, hL0⟩ : ∃ L0, lpB (l.take m) = L0 := ⟨_, rfl⟩
            rw [hL0] at HB HS hle
            have hL0z : L0.length ≤ 4095 := by have := HBG.out; omega
            obtain ⟨c0, hc0⟩ : ∃ c, wr.heap.size = c := ⟨_, rfl⟩
            obtain ⟨wC, hwC⟩ : ∃ W, wr.alloc (.cells #[.int .i64 t1, .string t2] 37) = W := ⟨_, rfl⟩
            have kC : Keeps wr wC := by rw [← hwC]; exact (Keeps.refl wr).alloc _
            have hq0 : q < c0 := by rw [← hc0]; exact HB.out.old
            have HBC := Lib.hid (HB.out.keeps kC)
            have HKC := Lib.hid (HKW.out.trans kC)
            have HX0 := Lib.hid (show wC.heap[c0]? = some (.cells #[.int .i64 t1, .string t2] 37 (0, 0)) by rw [← hc0, ← hwC]; exact Array.getElem?_push_size)
            have HC := Lib.hid (show CsAt c0 (dsC ⟨t1, t2⟩) wC by rw [← hc0, ← hwC]; exact CsAt.made wr #[.int .i64 t1, .string t2] _ (by simp))
            have p0 := HC.out.cell 0 rfl
            have hqC : q ≤ wC.heap.size := Nat.le_trans hqr (Below.size kC)
            have HQC := Lib.hid hqC
            have HQ0 := Lib.hid (show c0 ≠ q by omega)
            have HL0 := Lib.hid hL0z
            have HT3 := Lib.hid ht3
            have HW1 := Lib.hid (wbytek_any q q L0 y1 wC HBC.out (by omega) hqC)
            have HW2 := Lib.hid (fun W hI hq => wbytek_any q q (L0 ++ [y1]) y2 W hI (by rw [List.length_append, List.length_singleton]; omega) hq)
            have HW3 := Lib.hid (fun W hI hq => wstrk_any q q ((L0 ++ [y1]) ++ [y2]) t2 W hI (by rw [List.length_append, List.length_append, List.length_singleton, List.length_singleton]; omega) hq)
            have ey1 : (y1.toNat : Int) = t1 := by omega
            have ey2 : (y2.toNat : Int) = (t2.size : Int) := by omega
            simp only [ey1] at HW1
            simp only [ey2] at HW2
            clear ey1 ey2 e1 e2
            clear hcc hp hg hy1 hy2 hL0 kC hqC hq0 hL0z hle
            go_wp2_with (first | (go_at_call 39; (with_reducible refine HW1.out.mono ?_); rintro _ w4 ⟨rfl, hI4, k4, o4⟩; have HI4 := Lib.hid hI4; have HK4 := Lib.hid (HKC.out.on HQ.out k4); have HX4 := Lib.hid (o4.box HX0.out (by decide) HQ0.out); have HC4 := Lib.hid (o4.cs HX0.out (by decide) HQ0.out HC.out); have p1 := HC4.out.cell 1 rfl; have HQ4 := Lib.hid (Nat.le_trans HQC.out (Below.size k4)); clear hI4 k4 o4 p0) | (go_at_call 39; (with_reducible refine (HW2.out w4 HI4.out HQ4.out).mono ?_); rintro _ w5 ⟨rfl, hI5, k5, o5⟩; have HI5 := Lib.hid hI5; have HK5 := Lib.hid (HK4.out.on HQ.out k5); have HC5 := Lib.hid (o5.cs HX4.out (by decide) HQ0.out HC4.out); have p1 := HC5.out.cell 1 rfl; have HQ5 := Lib.hid (Nat.le_trans HQ4.out (Below.size k5)); clear hI5 k5 o5) | (go_at_call 40; refine (HW3.out w5 HI5.out HQ5.out).mono ?_; rintro _ w6 ⟨rfl, hI6, k6, o6⟩; have HI6 := Lib.hid hI6; have HK6 := Lib.hid (HK5.out.on HQ.out k6); clear hI6 k6 o6))
            go_roundw
            case rel => exact ⟨m + 1, by omega, by go_num, by rw [HS.out]; exact HI6.out, HK6.out⟩
            case measure => simp [intOf]; omega
          · have hlI2 : ¬ (m : Int) < (n : Int) := by omega
            have HT := Lib.hid (show l.take m = l from List.take_of_length_le (by have := HN.out; omega))
            rw [HT.out] at HB
            go_wp2_with (go_at_call 41; refine (bstrk_any q q (lpB l) wr HB.out hqr).mono ?_; rintro _ w6 ⟨rfl, k6⟩; have HK6 := Lib.hid (HKW.out.on HQ.out k6); clear k6)
            go_ret2
            exact DlPost.of HF.out rfl (HK.out.trans HK6.out)
end Go.Proofs.YtlghkdkaifcliaaDoor
