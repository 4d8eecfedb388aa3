/-
  What package crc answers: Sum, More, Seal, Open; for all texts (parts: up to a thousand, of up to a million bytes each). The memory that was there stays.
-/
import Derived.Test.YtofnokikjfmfgaaCrcA
namespace Go.Proofs.Ytofnokikjfmfgaa
open Go.RowKit Gf Crc
set_option maxRecDepth 100000
def ones : Reg := 0xffffffff#32
theorem ru_ones : ru ones = 4294967295 := rfl
def csumRel (w : World) (r : Reg) (l : List (List UInt8)) (s i : Value) (wr : World) : Prop := ∃ k : Nat, k ≤ l.length ∧ s = .int .u32 (ru (mo r (l.take k).flatten)) ∧ i = .int .i64 k ∧ Eqv w wr
theorem flat_next {l : List (List UInt8)} {k : Nat} (h : k < l.length) (r : Reg) : mo (mo r (l.take k).flatten) (l.getD k []) = mo r (l.take (k + 1)).flatten := by
  rw [List.take_succ_eq_append_getElem h, List.flatten_append, mo_append, List.getD_eq_getElem?_getD, List.getElem?_eq_getElem h]
  simp
theorem put256 {w : World} (hA : Arr w.heap.size (fun _ => 0#32) (w.alloc (.cells z256 124))) : Arr w.heap.size tb ((w.alloc (.cells z256 124)).setCells w.heap.size 0 tbL) := hA.put
theorem sz256 : (Try.prog.info? 124).map (·.size) = some tbL.toArray.size := by rw [List.size_toArray, tbL_length]; exact size256
theorem one256 : tbL.toArray.all (·.oneCell') = true := all_oneCell_toArray tbL_one
set_option maxHeartbeats 800000 in
theorem sum_any (w0 : World) (a : Option Addr) (len cap : Nat) (l : List (List UInt8)) (w : World) (hI : IsT w a len l) (hl : l.length ≤ 1000) (hs : ∀ t ∈ l, t.length ≤ 1000000) (hk : Keeps w0 w) :
    Calls Try.prog 63 #[.slice a len cap] w fun e w' => e = .returned (.int .u32 (ru (mo ones l.flatten))) ∧ Keeps w0 w' := by
  obtain ⟨rfl, _⟩ := id hI
  have HS := Lib.hid hs
  clear hs
  go_enter Try.func63, Try.ntmps63
  go_wp2_with fail
  refine (rows_any w).mono ?_
  rintro e w1 ⟨rfl, hk1⟩
  have hA := Arr.zero w1
  have hth := hA.there
  have hsz := sz256
  have h1 := one256
  have hP := hA.put
  have hkk : Keeps w ((w1.alloc (.cells z256 124)).setCells w1.heap.size 0 tbL.toArray.toList) :=
    (only_setCells _ _ _ _).keeps (hk1.alloc _) (Below.size hk1)
  have hI2 := hI.keeps hkk
  have hk2 := hk.trans hkk
  obtain ⟨TL, hTL⟩ : ∃ TL, tbL = TL := ⟨_, rfl⟩
  rw [hTL] at hth hsz h1 hP hk2 hI2
  simp only [hTL]
  clear hTL hA hkk
  go_wp2_with (first | (with_reducible refine wpList_a256 rfl rfl ?_) | (with_reducible refine wpList_store_mid rfl _ _ _ rfl w1.heap.size 0 TL.toArray rfl rfl hth hsz h1 ?_))
  obtain ⟨b, hb⟩ : ∃ b, w1.heap.size = b := ⟨_, rfl⟩
  rw [hb] at hP hI2 hk2
  rw [hb]
  obtain ⟨wA, hwA⟩ : ∃ wA, (w1.alloc (.cells z256 124)).setCells b 0 TL = wA := ⟨_, rfl⟩
  rw [hwA] at hP hI2 hk2
  rw [hwA]
  clear hwA hb hth hsz h1 hk1
  go_loopw [4, 10] (fun x i wr => csumRel wA ones l x i wr) (fun _ i _ => l.length - (intOf i).toNat)
  case atStart => exact ⟨0, by omega, rfl, rfl, Eqv.refl _⟩
  case round =>
    obtain ⟨k, hkl, rfl, rfl, hkp⟩ := hrel
    by_cases hlt : k < l.length
    · obtain ⟨b1, off1, rfl, hc⟩ := hI2.get hlt
      have hcr := (hkp.cell _).trans hc
      have HN := Lib.hid (flat_next (l := l) hlt ones)
      have hP2 := hP.eqv hkp
      have hz : (st (l.getD k [])).size ≤ 1000000000 := by
        rw [st_size, List.getD_eq_getElem?_getD, List.getElem?_eq_getElem hlt]
        have := HS.out _ (List.getElem_mem hlt)
        simp; omega
      generalize mo ones (l.take k).flatten = q at *
      obtain ⟨t, ht⟩ : ∃ t, l.getD k [] = t := ⟨_, rfl⟩
      rw [ht] at hcr hz HN
      clear ht hc
      go_wp2_with (go_at_call 72; refine (take_any _ q (st t) _ hz hP2).mono ?_; rintro e w2 ⟨rfl, he2⟩)
      go_roundw
      case rel => exact ⟨k + 1, by omega, by rw [ls_st, HN.out], by go_num, hkp.trans he2⟩
      case measure => simp [intOf]; omega
    · have HE := Lib.hid (show l.take k = l from List.take_of_length_le (by omega))
      rw [HE.out]
      go_wp2
      go_ret
      exact ⟨rfl, hk2.eqv hkp⟩
theorem four_u (q : Reg) : (four q).map B = [.int .u8 (ru q / 16777216 % 256), .int .u8 (ru q / 65536 % 256), .int .u8 (ru q / 256 % 256), .int .u8 (ru q % 256)] := by
  have hq := q.isLt
  have e : ∀ n : Nat, n < 256 → B (UInt8.ofNat n) = .int .u8 (n : Int) := fun n h => by unfold B; rw [UInt8.toNat_ofNat_of_lt' (show n < 256 by omega)]
  unfold four ru
  rw [List.map_cons, List.map_cons, List.map_cons, List.map_cons, List.map_nil, e _ (by omega), e _ (by omega), e _ (by omega), e _ (by omega)]
  have h1 : ((q.toNat / 16777216 : Nat) : Int) = (q.toNat : Int) / 16777216 % 256 := by omega
  rw [h1]
  rfl
theorem four_conv (q : Reg) (w : World) :
    (convert 44 9 (.slice (some ⟨w.heap.size, 0, none⟩) 4 4)).run Try.prog (w.alloc (.cells #[.int .u8 (ru q / 16777216 % 256), .int .u8 (ru q / 65536 % 256), .int .u8 (ru q / 256 % 256), .int .u8 (ru q % 256)] 5)) = .ok (.string (st (four q))) (w.alloc (.cells #[.int .u8 (ru q / 16777216 % 256), .int .u8 (ru q / 65536 % 256), .int .u8 (ru q / 256 % 256), .int .u8 (ru q % 256)] 5)) := by
  have h := (Blk.lit w (four q) 5).whole 4 (four_length q).symm
  rw [four_u] at h
  exact h
/-- Sealed bytes. -/
def sld (l : List UInt8) : List UInt8 := l ++ four (mo ones l)
theorem sld_length (l : List UInt8) : (sld l).length = l.length + 4 := by unfold sld; rw [List.length_append, four_length]
set_option maxHeartbeats 800000 in
theorem seal_any (w0 : World) (s : ByteArray) (w : World) (hs : s.size ≤ 1000000) (hk : Keeps w0 w) :
    Calls Try.prog 51 #[.string s] w fun e w' => e = .returned (.string (st (sld (ls s)))) ∧ Keeps w0 w' := by
  go_enter Try.func51, Try.ntmps51
  go_wp2_with fail
  refine (sum_any w0 _ _ _ [ls s] _ (IsT.one w s 9) (by simp) (by simp [← ls_size, hs]) (hk.alloc _)).mono ?_
  rintro e w1 ⟨rfl, hk1⟩
  have he : s ++ st (four (mo ones (ls s))) = st (sld (ls s)) := by unfold sld; rw [← st_append, st_ls]
  have hf : mo ones [ls s].flatten = mo ones (ls s) := by simp
  rw [hf]
  clear hf
  have HE := Lib.hid he
  clear he
  obtain ⟨q, hq⟩ : ∃ q, mo ones (ls s) = q := ⟨_, rfl⟩
  rw [hq] at HE
  rw [hq]
  clear hq
  have hcv := four_conv q w1
  have hl4 : (st (four q)).size = 4 := by rw [st_size]; rfl
  go_wp2
  go_ret
  exact ⟨by rw [← HE.out]; rfl, hk1.alloc _⟩
/-- What is opened of bytes, and what is wrong. -/
def opn (l : List UInt8) : List UInt8 × Int := if l.length < 4 then ([], 10) else if mo ones l = 0#32 then (l.take (l.length - 4), 0) else ([], 13)
theorem opn_short {l : List UInt8} (h : l.length < 4) : opn l = ([], 10) := by unfold opn; rw [if_pos h]
theorem opn_bad {l : List UInt8} (h : ¬ l.length < 4) (h2 : mo ones l ≠ 0#32) : opn l = ([], 13) := by unfold opn; rw [if_neg h, if_neg h2]
theorem opn_good {l : List UInt8} (h : ¬ l.length < 4) (h2 : mo ones l = 0#32) : opn l = (l.take (l.length - 4), 0) := by unfold opn; rw [if_neg h, if_pos h2]
theorem ru_zero (q : Reg) : (ru q != 0) = !(decide (q = 0#32)) := by
  by_cases h : q = 0#32
  · subst h; rfl
  · have : ru q ≠ 0 := fun e => h (ru_inj (e.trans rfl))
    simp [h, this]
def OpnPost (w0 : World) (l : List UInt8) (e : Ending) (w' : World) : Prop := e = .returned (.tuple #[.string (st (opn l).1), .int .i64 (opn l).2]) ∧ Keeps w0 w'
end Go.Proofs.Ytofnokikjfmfgaa
