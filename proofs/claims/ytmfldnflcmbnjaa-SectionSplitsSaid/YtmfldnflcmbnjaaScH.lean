/-
  What the document's Split answers: for texts of up to a million bytes. The memory that was there stays.
-/
import Derived.Test.YtmfldnflcmbnjaaScG
namespace Go.Proofs.Ytmfldnflcmbnjaa
open Go.RowKit Gf Sct
set_option maxRecDepth 100000
/-- The pieces of a text. -/
def pcs (l : List UInt8) : List (List UInt8) := (List.range (lastN l + 1)).map (pc l)
theorem pcs_length (l : List UInt8) : (pcs l).length = lastN l + 1 := by unfold pcs; rw [List.length_map, List.length_range]
theorem pcs_get (l : List UInt8) {n : Nat} (h : n < lastN l + 1) : (pcs l).getD n [] = pc l n := by
  unfold pcs; rw [List.getD_eq_getElem?_getD, List.getElem?_map, List.getElem?_range h]; rfl
theorem pcs_take (l : List UInt8) {k : Nat} (h : k < lastN l + 1) : (pcs l).take k ++ [pc l k] = (pcs l).take (k + 1) := by
  rw [List.take_succ_eq_append_getElem (by rw [pcs_length]; exact h)]
  congr 2
  unfold pcs; simp
theorem secs_take (tb ex ver : Int) (l : List UInt8) {k : Nat} (h : k < lastN l + 1) : (secs tb ex ver l).take k ++ [mk tb ex ver l k] = (secs tb ex ver l).take (k + 1) := by
  rw [List.take_succ_eq_append_getElem (by rw [secs_length]; exact h)]
  congr 2
  unfold secs; simp
def scLen : Value → Nat
  | .string s => s.size
  | _ => 0
def rsA (w0 : World) (l : List UInt8) (s v : Value) (wr : World) : Prop := ∃ k : Nat, k ≤ lastN l ∧ s = .string (st (l.drop (k * 4084))) ∧ OwnE rowT wr w0.heap.size v ((pcs l).take k) ∧ Keeps w0 wr
def rsB (w0 : World) (tb ex ver : Int) (l : List UInt8) (o i : Value) (wr : World) : Prop := ∃ k : Nat, k ≤ lastN l + 1 ∧ i = .int .i64 (k : Int) ∧ OwnE rsecT wr w0.heap.size o ((secs tb ex ver l).take k) ∧ Keeps w0 wr ∧ (0 < k → chk (base tb ex ver l) = 0)
set_option maxHeartbeats 6400000 in
theorem scrsplit_any (w0 : World) (tb ex ver : Int) (s : ByteArray) (w : World) (hs : s.size ≤ 1000000) (hk : Keeps w0 w) :
    Calls Try.prog 21 #[.int .i64 tb, .int .i64 ex, .int .i64 ver, .string s] w (SplPost rsecT w0 tb ex ver (ls s)) := by
  obtain ⟨l, hl⟩ : ∃ l, ls s = l := ⟨_, rfl⟩
  have hsl : s = st l := by rw [← hl, st_ls]
  have hll : l.length ≤ 1000000 := by rw [← hl, ← ls_size]; exact hs
  have hla : lastN l ≤ 245 := by unfold lastN; omega
  rw [hl]
  subst hsl
  clear hl hs
  go_enter Try.func21, Try.ntmps21
  go_wp2
  go_loopw [3, 10] (fun x v wr => rsA w0 l x v wr) (fun x _ _ => scLen x)
  case atStart => exact ⟨0, by omega, by rw [Nat.zero_mul, List.drop_zero], by rw [List.take_zero]; exact OwnE.nil _ _, hk⟩
  case round =>
    obtain ⟨k, hkl, rfl, hown, hkw⟩ := hrel
    obtain ⟨S, hS⟩ : ∃ S, st (l.drop (k * 4084)) = S := ⟨_, rfl⟩
    have hsz : S.size = l.length - k * 4084 := by rw [← hS, st_size, List.length_drop]
    rw [hS]
    have HO := Lib.hid hown
    have HK := Lib.hid hkw
    have hal : ((pcs l).take k).length ≤ 100000000 := by rw [List.length_take, pcs_length]; omega
    have hbs := Below.size hkw
    by_cases hlt : k < lastN l
    · have hbig : 4084 < S.size := by rw [hsz]; unfold lastN at hlt; omega
      have hE1 : ls (S.extract 0 4084) = pc l k := by
        rw [ls_part, ← hS, ls_st, List.drop_zero]; rfl
      have hE2 : S.extract 4084 S.size = st (l.drop ((k + 1) * 4084)) := by
        rw [← st_ls (S.extract 4084 S.size), ls_part, ← hS, ls_st, List.drop_drop, List.take_of_length_le]
        · congr 2; omega
        · rw [List.length_drop, st_size, List.length_drop]; omega
      have HE2 := Lib.hid hE2
      have HCS := Lib.hid (show (rowT.enc (pc l k)).toArray = #[.string (S.extract 0 4084)] by show #[Value.string (st (pc l k))] = _; rw [← hE1, st_ls])
      have HTK := Lib.hid (pcs_take l (k := k) (by omega))
      clear hE1 hE2 hS hown hkw hsz
      go_wp2_with (at_builtin; refine wp_pushE (T := rowT) rfl _ _ rfl (pc l k) _ HCS.out wr.heap.size rfl HO.out rfl rfl hal hbs _ ?_; intro v5 w5 own5 grow5 at5)
      have HO5 := Lib.hid own5
      have HK5 := Lib.hid ((HK.out.alloc _).grown grow5 HO.out.block)
      clear own5 grow5 at5
      go_roundw
      case rel => exact ⟨k + 1, by omega, by rw [HE2.out], by rw [← HTK.out]; exact HO5.out, HK5.out⟩
      case measure =>
        show (S.extract 4084 S.size).size < S.size
        rw [ByteArray.size_extract]; omega
    · obtain rfl : k = lastN l := by omega
      have hbig : ¬ 4084 < S.size := by rw [hsz]; unfold lastN; omega
      have hE1 : ls S = pc l (lastN l) := by
        rw [← hS, ls_st]; unfold pc
        rw [List.take_of_length_le]
        rw [List.length_drop]; unfold lastN; omega
      have HCS := Lib.hid (show (rowT.enc (pc l (lastN l))).toArray = #[.string S] by show #[Value.string (st (pc l (lastN l)))] = _; rw [← hE1, st_ls])
      have HTK := Lib.hid (show (pcs l).take (lastN l) ++ [pc l (lastN l)] = pcs l by rw [pcs_take l (by omega), List.take_of_length_le (by rw [pcs_length]; omega)])
      clear hE1 hS hown hkw hsz
      obtain ⟨N, hN⟩ : ∃ N, (pcs l).length = N := ⟨_, rfl⟩
      have HN := Lib.hid hN
      have HNL := Lib.hid (show N = lastN l + 1 by rw [← hN, pcs_length])
      have hN6 : N ≤ 246 := by rw [← hN, pcs_length]; omega
      clear hN hkl hlt hla
      go_wp2_with (at_builtin; refine wp_pushE (T := rowT) rfl _ _ rfl (pc l (lastN l)) _ HCS.out wr.heap.size rfl HO.out rfl rfl hal hbs _ ?_; intro v5 w5 own5 grow5 at5; rw [HTK.out] at own5; have HK5 := Lib.hid ((HK.out.alloc _).grown grow5 HO.out.block); obtain ⟨a5, c5, rfl, is5, _⟩ := own5.is; rw [HN.out] at is5 ⊢; have HT5 := Lib.hid is5.texts; clear own5 grow5 at5 is5)
      obtain ⟨A, hA⟩ : ∃ A, lastN l = A := ⟨_, rfl⟩
      have hNA : (N : Int) - 1 = (A : Int) := by have := HNL.out; omega
      have HA := Lib.hid hA
      obtain ⟨c, hc⟩ : ∃ c, chk (base tb ex ver l) = c := ⟨_, rfl⟩
      have HC := Lib.hid hc
      clear hc hA
      go_loopw [11, 12] (fun o i w2 => rsB w5 tb ex ver l o i w2) (fun _ i _ => N - (intOf i).toNat)
      case atStart => exact ⟨0, by omega, rfl, by rw [List.take_zero]; exact OwnE.nil _ _, Keeps.refl w5, fun h => by omega⟩
      case round =>
        obtain ⟨k, hk, rfl, hown, hkw, hcz⟩ := hrel
        rw [← HNL.out] at hk
        have HO := Lib.hid hown
        have HKW := Lib.hid hkw
        have HT := Lib.hid (HT5.out.keeps hkw)
        have HCZ := Lib.hid hcz
        clear hcz
        clear hown hkw HK
        by_cases hlt : k < N
        · have hkI : (k : Int) < (N : Int) := by omega
          have hkb : (k : Int) ≤ 246 := by omega
          obtain ⟨b5, off5, rfl, hcell⟩ := HT.out.get (k := k) (by rw [HN.out]; exact hlt)
          rw [pcs_get l (by rw [← HNL.out]; exact hlt)] at hcell
          obtain ⟨P, hP⟩ : ∃ P, st (pc l k) = P := ⟨_, rfl⟩
          rw [hP] at hcell
          have HMK := Lib.hid (show mk tb ex ver l k = ⟨tb, false, ex, ver, true, (k : Int), (A : Int), P⟩ by unfold mk; rw [HA.out, hP])
          have hck : chk ⟨tb, false, ex, ver, true, (k : Int), (A : Int), P⟩ = c := by rw [← HMK.out, chk_mk (by have := HNL.out; omega), HC.out]
          have HCK := Lib.hid (fun W => scrcheck_any W ⟨tb, false, ex, ver, true, (k : Int), (A : Int), P⟩ W (Keeps.refl W))
          unfold ChkPost at HCK
          simp only [hck] at HCK
          have HSA := Lib.hid (SecAt.made wr ⟨tb, false, ex, ver, true, (k : Int), (A : Int), P⟩ 28)
          have HKB := Lib.hid (HKW.out.alloc (.cells (secC ⟨tb, false, ex, ver, true, (k : Int), (A : Int), P⟩).toArray 28))
          have HOB := Lib.hid (HO.out.keeps ((Keeps.refl wr).alloc (.cells (secC ⟨tb, false, ex, ver, true, (k : Int), (A : Int), P⟩).toArray 28)))
          clear hP hck
          by_cases hc0 : c = 0
          · subst hc0
            have HTK := Lib.hid (show (secs tb ex ver l).take k ++ [⟨tb, false, ex, ver, true, (k : Int), (A : Int), P⟩] = (secs tb ex ver l).take (k + 1) by rw [← HMK.out]; exact secs_take tb ex ver l (by have := HNL.out; omega))
            have hal : ((secs tb ex ver l).take k).length ≤ 100000000 := by rw [List.length_take]; omega
            go_wp2_with (first | (go_at_call 11; refine (HCK.out _).mono ?_; rintro _ w6 ⟨rfl, k6⟩; have HS6 := Lib.hid (HSA.out.keeps k6); have HO6 := Lib.hid (HOB.out.keeps k6); have HK6 := Lib.hid (HKB.out.trans k6); have hb6 := Below.size HK6.out; clear k6) | (refine wp_ldR (b := wr.heap.size) (off := 0) HS6.out.range rfl _ rfl rfl ?_) | (at_builtin; refine wp_pushE (T := rsecT) rfl _ _ rfl ⟨tb, false, ex, ver, true, (k : Int), (A : Int), P⟩ _ rfl w6.heap.size rfl HO6.out rfl rfl hal hb6 _ ?_; intro v7 w7 own7 grow7 at7; rw [HTK.out] at own7; have HO7 := Lib.hid own7; have HK7 := Lib.hid ((HK6.out.alloc _).grown grow7 HO6.out.block); clear own7 grow7 at7))
            go_roundw
            case rel => exact ⟨k + 1, by rw [← HNL.out]; omega, by go_num, HO7.out, HK7.out, fun _ => HC.out⟩
            case measure => simp [intOf]; omega
          · have hcb : (c != 0) = true := by simpa using hc0
            have HSP := Lib.hid (show spl tb ex ver l = ([], c) by rw [spl_bad (by have := HNL.out; omega) (by rw [HC.out]; exact hc0), HC.out])
            clear hc0
            go_wp2_with (first | (refine wp_ldR (b := wr.heap.size) (off := 0) HS6.out.range rfl _ rfl rfl ?_) | (go_at_call 11; refine (HCK.out _).mono ?_; rintro _ w6 ⟨rfl, k6⟩; first | (have HS6 := Lib.hid (HSA.out.keeps k6); have HK6 := Lib.hid (HKB.out.trans k6); clear HSA HKB k6) | (have HK8 := Lib.hid (HK6.out.trans k6); clear k6)))
            go_ret2
            exact ⟨.slice none 0 0, by show Ending.returned (.tuple #[.slice none 0 0, .int .i64 c]) = _; rw [HSP.out], by rw [HSP.out]; exact OwnE.nil _ _, HK5.out.trans HK8.out⟩
        · have hkI : ¬ ((k : Int) < (N : Int)) := by omega
          have hkN : k = N := by omega
          have HSE := Lib.hid (show (secs tb ex ver l).take k = secs tb ex ver l from List.take_of_length_le (by rw [secs_length, hkN, HNL.out]; exact Nat.le_refl _))
          have hN1 : 1 ≤ N := by have := HNL.out; omega
          have HSP := Lib.hid (spl_ok (tb := tb) (ex := ex) (ver := ver) (l := l) (by have := HNL.out; omega) (HCZ.out (by omega)))
          have HOE := Lib.hid (show OwnE rsecT wr w0.heap.size u11 (secs tb ex ver l) by have := HO.out.lower (Below.size HK5.out); rwa [HSE.out] at this)
          clear hkN HO hlt
          go_wp2
          go_ret2
          exact ⟨u11, by show Ending.returned (.tuple #[u11, .int .i64 0]) = _; rw [HSP.out], by rw [HSP.out]; exact HOE.out, HK5.out.trans HKW.out⟩
end Go.Proofs.Ytmfldnflcmbnjaa
