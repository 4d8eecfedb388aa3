/-
  What Join answers, and what the laws of layer 7 share: joined, few, Texts, the chapter's examples. For lists of up to a thousand texts. The memory that was there stays.
-/
import Derived.Test.YtggokcakikkdgaaDgF
import Derived.Test.YtggokcakikkdgaaDgG
import Derived.Test.YtggokcakikkdgaaBuilder
namespace Go.Proofs.Ytggokcakikkdgaa
open Go.RowKit Gf Dg
set_option maxRecDepth 100000
theorem Keeps.on {w0 w w' : World} {b : Nat} (h : Keeps w0 w) (hb : w0.heap.size = b) (k : Below b w w') : Keeps w0 w' := by subst hb; exact Below.trans h k
theorem ownsRow_keeps {w w' : World} {base : Nat} {e : TypeId} {size : Nat} {v : Value} {n : Nat} {xs : List Value} (h : w.ownsRow base e size v n xs) (k : Keeps w w') : w'.ownsRow base e size v n xs := by
  obtain ⟨hl, h⟩ := h
  refine ⟨hl, ?_⟩
  rcases h with h | ⟨g, cap, cur, hv, hb, hh, h5⟩
  · exact .inl h
  · exact .inr ⟨g, cap, cur, hv, hb, (Below.block k g (Array.getElem?_eq_some_iff.1 hh).1).trans hh, h5⟩
theorem IsBd.keeps {base b : Nat} {l : List UInt8} {w w' : World} (h : IsBd base b l w) (k : Keeps w w') : IsBd base b l w' := by
  rcases h with ⟨hB, v, hb, ho, hn⟩ | ⟨hB, v, hb, ho, hn⟩
  · exact .inl ⟨hB, v, (Below.block k b (Array.getElem?_eq_some_iff.1 hb).1).trans hb, ownsRow_keeps ho k, hn⟩
  · exact .inr ⟨hB, v, (Below.block k b (Array.getElem?_eq_some_iff.1 hb).1).trans hb, ownsRow_keeps ho k, hn⟩
theorem joinE_take {L : List (List UInt8)} {k : Nat} (h : ∀ d ∈ L.take k, check d = 0) (hk : k < L.length) (hb : check (L.getD k []) ≠ 0) : joinE L = check (L.getD k []) := by
  induction L generalizing k with
  | nil => simp at hk
  | cons a r ih =>
    cases k with
    | zero => unfold joinE; rw [List.getD_cons_zero] at hb ⊢; rw [if_pos hb]
    | succ k =>
      unfold joinE
      rw [if_neg (by simp [h a (by simp)]), List.getD_cons_succ]
      rw [List.getD_cons_succ] at hb
      exact ih (fun d hd => h d (by simp [hd])) (by simpa using hk) hb
def JoinPost (w0 : World) (L : List (List UInt8)) (e : Ending) (w' : World) : Prop := e = .returned (.tuple #[.string (st (if joinE L = 0 then L.flatten else [])), .int .i64 (joinE L)]) ∧ Keeps w0 w'
def jnRel (w : World) (b : Nat) (L : List (List UInt8)) (i : Value) (wr : World) : Prop := ∃ k : Nat, k ≤ L.length ∧ i = .int .i64 (k : Int) ∧ (∀ d ∈ L.take k, check d = 0) ∧ IsBd b b (L.take k).flatten wr ∧ Keeps w wr
theorem joinPost_no {w0 W : World} {L : List (List UInt8)} {e : Int} (h : joinE L = e) (he : e ≠ 0) (k : Keeps w0 W) : JoinPost w0 L (.returned (.tuple #[.string (st []), .int .i64 e])) W := by
  unfold JoinPost; rw [h, if_neg he]; exact ⟨rfl, k⟩
theorem joinPost_yes {w0 W : World} {L : List (List UInt8)} (h : joinE L = 0) (k : Keeps w0 W) : JoinPost w0 L (.returned (.tuple #[.string (st L.flatten), .int .i64 0])) W := by
  unfold JoinPost; rw [h, if_pos rfl]; exact ⟨rfl, k⟩
theorem getD_mem_len {L : List (List UInt8)} {k : Nat} (h : k < L.length) : (L.getD k []).length ≤ L.flatten.length := by
  have := flat_le L (k + 1)
  rw [flat_nx h, List.length_append] at this
  omega
set_option maxHeartbeats 1600000 in
theorem dgjoin_any (w0 : World) (a : Option Addr) (len cap : Nat) (L : List (List UInt8)) (w : World) (hI : IsT w a len L) (hn : L.length ≤ 1000000) (hs : L.flatten.length ≤ 1000000) (hk : Keeps w0 w) :
    Calls Try.prog 24 #[.slice a len cap] w (JoinPost w0 L) := by
  obtain ⟨rfl, _⟩ := id hI
  go_enter Try.func24, Try.ntmps24
  go_wp2
  obtain ⟨b, hb⟩ : ∃ b, w.heap.size = b := ⟨_, rfl⟩
  have hB := IsBd.new w
  have hkA := (Keeps.refl w).alloc (.cells #[.pointer none, .slice none 0 0] 70)
  obtain ⟨wA, hwA⟩ : ∃ wA, w.alloc (.cells #[.pointer none, .slice none 0 0] 70) = wA := ⟨_, rfl⟩
  rw [hwA] at hB hkA
  rw [hb] at hB
  rw [hwA, hb]
  have HB := Lib.hid hb
  have HBD := Lib.hid hB
  have HKA := Lib.hid hkA
  clear hwA hB hkA hb
  go_loopw [10] (fun i wr => jnRel w b L i wr) (fun i _ => L.length - (intOf i).toNat)
  case atStart => exact ⟨0, by omega, rfl, by simp, HBD.out, HKA.out⟩
  case round =>
    obtain ⟨k, hk2, rfl, hall, hbd, hkp⟩ := hrel
    have hfl := flat_le L k
    by_cases hlt : k < L.length
    · obtain ⟨b1, off1, rfl, hc⟩ := (hI.keeps hkp).get hlt
      have hge := getD_mem_len hlt
      have HLT := Lib.hid hlt
      have HJ := Lib.hid (fun h => joinE_take hall hlt h)
      have HN := Lib.hid (flat_nx hlt)
      have HTK := Lib.hid (show L.take (k + 1) = L.take k ++ [L.getD k []] by rw [List.take_succ_eq_append_getElem hlt, List.getD_eq_getElem?_getD, List.getElem?_eq_getElem hlt]; rfl)
      have hfl2 := flat_le L (k + 1)
      rw [HN.out, List.length_append] at hfl2
      obtain ⟨t, ht⟩ : ∃ t, L.getD k [] = t := ⟨_, rfl⟩
      rw [ht] at hc hge HJ HN HTK hfl2
      have hz : (st t).size ≤ 1000000000 := by rw [st_size]; omega
      have HAL := Lib.hid hall
      have HBD2 := Lib.hid hbd
      have hch := dgcheck_any wr (st t) wr hz (Keeps.refl wr)
      unfold ChPost at hch
      rw [ls_st] at hch
      have HCH := Lib.hid hch
      clear hall hbd ht hch
      by_cases hc0 : check t = 0
      · rw [hc0] at HCH
        have HC0 := Lib.hid hc0
        clear hc0
        go_wp2_with fail
        refine HCH.out.mono ?_
        rintro e w1 ⟨rfl, hk1⟩
        have HB3 := Lib.hid (HBD2.out.keeps hk1)
        have HK3 := Lib.hid (hkp.trans hk1)
        have hb3 : b ≤ w1.heap.size := by have := Below.size HK3.out; have := HB.out; omega
        clear hk1
        go_wp2_with fail
        refine (wstr_any b b _ (st t) w1 HB3.out (by rw [st_size]; omega) hb3).mono ?_
        rintro e w2 ⟨rfl, hB4, hbel⟩
        have HB4 := Lib.hid hB4
        have HK4 := Lib.hid (HK3.out.on HB.out hbel)
        clear hB4 hbel
        go_wp2
        go_roundw
        case rel =>
          refine ⟨k + 1, HLT.out, by go_num, fun d hd => ?_, by rw [HN.out]; exact HB4.out, HK4.out⟩
          rw [HTK.out] at hd
          rcases List.mem_append.1 hd with hd | hd
          · exact HAL.out d hd
          · rw [List.mem_singleton.1 hd]; exact HC0.out
        case measure => have := HLT.out; simp [intOf]; omega
      · have HJ2 := Lib.hid (HJ.out hc0)
        have hcb : (check t != 0) = true := by simpa using hc0
        have HC0 := Lib.hid hc0
        generalize check t = ce at *
        clear hc0
        go_wp2_with fail
        refine HCH.out.mono ?_
        rintro e w1 ⟨rfl, hk1⟩
        go_wp2
        go_ret2
        exact joinPost_no HJ2.out HC0.out ((hk.trans hkp).trans hk1)
    · have HE := Lib.hid (show L.take k = L from List.take_of_length_le (by omega))
      rw [HE.out] at hall hbd
      have HJ := Lib.hid (ok_joinE hall)
      have HBD2 := Lib.hid hbd
      have hb3 : b ≤ wr.heap.size := by have := Below.size hkp; have := HB.out; omega
      clear hall hbd
      go_wp2_with fail
      refine (bstr_any b b _ wr HBD2.out hb3).mono ?_
      rintro e w2 ⟨rfl, hbel⟩
      have HK4 := Lib.hid (hkp.on HB.out hbel)
      clear hbel
      go_wp2
      go_ret2
      exact joinPost_yes HJ.out (hk.trans HK4.out)
end Go.Proofs.Ytggokcakikkdgaa
