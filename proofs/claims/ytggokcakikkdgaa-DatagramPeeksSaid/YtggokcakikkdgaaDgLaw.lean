/-
  What the laws of layer 7 share: joined, few, Texts, the chapter's examples. For lists of texts that memory may hold. The memory that was there stays.
-/
import Derived.Test.YtggokcakikkdgaaDgH
import Derived.Test.YtggokcakikkdgaaArgs
namespace Go.Proofs.Ytggokcakikkdgaa
open Go.RowKit Gf Dg
set_option maxRecDepth 100000
/-- The bytes that a text may have. -/
def big : Nat := 140737488351232
def lawJRel (L : List (List UInt8)) (s i : Value) : Prop := ∃ k : Nat, k ≤ L.length ∧ s = .string (st (L.take k).flatten) ∧ i = .int .i64 (k : Int)
theorem flat_big {L : List (List UInt8)} (h : ∀ d ∈ L, d.length ≤ big) : L.flatten.length ≤ L.length * big := by
  induction L with
  | nil => simp
  | cons a r ih =>
    have h1 := h a (by simp)
    have h2 := ih fun d hd => h d (by simp [hd])
    rw [List.flatten_cons, List.length_append, List.length_cons, Nat.add_mul]; omega
theorem cat_big {L : List (List UInt8)} (h : ∀ d ∈ L, d.length ≤ big) (hl : L.length ≤ 1000) {k : Nat} (hk : k < L.length) : ¬ 9223372036854775807 < (st (L.take k).flatten).size + (st (L.getD k [])).size := by
  have h1 : (L.take k).flatten.length ≤ (L.take k).length * big := flat_big fun d hd => h d (List.mem_of_mem_take hd)
  have h2 : (L.getD k []).length ≤ big := by
    rw [List.getD_eq_getElem?_getD, List.getElem?_eq_getElem hk]; exact h _ (List.getElem_mem hk)
  have h3 : (L.take k).length * big ≤ 1000 * big := Nat.mul_le_mul_right _ (by rw [List.length_take]; omega)
  rw [st_size, st_size]
  unfold big at *
  omega
set_option maxHeartbeats 800000 in
theorem dgjoined_any (a : Option Addr) (len cap : Nat) (L : List (List UInt8)) (w : World) (hI : IsT w a len L) (hl : L.length ≤ 1000) (hb : ∀ d ∈ L, d.length ≤ big) :
    Calls Try.prog 15 #[.slice a len cap] w fun e w' => e = .returned (.string (st L.flatten)) ∧ w = w' := by
  obtain ⟨rfl, _⟩ := id hI
  go_enter Try.func15, Try.ntmps15
  go_wp2
  go_loop [3, 4] (fun s i => lawJRel L s i) (fun _ i => L.length - (intOf i).toNat)
  case atStart => exact ⟨0, by omega, rfl, rfl⟩
  case round =>
    obtain ⟨k, hk, rfl, rfl⟩ := hrel
    by_cases hlt : k < L.length
    · obtain ⟨b1, off1, rfl, hc⟩ := hI.get hlt
      have hcat := cat_big hb hl hlt
      have HT := Lib.hid (show st (L.take k).flatten ++ st (L.getD k []) = st (L.take (k + 1)).flatten by rw [st_append, flat_nx hlt])
      have HLT := Lib.hid hlt
      obtain ⟨t, ht⟩ : ∃ t, st (L.getD k []) = t := ⟨_, rfl⟩
      obtain ⟨F, hF⟩ : ∃ F, st (L.take k).flatten = F := ⟨_, rfl⟩
      rw [ht] at hc hcat HT
      rw [hF] at hcat HT
      rw [hF]
      clear ht hF
      go_wp2
      go_round
      case rel => exact ⟨k + 1, HLT.out, by rw [HT.out], by go_num⟩
      case measure => have := HLT.out; simp [intOf]; omega
    · have HE := Lib.hid (show L.take k = L from List.take_of_length_le (by omega))
      rw [HE.out]
      go_wp2
      go_ret
      exact ⟨rfl, rfl⟩
def fewB (L : List (List UInt8)) : Bool := decide (L.length ≤ 30) && decide (L.flatten.length ≤ 10000)
set_option maxHeartbeats 800000 in
theorem dgfew_any (a : Option Addr) (len cap : Nat) (L : List (List UInt8)) (w : World) (hI : IsT w a len L) (hb : ∀ d ∈ L, d.length ≤ big) :
    Calls Try.prog 14 #[.slice a len cap] w fun e w' => e = .returned (.bool (fewB L)) ∧ w = w' := by
  obtain ⟨rfl, _⟩ := id hI
  by_cases h : L.length ≤ 30
  · by_cases h2 : L.flatten.length ≤ 10000
    · have HF := Lib.hid (show fewB L = true by unfold fewB; rw [decide_eq_true h, decide_eq_true h2]; rfl)
      have hz : decide (((st L.flatten).size : Int) ≤ 10000) = true := by rw [st_size]; exact decide_eq_true (by omega)
      clear h2
      go_enter Try.func14, Try.ntmps14
      go_wp2_with fail
      refine (dgjoined_any _ _ _ L w hI (by omega) hb).mono ?_
      rintro e w1 ⟨rfl, rfl⟩
      go_wp2
      go_ret
      exact ⟨by rw [HF.out]; rfl, rfl⟩
    · have HF := Lib.hid (show fewB L = false by unfold fewB; rw [decide_eq_true h, decide_eq_false h2]; rfl)
      have hz : decide (((st L.flatten).size : Int) ≤ 10000) = false := by rw [st_size]; exact decide_eq_false (by omega)
      clear h2
      go_enter Try.func14, Try.ntmps14
      go_wp2_with fail
      refine (dgjoined_any _ _ _ L w hI (by omega) hb).mono ?_
      rintro e w1 ⟨rfl, rfl⟩
      go_wp2
      go_ret
      exact ⟨by rw [HF.out]; rfl, rfl⟩
  · have HF := Lib.hid (show fewB L = false by unfold fewB; rw [decide_eq_false h]; rfl)
    go_enter Try.func14, Try.ntmps14
    go_wp2
    go_ret
    exact ⟨by rw [HF.out]; rfl, rfl⟩
theorem st_inj {a b : List UInt8} (h : st a = st b) : a = b := by have := congrArg ls h; rwa [ls_st, ls_st] at this
def txsRel (w : World) (L : List (List UInt8)) (i : Value) (wr : World) : Prop := ∃ k : Nat, k ≤ L.length ∧ i = .int .i64 (k : Int) ∧ Eqv w wr
set_option maxHeartbeats 800000 in
/-- Two lists that are the same. -/
theorem dgtexts_any (a a' : Option Addr) (len len' cap cap' : Nat) (L : List (List UInt8)) (w : World) (hI : IsT w a len L) (hJ : IsT w a' len' L) (hl : L.length ≤ 1000000) :
    Calls Try.prog 25 #[.slice a len cap, .slice a' len' cap'] w fun e w' => e = .returned (.bool true) ∧ Eqv w w' := by
  obtain ⟨rfl, _⟩ := id hI
  obtain ⟨rfl, _⟩ := id hJ
  go_enter Try.func25, Try.ntmps25
  go_wp2
  go_loopw [5] (fun i wr => txsRel w L i wr) (fun i _ => L.length - (intOf i).toNat)
  case atStart => exact ⟨0, by omega, rfl, Eqv.refl _⟩
  case round =>
    obtain ⟨k, hk, rfl, he⟩ := hrel
    by_cases hlt : k < L.length
    · obtain ⟨b1, off1, rfl, hc1⟩ := hI.get hlt
      obtain ⟨b2, off2, rfl, hc2⟩ := hJ.get hlt
      obtain ⟨t, ht⟩ : ∃ t, st (L.getD k []) = t := ⟨_, rfl⟩
      rw [ht] at hc1 hc2
      have HLT := Lib.hid hlt
      have hki : (k : Int) < (L.length : Int) := by omega
      go_wp2
      refine wp_draw (by kernel_rfl)
        [.slice (some ⟨b1, off1, none⟩) L.length cap, .int .i64 (k : Int), .pointer (some ⟨b1, off1 + k, none⟩), .string t, .slice (some ⟨b2, off2, none⟩) L.length cap', .int .i64 (k : Int), .pointer (some ⟨b2, off2 + k, none⟩), .string t, .bool false]
        (fun _ W => Eqv w W)
        rfl (by kernel_rfl) (fin := ?fin) ?hfin (he.trans (Eqv.drew wr)) ?each ?hend
      case hfin => simp [seqA, dstOf, Act.put]; rfl
      case each =>
        refine ⟨?_, ?_, ?_, ?_, ?_, ?_, ?_, ?_, ?_, trivial⟩
        all_goals intro L6 w6 h0 hd hs hw
        all_goals unfold Does
        all_goals have hc1' := (hw.cell ⟨b1, off1 + k, none⟩).trans hc1
        all_goals have hc2' := (hw.cell ⟨b2, off2 + k, none⟩).trans hc2
        all_goals go_simp
      case hend =>
        intro L6 w6 hL6 hw
        clear hL6
        go_wp2
        go_roundw
        case rel => exact ⟨k + 1, HLT.out, by go_num, hw⟩
        case measure => have := HLT.out; simp [intOf]; omega
    · go_wp2
      go_ret
      exact ⟨rfl, he⟩
theorem ex_len : (make4 [0, 0, 0, 0] [0, 0, 0, 0] 17 []).length = 20 := by kernel_rfl
theorem ex_sum4 : csum (make4 [0, 0, 0, 0] [0, 0, 0, 0] 17 []) = 0 := by kernel_rfl
theorem ex_sum3 : csum [1, 2, 3] = 64509 := by kernel_rfl
theorem ex_mk : mkR 17 (20 + (([] : List UInt8).length : Int)) (make4 [0, 0, 0, 0] [0, 0, 0, 0] (UInt8.ofNat (17 : Int).toNat) []) = .tuple #[.string (st (make4 [0, 0, 0, 0] [0, 0, 0, 0] 17 [])), .int .i64 0] := by
  rw [mkR_ok (by decide)]; rfl
set_option maxHeartbeats 800000 in
theorem awake7_any (w0 w : World) (hk : Keeps w0 w) : Calls Try.prog 9 #[] w fun e w' => e = .returned (.bool true) ∧ Keeps w0 w' := by
  go_enter Try.func9, Try.ntmps9
  go_wp2_with fail
  refine (dgmake4_any w0 [0, 0, 0, 0] [0, 0, 0, 0] [] _ _ rfl rfl rfl rfl 17 w (by simp) hk).mono ?_
  rintro e w1 ⟨rfl, hk1⟩
  rw [ex_mk]
  obtain ⟨S, hS⟩ : ∃ S, st (make4 [0, 0, 0, 0] [0, 0, 0, 0] 17 []) = S := ⟨_, rfl⟩
  have hz : S.size = 20 := by rw [← hS, st_size, ex_len]
  have HS := Lib.hid (show ls S = make4 [0, 0, 0, 0] [0, 0, 0, 0] 17 [] by rw [← hS, ls_st])
  rw [hS]
  clear hS
  go_wp2_with fail
  refine (dgsum_any _ _ _ [ls S] _ (IsT.oneAt rfl S 9) (by simp) (by simp [← ls_size, hz])).mono ?_
  rintro e w2 ⟨rfl, he2⟩
  rw [show [ls S].flatten = make4 [0, 0, 0, 0] [0, 0, 0, 0] 17 [] by rw [HS.out]; simp, ex_sum4]
  have hk2 := (hk1.alloc (.cells #[.string S] 9)).eqv he2
  clear he2 hk1
  go_wp2_with fail
  refine (dgsum_any _ _ _ [[1, 2, 3]] _ (IsT.oneAt rfl ⟨#[1, 2, 3]⟩ 9) (by simp) (by simp)).mono ?_
  rintro e w3 ⟨rfl, he3⟩
  rw [show ([[1, 2, 3]] : List (List UInt8)).flatten = [1, 2, 3] from rfl, ex_sum3]
  have hk3 := (hk2.alloc (.cells #[.string ⟨#[1, 2, 3]⟩] 9)).eqv he3
  clear he3
  go_wp2
  go_ret
  exact ⟨rfl, hk3⟩
end Go.Proofs.Ytggokcakikkdgaa
