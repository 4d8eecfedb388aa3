/-
  What Join answers: for up to a million sections. The memory that was there stays.
-/
import Derived.Test.YtofnokikjfmfgaaScI
import Derived.Test.YtofnokikjfmfgaaBuilder
namespace Go.Proofs.Ytofnokikjfmfgaa
open Go.RowKit Gf Sct
set_option maxRecDepth 100000
def JnPost (w0 : World) (L : List Sec) (e : Ending) (w' : World) : Prop := e = .returned (.tuple #[.string (st (jn L).1), .int .i64 (jn L).2]) ∧ Keeps w0 w'
theorem JnPost.of {w0 W : World} {L : List Sec} {l : List UInt8} {n : Int} (e : jn L = (l, n)) (k : Keeps w0 W) : JnPost w0 L (.returned (.tuple #[.string (st l), .int .i64 n])) W := by unfold JnPost; rw [e]; exact ⟨rfl, k⟩
theorem jn_err {L : List Sec} (h : (jn L).2 ≠ 0) : (jn L).1 = [] := by
  unfold jn at h ⊢
  split
  · rfl
  · split
    · split
      · split
        · rename_i h1 h2 h3 h4
          rw [if_neg h1, if_pos h2, if_pos h3, if_pos h4] at h
          exact absurd rfl h
        · rfl
      · rfl
    · rfl
/-- What is known of sections that are a text. -/
theorem jn_good {L : List Sec} (h : (jn L).2 = 0) : jn L = (bodies L, 0) ∧ L.length ≤ 256 ∧ ∀ i, i < L.length → (L.getD i zs).body.size ≤ 4084 := by
  by_cases h0 : L.length = 0
  · rw [jn_nil h0] at h; simp at h
  · have hall : ∀ k, (∀ i, i < k → i < L.length → chk (L.getD i zs) = 0) := by
      intro k
      induction k with
      | zero => intro i hi; omega
      | succ k ih =>
        intro i hi hil
        by_cases e : i < k
        · exact ih i e hil
        · have : i = k := by omega
          subst this
          by_cases q : chk (L.getD i zs) = 0
          · exact q
          · rw [jn_chk hil (fun j hj => ih j hj (by omega)) q] at h
            exact absurd h q
    have hc : ∀ i, i < L.length → chk (L.getD i zs) = 0 := fun i hi => hall L.length i hi hi
    have hf := fstE_ok hc
    have hfit := (chk_fit (hc 0 (by omega))).1
    have hj : jn L = (bodies L, 0) ∧ (L.length : Int) = (L.getD 0 zs).la + 1 := by
      have h2 := h
      unfold jn at h2 ⊢
      rw [if_neg h0, if_pos hf] at h2 ⊢
      by_cases h3 : L.all (kin (L.getD 0 zs)) = true
      · rw [if_pos h3] at h2 ⊢
        by_cases h4 : (L.length : Int) = (L.getD 0 zs).la + 1 ∧ ordB L = true
        · rw [if_pos h4]; exact ⟨rfl, h4.1⟩
        · rw [if_neg h4] at h2; simp at h2
      · rw [if_neg h3] at h2; simp at h2
    refine ⟨hj.1, ?_, fun i hi => (chk_fit (hc i hi)).2⟩
    have := hfit.2.2.2.2.2.2.2.1
    have := hj.2
    omega
theorem bodies_next {L : List Sec} {k : Nat} (h : k < L.length) : bodies (L.take (k + 1)) = bodies (L.take k) ++ ls (L.getD k zs).body := by
  unfold bodies
  rw [List.take_succ_eq_append_getElem h, List.flatMap_append, List.getD_eq_getElem?_getD, List.getElem?_eq_getElem h]; simp
theorem bodies_len {L : List Sec} (h : ∀ i, i < L.length → (L.getD i zs).body.size ≤ 4084) : ∀ k, k ≤ L.length → (bodies (L.take k)).length ≤ 4084 * k
  | 0, _ => by simp [bodies]
  | k + 1, hk => by
    rw [bodies_next (by omega), List.length_append, ← ls_size]
    have := bodies_len h k (by omega)
    have := h k (by omega)
    omega
def joinRel (w : World) (b : Nat) (L : List Sec) (i : Value) (wr : World) : Prop := ∃ k : Nat, k ≤ L.length ∧ i = .int .i64 (k : Int) ∧ IsBd b b (bodies (L.take k)) wr ∧ Keeps w wr
set_option maxHeartbeats 3200000 in
theorem scjoin_any (w0 : World) (a : Option Addr) (len cap : Nat) (L : List Sec) (w : World) (hI : IsE secT w a len L) (hl : len ≤ 1000000) (hk : Keeps w0 w) :
    Calls Try.prog 13 #[.slice a len cap] w (JnPost w0 L) := by
  have HM := Lib.hid (scmay_any w a len cap L w hI hl (Keeps.refl w))
  unfold MayPost at HM
  have HLL := Lib.hid hI.1
  by_cases hj : (jn L).2 = 0
  · obtain ⟨j1, j2, j3⟩ := jn_good hj
    rw [hj] at HM
    have h0 : 0 < len := by
      rw [hI.1]
      by_cases q : L.length = 0
      · rw [jn_nil q] at hj; simp at hj
      · omega
    obtain ⟨b0, off, rfl, hR⟩ := row_of (T := secT) rfl (fun _ => rfl) hI h0
    have HR := Lib.hid hR
    have HJ := Lib.hid j1
    have HBL := Lib.hid (bodies_len j3)
    have HB4 := Lib.hid j3
    have hl256 : len ≤ 256 := by rw [hI.1]; exact j2
    have HK := Lib.hid hk
    clear hI hR j1 j2 j3 hj hk
    go_enter Try.func13, Try.ntmps13
    go_wp2_with (go_at_call 34; refine HM.out.mono ?_; rintro _ w1 ⟨rfl, k1⟩; have HR1 := Lib.hid (HR.out.keeps k1); have HK1 := Lib.hid (HK.out.trans k1); clear k1 HR HK HM)
    obtain ⟨b, hb⟩ : ∃ b, w1.heap.size = b := ⟨_, rfl⟩
    have hB := IsBd.new w1
    have hkA := (Keeps.refl w1).alloc (.cells #[.pointer none, .slice none 0 0] 71)
    obtain ⟨wA, hwA⟩ : ∃ wA, w1.alloc (.cells #[.pointer none, .slice none 0 0] 71) = wA := ⟨_, rfl⟩
    rw [hwA] at hB hkA
    rw [hb] at hB
    rw [hwA, hb]
    have HB := Lib.hid hb
    have HBD := Lib.hid hB
    have HKA := Lib.hid hkA
    clear hwA hB hkA hb
    go_loopw [15] (fun i wr => joinRel w1 b L i wr) (fun i _ => len - (intOf i).toNat)
    case atStart => exact ⟨0, by omega, rfl, HBD.out, HKA.out⟩
    case round =>
      obtain ⟨k, hk, rfl, hbd, hkw⟩ := hrel
      rw [← HLL.out] at hk
      have HKW := Lib.hid hkw
      have HBW := Lib.hid hbd
      clear hbd hkw
      by_cases hlt : k < len
      · have hkI : (k : Int) < (len : Int) := by omega
        obtain ⟨x, hx⟩ : ∃ x, L.getD k zs = x := ⟨_, rfl⟩
        have hrk := (HR1.out.keeps HKW.out).row k hlt
        rw [hx] at hrk
        have HRK := Lib.hid hrk
        have HNX := Lib.hid (show bodies (L.take (k + 1)) = bodies (L.take k) ++ ls x.body by rw [bodies_next (by rw [← HLL.out]; exact hlt), hx])
        have HSZ := Lib.hid (show (bodies (L.take k)).length + x.body.size ≤ 1000000000 by
          have h1 := HBL.out k (by rw [← HLL.out]; omega)
          have h2 := HB4.out k (by rw [← HLL.out]; exact hlt)
          rw [hx] at h2
          omega)
        have HBX := Lib.hid (HBW.out.keeps ((Keeps.refl wr).alloc (.cells (secC x).toArray 29)))
        have HMB := Lib.hid (show b ≤ (wr.alloc (.cells (secC x).toArray 29)).heap.size by have := Below.size HKW.out; rw [World.size_alloc, ← HB.out]; omega)
        clear hrk hx
        obtain ⟨tb, pv, ex, ver, nw, num, la, S⟩ := x
        go_wp2_with (first | (refine wp_ldS (b := b0) (off := off + k * 8) HRK.out rfl _ rfl rfl ?_) | (go_at_call 35; refine (wstr_any b b _ S _ HBX.out HSZ.out HMB.out).mono ?_; rintro e w2 ⟨rfl, hB2, bel2⟩; have HB2 := Lib.hid hB2; have HK2 := Lib.hid ((HKW.out.alloc (.cells (secC ⟨tb, pv, ex, ver, nw, num, la, S⟩).toArray 29)).on HB.out bel2); clear hB2 bel2))
        go_roundw
        case rel => exact ⟨k + 1, by rw [← HLL.out]; omega, by go_num, by rw [HNX.out]; exact HB2.out, HK2.out⟩
        case measure => simp [intOf]; omega
      · have hkI : ¬ (k : Int) < (len : Int) := by omega
        have HBE := Lib.hid (show IsBd b b (bodies L) wr by have := HBW.out; rwa [List.take_of_length_le (by rw [← HLL.out]; omega)] at this)
        have hmb : b ≤ wr.heap.size := by have := Below.size HKW.out; have := HB.out; omega
        go_wp2_with (go_at_call 36; refine (bstr_any b b _ wr HBE.out hmb).mono ?_; rintro e w2 ⟨rfl, bel2⟩; have HK2 := Lib.hid (HKW.out.on HB.out bel2); clear bel2)
        go_ret2
        exact JnPost.of HJ.out (HK1.out.trans HK2.out)
  · have hje := jn_err hj
    obtain ⟨r, hr⟩ : ∃ r, (jn L).2 = r := ⟨_, rfl⟩
    rw [hr] at hj HM
    have HJ := Lib.hid (show jn L = ([], r) by rw [← hr, ← hje])
    have hrb : (r != 0) = true := by simpa using hj
    clear hI hje hr hj
    go_enter Try.func13, Try.ntmps13
    go_wp2_with (go_at_call 34; refine HM.out.mono ?_; rintro _ w1 ⟨rfl, k1⟩)
    go_ret2
    exact JnPost.of HJ.out (hk.trans k1)
end Go.Proofs.Ytofnokikjfmfgaa
