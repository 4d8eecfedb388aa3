/-
  For any string and any list of strings DatagramSplits returns true: of which datagrams bytes are made, or what is wrong, and what datagrams are together; nothing that was there is changed. No condition.
-/
import Derived.Test.YtggokcakikkdgaaRows
import Derived.Test.YtggokcakikkdgaaDgArgs
namespace Go.Proofs.Ytggokcakikkdgaa.datagramSplits
open Go.ChangeShapes Go.WideShapes Go.ChangeAt Go.RowKit Gf Dg
set_option maxRecDepth 100000
open Go.ChangeMaps (open_string shut_string)
set_option linter.unusedVariables false
set_option maxHeartbeats 1600000 in
theorem off (s : ByteArray) (a : Option Addr) (cap : Nat) (L : List (List UInt8)) (w : World) (hI : IsT w a L.length L) (hb : ∀ t ∈ L, t.length ≤ big) (h : ¬ s.size ≤ 5000 ∨ (s.size ≤ 5000 ∧ fewB L = false)) :
    Calls Try.prog 6 #[.string s, .slice a L.length cap] w fun e w' => e = .returned (.bool true) ∧ Below w.heap.size w w' := by
  rcases h with h | ⟨h, hf⟩
  · go_enter Try.func6, Try.ntmps6
    go_wp2_with fail
    refine (awake7_any w w (Keeps.refl w)).mono ?_
    rintro e w1 ⟨rfl, hk1⟩
    go_wp2
    go_ret
    exact ⟨rfl, hk1⟩
  · have HF := Lib.hid hf
    clear hf
    go_enter Try.func6, Try.ntmps6
    go_wp2_with fail
    refine (dgfew_any a _ cap L w hI hb).mono ?_
    rintro e w1 ⟨rfl, rfl⟩
    rw [HF.out]
    go_wp2_with fail
    refine (awake7_any w w (Keeps.refl w)).mono ?_
    rintro e w1 ⟨rfl, hk1⟩
    go_wp2
    go_ret
    exact ⟨rfl, hk1⟩
/-- The first error of those from k on. -/
def wRel (w : World) (L : List (List UInt8)) (v i : Value) (wr : World) : Prop := ∃ k : Nat, k ≤ L.length ∧ i = .int .i64 ((k : Int) - 1) ∧ v = .int .i64 (joinE (L.drop k)) ∧ Keeps w wr
theorem joinE_drop {L : List (List UInt8)} {k : Nat} (h : k < L.length) : joinE (L.drop k) = if check (L.getD k []) ≠ 0 then check (L.getD k []) else joinE (L.drop (k + 1)) := by
  rw [List.drop_eq_getElem_cons h, List.getD_eq_getElem?_getD, List.getElem?_eq_getElem h]; rfl
set_option maxHeartbeats 4000000 in
theorem core (s : ByteArray) (a : Option Addr) (cap : Nat) (L : List (List UInt8)) (w : World) (hI : IsT w a L.length L) (hb : ∀ t ∈ L, t.length ≤ big) (h : s.size ≤ 5000) (hf : fewB L = true) :
    Calls Try.prog 6 #[.string s, .slice a L.length cap] w fun e w' => e = .returned (.bool true) ∧ Below w.heap.size w w' := by
  have hl : L.length ≤ 30 ∧ L.flatten.length ≤ 10000 := by
    have h2 := hf
    unfold fewB at h2; rw [Bool.and_eq_true] at h2; exact ⟨of_decide_eq_true h2.1, of_decide_eq_true h2.2⟩
  obtain ⟨hl1, hl2⟩ := hl
  have hz : (st L.flatten).size ≤ 10000 := by rw [st_size]; exact hl2
  have HF := Lib.hid hf
  clear hf
  obtain ⟨⟨SL, se⟩, hS⟩ : ∃ q, split (ls s) = q := ⟨_, rfl⟩
  have HS := Lib.hid hS
  have HSL := Lib.hid (show SL.length ≤ 1000000 by
    have h1 := join_splitF
    by_cases he : (split (ls s)).2 = 0
    · obtain ⟨j1, j2⟩ := join_split he
      rw [hS] at j1 j2
      have key : ∀ l : List (List UInt8), (∀ d ∈ l, check d = 0) → l.length ≤ l.flatten.length := by
        intro l
        induction l with
        | nil => intro _; simp
        | cons d r ih =>
          intro hd
          have := ih fun x hx => hd x (by simp [hx])
          have h20 := (peek_ok (check_ok (hd d (by simp))).1).2.2.2.2.2
          rw [List.flatten_cons, List.length_append, List.length_cons]; omega
      have := key SL (joinE_ok j2)
      rw [j1, ← ls_size] at this
      omega
    · have := split_err he
      rw [hS] at this
      rw [show SL = [] from this]; simp)
  clear hS
  go_enter Try.func6, Try.ntmps6
  go_wp2_with fail
  refine (dgfew_any a _ cap L w hI hb).mono ?_
  rintro e w1 ⟨rfl, rfl⟩
  rw [HF.out]
  go_wp2_with fail
  refine (dgsplit_any w s w (by omega) (Keeps.refl w)).mono ?_
  rintro e w1 ⟨v1, rfl, own1, hk1⟩
  rw [HS.out] at own1
  rw [HS.out]
  have HO1 := Lib.hid own1
  clear own1
  go_wp2_with fail
  refine (dgrsplit_any w1 s w1 (by omega) (Keeps.refl w1)).mono ?_
  rintro e w2 ⟨v2, rfl, own2, hk2⟩
  rw [HS.out] at own2
  rw [HS.out]
  obtain ⟨a1, c1, rfl, is1, _⟩ := (HO1.out.keeps hk2).is
  obtain ⟨a2, c2, rfl, is2, _⟩ := own2.is
  have HT1 := Lib.hid is1.texts
  have HT2 := Lib.hid is2.texts
  have HK2 := Lib.hid (hk1.trans hk2)
  clear HO1 own2 is1 is2 hk1 hk2
  go_wp2_with fail
  refine (dgjoin_any w2 a _ cap L w2 (hI.keeps HK2.out) (by omega) (by omega) (Keeps.refl w2)).mono ?_
  unfold JoinPost
  rintro e w3 ⟨rfl, hk3⟩
  have HK3 := Lib.hid (HK2.out.trans hk3)
  have HT1' := Lib.hid (HT1.out.keeps hk3)
  have HT2' := Lib.hid (HT2.out.keeps hk3)
  clear HT1 HT2 HK2 hk3
  obtain ⟨J, hJ⟩ : ∃ J, joinE L = J := ⟨_, rfl⟩
  obtain ⟨T, hT⟩ : ∃ T, st (if J = 0 then L.flatten else []) = T := ⟨_, rfl⟩
  have HJ := Lib.hid hJ
  have HT := Lib.hid hT
  rw [hJ, hT]
  clear hJ hT
  go_wp2
  go_loopw [11, 12] (fun v i wr => wRel w3 L v i wr) (fun _ i _ => (intOf i + 1).toNat)
  case atStart => exact ⟨L.length, Nat.le_refl _, by first | rfl | go_num, by rw [List.drop_length]; rfl, Keeps.refl _⟩
  case round =>
    obtain ⟨k, hk, rfl, rfl, hkp⟩ := hrel
    by_cases hlt : 0 < k
    · obtain ⟨m, rfl⟩ : ∃ m, k = m + 1 := ⟨k - 1, by omega⟩
      have hml : m < L.length := by omega
      have e1 : ((m + 1 : Nat) : Int) - 1 = (m : Int) := by omega
      rw [e1]
      obtain ⟨b1, off1, rfl, hc⟩ := (hI.keeps (HK3.out.trans hkp)).get hml
      have HD := Lib.hid (joinE_drop hml)
      have hfl := getD_mem_len hml
      obtain ⟨t, ht⟩ : ∃ t, L.getD m [] = t := ⟨_, rfl⟩
      rw [ht] at hc HD hfl
      have hch := dgrcheck_any wr (st t) wr (by rw [st_size]; omega) (Keeps.refl wr)
      unfold ChPost at hch
      rw [ls_st] at hch
      have HCH := Lib.hid hch
      clear ht hch e1 hk
      obtain ⟨jn, hjn⟩ : ∃ j, joinE (L.drop (m + 1)) = j := ⟨_, rfl⟩
      rw [hjn] at HD
      rw [hjn]
      clear hjn
      by_cases hc0 : check t = 0
      · rw [hc0] at HCH HD
        rw [if_neg (by simp)] at HD
        clear hc0
        go_wp2_with fail
        refine HCH.out.mono ?_
        rintro e w4 ⟨rfl, hk4⟩
        go_wp2
        go_roundw
        case rel => exact ⟨m, by omega, rfl, by rw [HD.out], hkp.trans hk4⟩
        case measure => simp [intOf]
      · rw [if_pos hc0] at HD
        have hcb : (check t != 0) = true := by simpa using hc0
        generalize check t = ce at *
        clear hc0
        go_wp2_with fail
        refine HCH.out.mono ?_
        rintro e w4 ⟨rfl, hk4⟩
        go_wp2
        go_roundw
        case rel => exact ⟨m, by omega, rfl, by rw [HD.out], hkp.trans hk4⟩
        case measure => simp [intOf]
    · obtain rfl : k = 0 := by omega
      rw [List.drop_zero, HJ.out]
      have HK4 := Lib.hid (HK3.out.trans hkp)
      have ht1 := HT1'.out.keeps hkp
      have ht2 := HT2'.out.keeps hkp
      have hI4 := hI.keeps HK4.out
      clear hkp
      go_wp2_with fail
      refine (dgtexts_any a1 a2 _ _ c1 c2 SL wr ht1 ht2 HSL.out).mono ?_
      rintro e w5 ⟨rfl, he5⟩
      have hk5 := HK4.out.eqv he5
      have hI5 := hI.keeps hk5
      clear ht1 ht2 hI4 he5
      by_cases hJ0 : J = 0
      · subst hJ0
        have hTT : st L.flatten = T := by rw [← HT.out, if_pos rfl]
        subst hTT
        go_wp2_with fail
        refine (dgjoined_any a _ cap L w5 hI5 (by omega) hb).mono ?_
        rintro e w6 ⟨rfl, rfl⟩
        go_wp2_with fail
        refine (awake7_any w w5 hk5).mono ?_
        rintro e w7 ⟨rfl, hk7⟩
        go_wp2
        go_ret
        exact ⟨rfl, hk7⟩
      · have hTT : st [] = T := by rw [← HT.out, if_neg hJ0]
        have hTe : T.toList = [] := by rw [← hTT, st_toList]
        have hTb : T.toList.isEmpty = true := by rw [hTe]; rfl
        have hJb : (J != 0) = true := by simpa using hJ0
        have hJc : (J == 0) = false := by simpa using hJ0
        clear hTT hTe hJ0
        go_wp2_with fail
        refine (awake7_any w w5 hk5).mono ?_
        rintro e w7 ⟨rfl, hk7⟩
        go_wp2
        go_ret
        exact ⟨rfl, hk7⟩
theorem walk (s : ByteArray) (hs : s.size ≤ maxLen) (a : Option Addr) (len cap : Nat) (L : List (List UInt8)) (w : World) (hw : IsT w a len L ∧ len ≤ cap ∧ ∀ t ∈ L, t.length ≤ big) :
    Calls Try.prog 6 #[.string s, .slice a len cap] w fun e w' => e = .returned (.bool true) ∧ Below w.heap.size w w' := by
  obtain ⟨hI, _, hb⟩ := hw
  obtain ⟨rfl, _⟩ := id hI
  by_cases h : s.size ≤ 5000
  · cases hf : fewB L
    · exact off s a cap L w hI hb (.inr ⟨h, hf⟩)
    · exact core s a cap L w hI hb h hf
  · exact off s a cap L w hI hb (.inl h)


theorem own : ownKnob Try.prog.godebug = none := by kernel_rfl
theorem laidOut : laidOutB Try.prog = true := by kernel_rfl
set_option maxRecDepth 100000 in
theorem lifted (os : Os) (started : os.Started) (H : Type) (enc : TypeId × Value → H) :
    ReturnsInHanded {} Try.checked os 6 .any (Rows.datagramSplitsSpec.pre6 enc Try.prog Try.f6 Rows.datagramSplitsRow.domain false) (Rows.datagramSplitsSpec.post enc Try.prog Try.f6 false true false false) := by
  refine returnsInHanded_of_change_sized (C := Try.checked) own started (by kernel_rfl) Try.func6
    (ChangeSpec.witness6 (enc := enc) (C := Try.checked) false ⟨#[], #[.string ByteArray.empty, .slice none 0 0], []⟩ 8 (by kernel_rfl) (by kernel_rfl) (by kernel_rfl) (by kernel_rfl)) ?_
  intro W base args ds gs before hval0 hW hcnd hsz _
  have hval : ∀ (j : Nat) t v, Try.f6.params[j]? = some t → args[j]? = some v → Value.okWide Try.prog W .any base t v := hval0
  have hW' := hW
  obtain ⟨p, q, hA0, hV, rfl, hfz, hnd⟩ := hW
  have hA : DataW.TrodAll enc Try.prog W 0 (fun _ => true) true Try.f6.params.toList args.toList ds p := hA0
  rw [Try.params6] at hA hval
  obtain ⟨v0, vs0, d0, ds0, p0, q0, hargs, rfl, rfl, h0, r0⟩ := trodAll_cons hA
  obtain ⟨v1, vs1, d1, ds1, p1, q1, rfl, rfl, rfl, h1, r1⟩ := trodAll_cons r0
  obtain ⟨rfl, rfl, rfl⟩ := trodAll_nil r1
  obtain rfl : args = #[v0, v1] := by cases args; simp_all
  obtain ⟨rfl, rfl⟩ := trodVars_none hV
  obtain ⟨a0, rfl, rfl, rfl, w0⟩ := open_string Try.underlying9 (hval 0 9 v0 rfl rfl) h0
  obtain ⟨a1, len1, cap1, rfl⟩ := okWide_slice Try.underlying33 (hval 1 33 v1 rfl rfl)
  have k1 := h1
  have lt1 : ∀ x ∈ p1, x.block < W.heap.size := by obtain ⟨m, hm⟩ := k1; exact DataW.trod_lt m _ _ _ hm
  have hz1 : ∀ n ∈ d1.weights Try.prog 33, n ≤ reachBytes := fun n hn => by simpa using List.all_eq_true.1 hsz n (DataW.weights_mem_each (j := 1) (t := 33) (d := d1) (by rw [Try.params6]; rfl) rfl n hn)
  obtain ⟨z1, w1⟩ := open_trow_big h1 hz1
  clear hA0 hval0
  refine (walk a0 w0 a1 len1 cap1 z1 W w1).mono fun e W' ⟨he, bel⟩ => ?_
  subst he
  exact ⟨_, rfl, _, _, _, [], _, [], hW', trodAll_mk1 (shut_bool Try.underlying4 _), (trodAll_cons_mk (shut_string Try.underlying9 w0) (trodAll_cons_mk (Below.trod laidOut (by kernel_rfl) (of_decide_eq_true (by kernel_rfl)) k1 bel lt1) trodAll_mk0)), rfl, bel.frame _, fun h => by cases h⟩

theorem over : Rows.datagramSplitsRow.holds Try.pinned (OpenSpec.ofChange Rows.datagramSplitsSpec) :=
  OpenClaim.holds_of_wide 6 Try.f6 rfl rfl rfl rfl rfl rfl rfl ⟨rfl, rfl, rfl, rfl, rfl⟩ rfl rfl rfl rfl rfl (by kernel_rfl) Try.func6 (by kernel_rfl)
    (of_decide_eq_true (by kernel_rfl)) (by unfold Func.isWrapper; first | (rw [if_pos (by decide +kernel)]; kernel_rfl) | (rw [if_neg (by decide +kernel)]; exact ⟨rfl, rfl⟩))
    (fun os started H enc _ => lifted os started H enc)

theorem proved : Rows.DatagramSplitsSaid := over
#print axioms proved
end Go.Proofs.Ytggokcakikkdgaa.datagramSplits
