/-
  For any list of strings and any string DatagramBack returns true: Split of Join is the list, and Join of Split the bytes; nothing that was there is changed. No condition.
-/
import Derived.Test.YtggokcakikkdgaaRows
import Derived.Test.YtggokcakikkdgaaDgArgs
namespace Go.Proofs.Ytggokcakikkdgaa.datagramBack
open Go.ChangeShapes Go.WideShapes Go.ChangeAt Go.RowKit Gf Dg
set_option maxRecDepth 100000
open Go.ChangeMaps (open_string shut_string)
set_option linter.unusedVariables false
set_option maxHeartbeats 1600000 in
theorem off (s : ByteArray) (a : Option Addr) (cap : Nat) (L : List (List UInt8)) (w : World) (hI : IsT w a L.length L) (hb : ∀ t ∈ L, t.length ≤ big) (h : fewB L = false ∨ (fewB L = true ∧ ¬ s.size ≤ 5000)) :
    Calls Try.prog 7 #[.slice a L.length cap, .string s] w fun e w' => e = .returned (.bool true) ∧ Below w.heap.size w w' := by
  rcases h with hf | ⟨hf, h⟩
  all_goals
    have HF := Lib.hid hf
    clear hf
    go_enter Try.func7, Try.ntmps7
    go_wp2_with fail
    refine (dgfew_any a _ cap L w hI hb).mono ?_
    rintro e w1 ⟨rfl, rfl⟩
    rw [HF.out]
    go_wp2_with fail
    refine (awake7_any w w (Keeps.refl w)).mono ?_
    rintro e w1 ⟨rfl, hk1⟩
    go_wp2
    go_ret
    exact ⟨rfl, hk1⟩
theorem many : ∀ l : List (List UInt8), (∀ d ∈ l, check d = 0) → l.length ≤ l.flatten.length
  | [], _ => by simp
  | d :: r, hd => by
    have := many r fun x hx => hd x (by simp [hx])
    have h20 := (peek_ok (check_ok (hd d (by simp))).1).2.2.2.2.2
    rw [List.flatten_cons, List.length_append, List.length_cons]; omega
set_option maxHeartbeats 4000000 in
theorem core (s : ByteArray) (a : Option Addr) (cap : Nat) (L : List (List UInt8)) (w : World) (hI : IsT w a L.length L) (hb : ∀ t ∈ L, t.length ≤ big) (h : s.size ≤ 5000) (hf : fewB L = true) :
    Calls Try.prog 7 #[.slice a L.length cap, .string s] w fun e w' => e = .returned (.bool true) ∧ Below w.heap.size w w' := by
  have hl : L.length ≤ 30 ∧ L.flatten.length ≤ 10000 := by
    have h2 := hf
    unfold fewB at h2; rw [Bool.and_eq_true] at h2; exact ⟨of_decide_eq_true h2.1, of_decide_eq_true h2.2⟩
  obtain ⟨hl1, hl2⟩ := hl
  have hz : (st L.flatten).size ≤ 10000 := by rw [st_size]; exact hl2
  have HF := Lib.hid hf
  clear hf
  obtain ⟨⟨SL, se⟩, hS⟩ : ∃ q, split (ls s) = q := ⟨_, rfl⟩
  have HS := Lib.hid hS
  have HGD := Lib.hid (show se = 0 → SL.flatten = ls s ∧ joinE SL = 0 ∧ SL.length ≤ 1000000 by
    intro he
    obtain ⟨j1, j2⟩ := join_split (l := ls s) (by rw [hS]; exact he)
    rw [hS] at j1 j2
    refine ⟨j1, j2, ?_⟩
    have := many SL (joinE_ok j2)
    rw [show SL.flatten = ls s from j1, ← ls_size] at this
    omega)
  have HBD := Lib.hid (show se ≠ 0 → SL = [] by
    intro he
    have := split_err (l := ls s) (by rw [hS]; exact he)
    rw [hS] at this; exact this)
  clear hS
  go_enter Try.func7, Try.ntmps7
  go_wp2_with fail
  refine (dgfew_any a _ cap L w hI hb).mono ?_
  rintro e w1 ⟨rfl, rfl⟩
  rw [HF.out]
  go_wp2_with fail
  refine (dgjoin_any w a _ cap L w hI (by omega) (by omega) (Keeps.refl w)).mono ?_
  unfold JoinPost
  rintro e w3 ⟨rfl, hk3⟩
  by_cases hJ0 : joinE L = 0
  · rw [if_pos hJ0, hJ0]
    have HSP := Lib.hid (split_join (joinE_ok hJ0))
    have hI3 := hI.keeps hk3
    clear hJ0
    go_wp2_with fail
    refine (dgsplit_any w3 (st L.flatten) w3 (by omega) (Keeps.refl w3)).mono ?_
    rintro e w4 ⟨v4, rfl, own4, hk4⟩
    rw [ls_st, HSP.out] at own4
    rw [ls_st, HSP.out]
    obtain ⟨a4, c4, rfl, is4, _⟩ := own4.is
    have ht4 := is4.texts
    have hI4 := hI3.keeps hk4
    have hk4' := hk3.trans hk4
    clear own4 is4 hk4 hI3 hk3
    go_wp2_with fail
    refine (dgtexts_any a4 a _ _ c4 cap L w4 ht4 hI4 (by omega)).mono ?_
    rintro e w5 ⟨rfl, he5⟩
    have hk5 := hk4'.eqv he5
    clear he5 hk4' ht4 hI4

    go_wp2_with fail
    refine (dgsplit_any w5 s w5 (by omega) (Keeps.refl w5)).mono ?_
    rintro e w6 ⟨v6, rfl, own6, hk6⟩
    rw [HS.out] at own6
    rw [HS.out]
    have hk6' := hk5.trans hk6
    obtain ⟨a6, c6, rfl, is6, _⟩ := own6.is
    have HT6 := Lib.hid is6.texts
    clear own6 is6 hk6 hk5
    by_cases hg : se = 0
    · subst hg
      have HE := Lib.hid (HGD.out rfl)
      go_wp2_with fail
      refine (dgjoin_any w6 a6 _ c6 SL w6 HT6.out (HE.out).2.2 (by rw [(HE.out).1, ← ls_size]; omega) (Keeps.refl w6)).mono ?_
      unfold JoinPost
      rintro e w7 ⟨rfl, hk7⟩
      rw [(HE.out).2.1, if_pos rfl, (HE.out).1, st_ls]
      have hk7' := hk6'.trans hk7
      clear hk7
      go_wp2_with fail
      refine (awake7_any w w7 hk7').mono ?_
      rintro e w8 ⟨rfl, hk8⟩
      go_wp2
      go_ret
      exact ⟨rfl, hk8⟩
    · have hne : (se != 0) = true := by simpa using hg
      have HB := Lib.hid (HBD.out hg)
      have hlen : SL.length = 0 := by rw [HB.out]; rfl
      clear hg
      go_wp2_with fail
      refine (awake7_any w w6 hk6').mono ?_
      rintro e w8 ⟨rfl, hk8⟩
      go_wp2
      go_ret
      exact ⟨rfl, hk8⟩
  · rw [if_neg hJ0]
    have hJb : (joinE L == 0) = false := by simpa using hJ0
    have hk5 := hk3
    obtain ⟨w5, hw5⟩ : ∃ w5, w3 = w5 := ⟨_, rfl⟩
    subst hw5
    generalize joinE L = J at *
    clear hJ0 hk3

    go_wp2_with fail
    refine (dgsplit_any w3 s w3 (by omega) (Keeps.refl w3)).mono ?_
    rintro e w6 ⟨v6, rfl, own6, hk6⟩
    rw [HS.out] at own6
    rw [HS.out]
    have hk6' := hk5.trans hk6
    obtain ⟨a6, c6, rfl, is6, _⟩ := own6.is
    have HT6 := Lib.hid is6.texts
    clear own6 is6 hk6 hk5
    by_cases hg : se = 0
    · subst hg
      have HE := Lib.hid (HGD.out rfl)
      go_wp2_with fail
      refine (dgjoin_any w6 a6 _ c6 SL w6 HT6.out (HE.out).2.2 (by rw [(HE.out).1, ← ls_size]; omega) (Keeps.refl w6)).mono ?_
      unfold JoinPost
      rintro e w7 ⟨rfl, hk7⟩
      rw [(HE.out).2.1, if_pos rfl, (HE.out).1, st_ls]
      have hk7' := hk6'.trans hk7
      clear hk7
      go_wp2_with fail
      refine (awake7_any w w7 hk7').mono ?_
      rintro e w8 ⟨rfl, hk8⟩
      go_wp2
      go_ret
      exact ⟨rfl, hk8⟩
    · have hne : (se != 0) = true := by simpa using hg
      have HB := Lib.hid (HBD.out hg)
      have hlen : SL.length = 0 := by rw [HB.out]; rfl
      clear hg
      go_wp2_with fail
      refine (awake7_any w w6 hk6').mono ?_
      rintro e w8 ⟨rfl, hk8⟩
      go_wp2
      go_ret
      exact ⟨rfl, hk8⟩
theorem walk (a : Option Addr) (len cap : Nat) (L : List (List UInt8)) (w : World) (hw : IsT w a len L ∧ len ≤ cap ∧ ∀ t ∈ L, t.length ≤ big) (s : ByteArray) (hs : s.size ≤ maxLen) :
    Calls Try.prog 7 #[.slice a len cap, .string s] w fun e w' => e = .returned (.bool true) ∧ Below w.heap.size w w' := by
  obtain ⟨hI, _, hb⟩ := hw
  obtain ⟨rfl, _⟩ := id hI
  cases hf : fewB L
  · exact off s a cap L w hI hb (.inl hf)
  · by_cases h : s.size ≤ 5000
    · exact core s a cap L w hI hb h hf
    · exact off s a cap L w hI hb (.inr ⟨hf, h⟩)


theorem own : ownKnob Try.prog.godebug = none := by kernel_rfl
theorem laidOut : laidOutB Try.prog = true := by kernel_rfl
set_option maxRecDepth 100000 in
theorem lifted (os : Os) (started : os.Started) (H : Type) (enc : TypeId × Value → H) :
    ReturnsInHanded {} Try.checked os 7 .any (Rows.datagramBackSpec.pre6 enc Try.prog Try.f7 Rows.datagramBackRow.domain false) (Rows.datagramBackSpec.post enc Try.prog Try.f7 false true false false) := by
  refine returnsInHanded_of_change_sized (C := Try.checked) own started (by kernel_rfl) Try.func7
    (ChangeSpec.witness6 (enc := enc) (C := Try.checked) false ⟨#[], #[.slice none 0 0, .string ByteArray.empty], []⟩ 8 (by kernel_rfl) (by kernel_rfl) (by kernel_rfl) (by kernel_rfl)) ?_
  intro W base args ds gs before hval0 hW hcnd hsz _
  have hval : ∀ (j : Nat) t v, Try.f7.params[j]? = some t → args[j]? = some v → Value.okWide Try.prog W .any base t v := hval0
  have hW' := hW
  obtain ⟨p, q, hA0, hV, rfl, hfz, hnd⟩ := hW
  have hA : DataW.TrodAll enc Try.prog W 0 (fun _ => true) true Try.f7.params.toList args.toList ds p := hA0
  rw [Try.params7] at hA hval
  obtain ⟨v0, vs0, d0, ds0, p0, q0, hargs, rfl, rfl, h0, r0⟩ := trodAll_cons hA
  obtain ⟨v1, vs1, d1, ds1, p1, q1, rfl, rfl, rfl, h1, r1⟩ := trodAll_cons r0
  obtain ⟨rfl, rfl, rfl⟩ := trodAll_nil r1
  obtain rfl : args = #[v0, v1] := by cases args; simp_all
  obtain ⟨rfl, rfl⟩ := trodVars_none hV
  obtain ⟨a0, len0, cap0, rfl⟩ := okWide_slice Try.underlying33 (hval 0 33 v0 rfl rfl)
  have k0 := h0
  have lt0 : ∀ x ∈ p0, x.block < W.heap.size := by obtain ⟨m, hm⟩ := k0; exact DataW.trod_lt m _ _ _ hm
  have hz0 : ∀ n ∈ d0.weights Try.prog 33, n ≤ reachBytes := fun n hn => by simpa using List.all_eq_true.1 hsz n (DataW.weights_mem_each (j := 0) (t := 33) (d := d0) (by rw [Try.params7]; rfl) rfl n hn)
  obtain ⟨z0, w0⟩ := open_trow_big h0 hz0
  obtain ⟨a1, rfl, rfl, rfl, w1⟩ := open_string Try.underlying9 (hval 1 9 v1 rfl rfl) h1
  clear hA0 hval0
  refine (walk a0 len0 cap0 z0 W w0 a1 w1).mono fun e W' ⟨he, bel⟩ => ?_
  subst he
  exact ⟨_, rfl, _, _, _, [], _, [], hW', trodAll_mk1 (shut_bool Try.underlying4 _), (trodAll_cons_mk (Below.trod laidOut (by kernel_rfl) (of_decide_eq_true (by kernel_rfl)) k0 bel lt0) (trodAll_cons_mk (shut_string Try.underlying9 w1) trodAll_mk0)), rfl, bel.frame _, fun h => by cases h⟩

theorem over : Rows.datagramBackRow.holds Try.pinned (OpenSpec.ofChange Rows.datagramBackSpec) :=
  OpenClaim.holds_of_wide 7 Try.f7 rfl rfl rfl rfl rfl rfl rfl ⟨rfl, rfl, rfl, rfl, rfl⟩ rfl rfl rfl rfl rfl (by kernel_rfl) Try.func7 (by kernel_rfl)
    (of_decide_eq_true (by kernel_rfl)) (by unfold Func.isWrapper; first | (rw [if_pos (by decide +kernel)]; kernel_rfl) | (rw [if_neg (by decide +kernel)]; exact ⟨rfl, rfl⟩))
    (fun os started H enc _ => lifted os started H enc)

theorem proved : Rows.DatagramBackSaid := over
#print axioms proved
end Go.Proofs.Ytggokcakikkdgaa.datagramBack
