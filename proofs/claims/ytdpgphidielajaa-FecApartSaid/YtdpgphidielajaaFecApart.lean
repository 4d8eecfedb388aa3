/-
  For any two parts FecApart returns true: two parts that are not the same have sections that are not the same; nothing that was there is changed. No condition.
-/
import Derived.Test.YtdpgphidielajaaRows
import Derived.Test.YtdpgphidielajaaFeC
namespace Go.Proofs.Ytdpgphidielajaa.fecApart
open Go.ChangeShapes Go.WideShapes Go.ChangeAt Go.RowKit Gf Tm Sct Mpe Fec
set_option maxRecDepth 100000
open Go.ChangeMaps (open_string shut_string)
set_option linter.unusedVariables false
set_option maxHeartbeats 6400000 in
theorem walk (p q : Fpt) (w : World) :
    Calls Try.prog 7 #[feV p, feV q] w fun e w' => e = .returned (.bool true) ∧ Below w.heap.size w w' := by
  obtain ⟨b, hb⟩ : ∃ b, w.heap.size = b := ⟨_, rfl⟩
  obtain ⟨wA, hA⟩ : ∃ wX, w.alloc (.cells #[.int .i64 p.pad, .int .i64 p.num, .int .i64 p.la, .int .i64 p.tm.dt, .bool p.tm.tb, .bool p.tm.fr, .int .i64 p.tm.ad, .string p.txt] 25) = wX := ⟨_, rfl⟩
  have HA := Lib.hid (show CsAt b (feC p) wA by rw [← hb, ← hA]; exact CsAt.made w #[.int .i64 p.pad, .int .i64 p.num, .int .i64 p.la, .int .i64 p.tm.dt, .bool p.tm.tb, .bool p.tm.fr, .int .i64 p.tm.ad, .string p.txt] _ (by simp))
  obtain ⟨c, hc⟩ : ∃ b, wA.heap.size = b := ⟨_, rfl⟩
  obtain ⟨wB, hB⟩ : ∃ wX, wA.alloc (.cells #[.int .i64 q.pad, .int .i64 q.num, .int .i64 q.la, .int .i64 q.tm.dt, .bool q.tm.tb, .bool q.tm.fr, .int .i64 q.tm.ad, .string q.txt] 25) = wX := ⟨_, rfl⟩
  have HB := Lib.hid (show CsAt c (feC q) wB by rw [← hc, ← hB]; exact CsAt.made wA #[.int .i64 q.pad, .int .i64 q.num, .int .i64 q.la, .int .i64 q.tm.dt, .bool q.tm.tb, .bool q.tm.fr, .int .i64 q.tm.ad, .string q.txt] _ (by simp))
  have HK0 := Lib.hid (show Keeps w wB by rw [← hB, ← hA]; exact ((Keeps.refl w).alloc _).alloc _)
  have HA0 := Lib.hid (show CsAt b (feC p) wB by rw [← hB]; exact HA.out.keeps ((Keeps.refl wA).alloc _))
  have HB0 := Lib.hid HB.out
  have hcz : wA.heap.size = b + 1 := by rw [← hA, World.size_alloc, hb]
  have hc2 : c = b + 1 := by rw [← hc, hcz]
  subst hc2
  clear hc
  have q5 := HA0.out.cell 7 rfl
  have u5 := HB.out.cell 7 rfl
  have HEP := Lib.hid (fun W h => feencode_any W p W h (Keeps.refl W))
  have HEQ := Lib.hid (fun W h => feencode_any W q W h (Keeps.refl W))
  unfold FecPost at HEP HEQ
  by_cases h : 5000 < p.txt.size
  · obtain ⟨pad, num, la, ⟨dt, tb, fr, ad⟩, txt⟩ := p
    obtain ⟨pad', num', la', ⟨dt', tb', fr', ad'⟩, txt'⟩ := q
    simp only at h hA hB q5 u5
    have hi : (5000 : Int) < (txt.size : Int) := by omega
    go_enter Try.func7, Try.ntmps7
    go_wp2_with (first | (go_at_call 8; refine (awake11_any w _ (HK0.out)).mono ?_; rintro _ w99 ⟨rfl, k99⟩))
    go_ret
    exact ⟨rfl, k99⟩
  · by_cases g : 5000 < q.txt.size
    · obtain ⟨pad, num, la, ⟨dt, tb, fr, ad⟩, txt⟩ := p
      obtain ⟨pad', num', la', ⟨dt', tb', fr', ad'⟩, txt'⟩ := q
      simp only at h g hA hB q5 u5
      have hi : ¬ (5000 : Int) < (txt.size : Int) := by omega
      have gi : (5000 : Int) < (txt'.size : Int) := by omega
      go_enter Try.func7, Try.ntmps7
      go_wp2_with (first | (go_at_call 8; refine (awake11_any w _ (HK0.out)).mono ?_; rintro _ w99 ⟨rfl, k99⟩))
      go_ret
      exact ⟨rfl, k99⟩
    · replace HEP := Lib.hid (fun W => HEP.out W (by omega))
      replace HEQ := Lib.hid (fun W => HEQ.out W (by omega))
      by_cases e1 : ckF p = 0
      · rw [ecF_ok e1] at HEP
        by_cases e2 : ckF q = 0
        · rw [ecF_ok e2] at HEQ
          have HQ := Lib.hid (fun W => eqF p q W)
          have hzY : (st (fby p)).size = p.txt.size + 16 := by rw [st_size, fby_length]
          obtain ⟨n, hn⟩ : ∃ n, p.txt.size + 16 = n := ⟨_, rfl⟩
          rw [hn] at hzY
          have hni : (p.txt.size : Int) + 16 = (n : Int) := by omega
          have wr1 := wrapI (a := (n : Int)) (by omega) (by omega)
          clear hn
          have hsb : ((st (fby p)).toList == (st (fby q)).toList) = sameF p q := by
            by_cases k : p = q
            · subst k; rw [sameF_self]; simp
            · rw [sameF_no k, beq_eq_false_iff_ne, st_toList, st_toList]
              exact fun e => k (fby_inj e1 e2 e)
          have heg := egF
          obtain ⟨Y, hY⟩ : ∃ Y, st (fby p) = Y := ⟨_, rfl⟩
          obtain ⟨Z, hZ⟩ : ∃ Z, st (fby q) = Z := ⟨_, rfl⟩
          obtain ⟨B, hBB⟩ : ∃ B, sameF p q = B := ⟨_, rfl⟩
          simp only [hY] at HEP hsb
          simp only [hZ] at HEQ hsb
          rw [hBB] at hsb
          simp only [hBB] at HQ
          rw [hY] at hzY
          clear e1 e2 hY hZ hBB
          obtain ⟨pad, num, la, ⟨dt, tb, fr, ad⟩, txt⟩ := p
          obtain ⟨pad', num', la', ⟨dt', tb', fr', ad'⟩, txt'⟩ := q
          simp only at h g hA hB q5 u5 hni
          have hi : ¬ (5000 : Int) < (txt.size : Int) := by omega
          have gi : ¬ (5000 : Int) < (txt'.size : Int) := by omega
          go_enter Try.func7, Try.ntmps7
          go_wp2_with (first | (refine wp_ldF (b := b) (off := 0) HA0.out.r rfl _ rfl rfl ?_) | (refine wp_ldF (b := (b + 1)) (off := 0) HB0.out.r rfl _ rfl rfl ?_) | (refine wp_ldF (b := b) (off := 0) HA1.out.r rfl _ rfl rfl ?_) | (refine wp_ldF (b := (b + 1)) (off := 0) HB1.out.r rfl _ rfl rfl ?_) | (refine wp_ldF (b := b) (off := 0) HA2.out.r rfl _ rfl rfl ?_) | (refine wp_ldF (b := (b + 1)) (off := 0) HB2.out.r rfl _ rfl rfl ?_) | (go_at_call 11; (with_reducible refine (HEP.out _).mono ?_); rintro _ w1 ⟨rfl, k1⟩; have HA1 := Lib.hid (HA0.out.keeps k1); have HB1 := Lib.hid (HB0.out.keeps k1); have HK1 := Lib.hid (HK0.out.trans k1); clear k1) | (go_at_call 11; (with_reducible refine (HEQ.out _).mono ?_); rintro _ w2 ⟨rfl, k2⟩; have HA2 := Lib.hid (HA1.out.keeps k2); have HB2 := Lib.hid (HB1.out.keeps k2); have HK2 := Lib.hid (HK1.out.trans k2); have q7 : w2.cell? ⟨b, 7, none⟩ = some (.string txt) := HA2.out.cell 7 rfl; clear k2) | (refine wp_cmp (HQ.out _) egF rfl _ _ rfl rfl rfl ?_) | (go_at_call 8; refine (awake11_any w _ (HK2.out)).mono ?_; rintro _ w99 ⟨rfl, k99⟩))
          go_ret
          exact ⟨rfl, k99⟩
        · rw [ecF_no e2] at HEQ
          obtain ⟨n, hn⟩ : ∃ n, ckF q = n := ⟨_, rfl⟩
          have hnb : (n != 0) = true := by rw [← hn]; simpa using e2
          simp only [hn, show st [] = (⟨#[]⟩ : ByteArray) from rfl] at HEQ
          obtain ⟨Y, hY⟩ : ∃ Y, st (fby p) = Y := ⟨_, rfl⟩
          simp only [hY] at HEP
          clear e1 e2 hn hY
          obtain ⟨pad, num, la, ⟨dt, tb, fr, ad⟩, txt⟩ := p
          obtain ⟨pad', num', la', ⟨dt', tb', fr', ad'⟩, txt'⟩ := q
          simp only at h g hA hB q5 u5
          have hi : ¬ (5000 : Int) < (txt.size : Int) := by omega
          have gi : ¬ (5000 : Int) < (txt'.size : Int) := by omega
          go_enter Try.func7, Try.ntmps7
          go_wp2_with (first | (refine wp_ldF (b := b) (off := 0) HA0.out.r rfl _ rfl rfl ?_) | (refine wp_ldF (b := (b + 1)) (off := 0) HB0.out.r rfl _ rfl rfl ?_) | (refine wp_ldF (b := b) (off := 0) HA1.out.r rfl _ rfl rfl ?_) | (refine wp_ldF (b := (b + 1)) (off := 0) HB1.out.r rfl _ rfl rfl ?_) | (refine wp_ldF (b := b) (off := 0) HA2.out.r rfl _ rfl rfl ?_) | (refine wp_ldF (b := (b + 1)) (off := 0) HB2.out.r rfl _ rfl rfl ?_) | (go_at_call 11; (with_reducible refine (HEP.out _).mono ?_); rintro _ w1 ⟨rfl, k1⟩; have HA1 := Lib.hid (HA0.out.keeps k1); have HB1 := Lib.hid (HB0.out.keeps k1); have HK1 := Lib.hid (HK0.out.trans k1); clear k1) | (go_at_call 11; (with_reducible refine (HEQ.out _).mono ?_); rintro _ w2 ⟨rfl, k2⟩; have HA2 := Lib.hid (HA1.out.keeps k2); have HB2 := Lib.hid (HB1.out.keeps k2); have HK2 := Lib.hid (HK1.out.trans k2); clear k2) | (go_at_call 8; refine (awake11_any w _ (HK2.out)).mono ?_; rintro _ w99 ⟨rfl, k99⟩))
          go_ret
          exact ⟨rfl, k99⟩
      · rw [ecF_no e1] at HEP
        obtain ⟨n, hn⟩ : ∃ n, ckF p = n := ⟨_, rfl⟩
        have hnb : (n != 0) = true := by rw [← hn]; simpa using e1
        simp only [hn, show st [] = (⟨#[]⟩ : ByteArray) from rfl] at HEP
        obtain ⟨r, hr⟩ : ∃ r, ecF q = r := ⟨_, rfl⟩
        simp only [hr] at HEQ
        clear e1 hn hr
        obtain ⟨pad, num, la, ⟨dt, tb, fr, ad⟩, txt⟩ := p
        obtain ⟨pad', num', la', ⟨dt', tb', fr', ad'⟩, txt'⟩ := q
        simp only at h g hA hB q5 u5
        have hi : ¬ (5000 : Int) < (txt.size : Int) := by omega
        have gi : ¬ (5000 : Int) < (txt'.size : Int) := by omega
        go_enter Try.func7, Try.ntmps7
        go_wp2_with (first | (refine wp_ldF (b := b) (off := 0) HA0.out.r rfl _ rfl rfl ?_) | (refine wp_ldF (b := (b + 1)) (off := 0) HB0.out.r rfl _ rfl rfl ?_) | (refine wp_ldF (b := b) (off := 0) HA1.out.r rfl _ rfl rfl ?_) | (refine wp_ldF (b := (b + 1)) (off := 0) HB1.out.r rfl _ rfl rfl ?_) | (refine wp_ldF (b := b) (off := 0) HA2.out.r rfl _ rfl rfl ?_) | (refine wp_ldF (b := (b + 1)) (off := 0) HB2.out.r rfl _ rfl rfl ?_) | (go_at_call 11; (with_reducible refine (HEP.out _).mono ?_); rintro _ w1 ⟨rfl, k1⟩; have HA1 := Lib.hid (HA0.out.keeps k1); have HB1 := Lib.hid (HB0.out.keeps k1); have HK1 := Lib.hid (HK0.out.trans k1); clear k1) | (go_at_call 11; (with_reducible refine (HEQ.out _).mono ?_); rintro _ w2 ⟨rfl, k2⟩; have HA2 := Lib.hid (HA1.out.keeps k2); have HB2 := Lib.hid (HB1.out.keeps k2); have HK2 := Lib.hid (HK1.out.trans k2); clear k2) | (go_at_call 8; refine (awake11_any w _ (HK2.out)).mono ?_; rintro _ w99 ⟨rfl, k99⟩))
        go_ret
        exact ⟨rfl, k99⟩


theorem own : ownKnob Try.prog.godebug = none := by kernel_rfl
theorem laidOut : laidOutB Try.prog = true := by kernel_rfl
set_option maxRecDepth 100000 in
theorem lifted (os : Os) (started : os.Started) (H : Type) (enc : TypeId × Value → H) :
    ReturnsInHanded {} Try.checked os 7 .any (Rows.fecApartSpec.pre6 enc Try.prog Try.f7 Rows.fecApartRow.domain false) (Rows.fecApartSpec.post enc Try.prog Try.f7 false true false false) := by
  refine returnsInHanded_of_change (C := Try.checked) own started (by kernel_rfl) Try.func7
    (ChangeSpec.witness6 (enc := enc) (C := Try.checked) false ⟨#[], #[.agg #[.int .i64 0, .int .i64 0, .int .i64 0, .int .i64 0, .bool false, .bool false, .int .i64 0, .string ByteArray.empty], .agg #[.int .i64 0, .int .i64 0, .int .i64 0, .int .i64 0, .bool false, .bool false, .int .i64 0, .string ByteArray.empty]], []⟩ 8 (by kernel_rfl) (by kernel_rfl) (by kernel_rfl) (by kernel_rfl)) ?_
  intro W base args ds gs before hval0 hW hcnd _
  have hval : ∀ (j : Nat) t v, Try.f7.params[j]? = some t → args[j]? = some v → Value.okWide Try.prog W .any base t v := hval0
  have hW' := hW
  obtain ⟨p, q, hA0, hV, rfl, hfz, hnd⟩ := hW
  have hA : DataW.TrodAll enc Try.prog W 0 (fun _ => true) true Try.f7.params.toList args.toList ds p := hA0
  rw [Try.params7] at hA hval
  obtain ⟨v0, vs0, d0, ds0, p0, q0, hargs, rfl, rfl, h0, r0⟩ := trodAll_cons hA
  obtain ⟨v1, vs1, d1, ds1, p1, q1, rfl, rfl, rfl, h1, r1⟩ := trodAll_cons r0
  obtain ⟨rfl, rfl, rfl⟩ := trodAll_nil r1
  obtain rfl : args = #[v0, v1] := by cases args; simp_all
  obtain ⟨rfl, rfl⟩ := trodVars_none hV
  have k0 := h0
  have lt0 : ∀ x ∈ p0, x.block < W.heap.size := by obtain ⟨m, hm⟩ := k0; exact DataW.trod_lt m _ _ _ hm
  obtain ⟨P0, rfl⟩ := open_fpt (hval 0 25 v0 rfl rfl) h0
  have k1 := h1
  have lt1 : ∀ x ∈ p1, x.block < W.heap.size := by obtain ⟨m, hm⟩ := k1; exact DataW.trod_lt m _ _ _ hm
  obtain ⟨P1, rfl⟩ := open_fpt (hval 1 25 v1 rfl rfl) h1
  clear hA0 hval0
  refine (walk P0 P1 W).mono fun e W' ⟨he, bel⟩ => ?_
  subst he
  exact ⟨_, rfl, _, _, _, [], _, [], hW', trodAll_mk1 (shut_bool Try.underlying4 _), (trodAll_cons_mk (Below.trod laidOut (by kernel_rfl) (of_decide_eq_true (by kernel_rfl)) k0 bel lt0) (trodAll_cons_mk (Below.trod laidOut (by kernel_rfl) (of_decide_eq_true (by kernel_rfl)) k1 bel lt1) trodAll_mk0)), rfl, bel.frame _, fun h => by cases h⟩

theorem over : Rows.fecApartRow.holds Try.pinned (OpenSpec.ofChange Rows.fecApartSpec) :=
  OpenClaim.holds_of_wide 7 Try.f7 rfl rfl rfl rfl rfl rfl rfl ⟨rfl, rfl, rfl, rfl, rfl⟩ rfl rfl rfl rfl rfl (by kernel_rfl) Try.func7 (by kernel_rfl)
    (of_decide_eq_true (by kernel_rfl)) (by unfold Func.isWrapper; first | (rw [if_pos (by decide +kernel)]; kernel_rfl) | (rw [if_neg (by decide +kernel)]; exact ⟨rfl, rfl⟩))
    (fun os started H enc _ => lifted os started H enc)

theorem proved : Rows.FecApartSaid := over
#print axioms proved
end Go.Proofs.Ytdpgphidielajaa.fecApart
